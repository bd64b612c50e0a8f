/-
  No cell of these rows narrows 'for every input' (looked for: loops, veiled, ifaces, maps, wideKeys, modest, calm, conditions, laid).
  DERIVED. THE GIVEN ROWS OF THIS SEAT. 10 by the template 'for every input the law returns true; each argument reads behind the call as it read before'; 0 by the template 'total and deterministic' (their statements: YtnkcdgpaphphaaaTotals.lean).
  GIVEN WITH THE SEED: the statements are not yours to turn. If you find one false, say at which input.
  Laid BY PROGRAM, IN A SANDBOX (cutbox-rows.mjs): the forced cells as the released guide's own fill.sh prints them over the translation 700f098c85e36177… (all of the seat's roots in one cut). By AI agents, Wed Nov 11 2026. No macro, syntax, notation, axiom, sorry.
-/
import Derived.Test.YtnkcdgpaphphaaaChecked
import GoSem.Claim
import GoSem.ClaimJoined
import GoSem.ClaimMapViews
import Derived.JoinedTies
import Derived.KernelRfl
namespace Go.Proofs.Ytnkcdgpaphphaaa
/- THE CELL 'sum', in the pinned program and in every row, IS THE sha256 OF THE DUMP (.gsa) THAT YtnkcdgpaphphaaaProg.lean LOADS. Nothing in Lean hashes anything: it is a label: what it is worth is what the hold of that sum in a sandbox is worth. -/
noncomputable def Try.pinned : Pinned := { name := "ytnkcdgpaphphaaa", sum := "700f098c85e36177057c170c18ee019003dc22cbc321de3bbf7754196b71b6fc", checked := Try.checked }
namespace Rows
def none {H : Type} : Left H := { results := [], args := [] }

/-- 'weirgatelaw05.GraphActs': WHATEVER THE INPUT: true; the input reads as it did. -/
def graphActsSpec : ChangeSpec := { name := "graphActs", fn := fun _ => fun
  | [d1, d2] => { results := [.lit (.bool true)], args := [d1, d2] }
  | _ => none }
def graphActsRow : OpenClaim := { program := "ytnkcdgpaphphaaa", sum := "700f098c85e36177057c170c18ee019003dc22cbc321de3bbf7754196b71b6fc", func := "weirgate/weirgatelaw05.GraphActs", spec := "graphActs", unfollowed := true, recurses := true, plainKeys := false, apart := false }
def GraphActsSaid : Prop := graphActsRow.holds Try.pinned (OpenSpec.ofChange graphActsSpec)

/-- ITS FALSE NEIGHBOUR: 'it returns false'. Refute it at one input. -/
def graphActsWrong : ChangeSpec := { name := "graphActs", fn := fun _ => fun
  | [d1, d2] => { results := [.lit (.bool false)], args := [d1, d2] }
  | _ => none }
def GraphActsWrongFalsely : Prop := graphActsRow.holds Try.pinned (OpenSpec.ofChange graphActsWrong)

/-- 'weirgatelaw05.GraphTruth': WHATEVER THE INPUT: true; the input reads as it did. -/
def graphTruthSpec : ChangeSpec := { name := "graphTruth", fn := fun _ => fun
  | [d1, d2] => { results := [.lit (.bool true)], args := [d1, d2] }
  | _ => none }
def graphTruthRow : OpenClaim := { program := "ytnkcdgpaphphaaa", sum := "700f098c85e36177057c170c18ee019003dc22cbc321de3bbf7754196b71b6fc", func := "weirgate/weirgatelaw05.GraphTruth", spec := "graphTruth", unfollowed := true, recurses := true, plainKeys := false, apart := false }
def GraphTruthSaid : Prop := graphTruthRow.holds Try.pinned (OpenSpec.ofChange graphTruthSpec)

/-- ITS FALSE NEIGHBOUR: 'it returns false'. Refute it at one input. -/
def graphTruthWrong : ChangeSpec := { name := "graphTruth", fn := fun _ => fun
  | [d1, d2] => { results := [.lit (.bool false)], args := [d1, d2] }
  | _ => none }
def GraphTruthWrongFalsely : Prop := graphTruthRow.holds Try.pinned (OpenSpec.ofChange graphTruthWrong)

/-- 'weirgatelaw06.BitsDo': WHATEVER THE INPUT: true; the input reads as it did. -/
def bitsDoSpec : ChangeSpec := { name := "bitsDo", fn := fun _ => fun
  | [d1, d2, d3] => { results := [.lit (.bool true)], args := [d1, d2, d3] }
  | _ => none }
def bitsDoRow : OpenClaim := { program := "ytnkcdgpaphphaaa", sum := "700f098c85e36177057c170c18ee019003dc22cbc321de3bbf7754196b71b6fc", func := "weirgate/weirgatelaw06.BitsDo", spec := "bitsDo", inPlace := ["slices.overlaps[int]"], unfollowed := true, recurses := true, plainKeys := false, apart := false }
def BitsDoSaid : Prop := bitsDoRow.holds Try.pinned (OpenSpec.ofChange bitsDoSpec)

/-- ITS FALSE NEIGHBOUR: 'it returns false'. Refute it at one input. -/
def bitsDoWrong : ChangeSpec := { name := "bitsDo", fn := fun _ => fun
  | [d1, d2, d3] => { results := [.lit (.bool false)], args := [d1, d2, d3] }
  | _ => none }
def BitsDoWrongFalsely : Prop := bitsDoRow.holds Try.pinned (OpenSpec.ofChange bitsDoWrong)

/-- 'weirgatelaw06.BitsConst': WHATEVER THE INPUT: true; the input reads as it did. -/
def bitsConstSpec : ChangeSpec := { name := "bitsConst", fn := fun _ => fun
  | [d1, d2, d3] => { results := [.lit (.bool true)], args := [d1, d2, d3] }
  | _ => none }
def bitsConstRow : OpenClaim := { program := "ytnkcdgpaphphaaa", sum := "700f098c85e36177057c170c18ee019003dc22cbc321de3bbf7754196b71b6fc", func := "weirgate/weirgatelaw06.BitsConst", spec := "bitsConst", inPlace := ["slices.overlaps[int]"], unfollowed := true, recurses := true, plainKeys := false, apart := false }
def BitsConstSaid : Prop := bitsConstRow.holds Try.pinned (OpenSpec.ofChange bitsConstSpec)

/-- ITS FALSE NEIGHBOUR: 'it returns false'. Refute it at one input. -/
def bitsConstWrong : ChangeSpec := { name := "bitsConst", fn := fun _ => fun
  | [d1, d2, d3] => { results := [.lit (.bool false)], args := [d1, d2, d3] }
  | _ => none }
def BitsConstWrongFalsely : Prop := bitsConstRow.holds Try.pinned (OpenSpec.ofChange bitsConstWrong)

/-- 'weirgatelaw06.BitsParts': WHATEVER THE INPUT: true; the input reads as it did. -/
def bitsPartsSpec : ChangeSpec := { name := "bitsParts", fn := fun _ => fun
  | [d1, d2, d3] => { results := [.lit (.bool true)], args := [d1, d2, d3] }
  | _ => none }
def bitsPartsRow : OpenClaim := { program := "ytnkcdgpaphphaaa", sum := "700f098c85e36177057c170c18ee019003dc22cbc321de3bbf7754196b71b6fc", func := "weirgate/weirgatelaw06.BitsParts", spec := "bitsParts", inPlace := ["slices.overlaps[int]"], unfollowed := true, recurses := true, plainKeys := false, apart := false }
def BitsPartsSaid : Prop := bitsPartsRow.holds Try.pinned (OpenSpec.ofChange bitsPartsSpec)

/-- ITS FALSE NEIGHBOUR: 'it returns false'. Refute it at one input. -/
def bitsPartsWrong : ChangeSpec := { name := "bitsParts", fn := fun _ => fun
  | [d1, d2, d3] => { results := [.lit (.bool false)], args := [d1, d2, d3] }
  | _ => none }
def BitsPartsWrongFalsely : Prop := bitsPartsRow.holds Try.pinned (OpenSpec.ofChange bitsPartsWrong)

/-- 'weirgatelaw06.BitsMux': WHATEVER THE INPUT: true; the input reads as it did. -/
def bitsMuxSpec : ChangeSpec := { name := "bitsMux", fn := fun _ => fun
  | [d1, d2, d3] => { results := [.lit (.bool true)], args := [d1, d2, d3] }
  | _ => none }
def bitsMuxRow : OpenClaim := { program := "ytnkcdgpaphphaaa", sum := "700f098c85e36177057c170c18ee019003dc22cbc321de3bbf7754196b71b6fc", func := "weirgate/weirgatelaw06.BitsMux", spec := "bitsMux", inPlace := ["slices.overlaps[int]"], unfollowed := true, recurses := true, plainKeys := false, apart := false }
def BitsMuxSaid : Prop := bitsMuxRow.holds Try.pinned (OpenSpec.ofChange bitsMuxSpec)

/-- ITS FALSE NEIGHBOUR: 'it returns false'. Refute it at one input. -/
def bitsMuxWrong : ChangeSpec := { name := "bitsMux", fn := fun _ => fun
  | [d1, d2, d3] => { results := [.lit (.bool false)], args := [d1, d2, d3] }
  | _ => none }
def BitsMuxWrongFalsely : Prop := bitsMuxRow.holds Try.pinned (OpenSpec.ofChange bitsMuxWrong)

/-- 'weirgatelaw06.BitsLaws': WHATEVER THE INPUT: true; the input reads as it did. -/
def bitsLawsSpec : ChangeSpec := { name := "bitsLaws", fn := fun _ => fun
  | [d1, d2, d3] => { results := [.lit (.bool true)], args := [d1, d2, d3] }
  | _ => none }
def bitsLawsRow : OpenClaim := { program := "ytnkcdgpaphphaaa", sum := "700f098c85e36177057c170c18ee019003dc22cbc321de3bbf7754196b71b6fc", func := "weirgate/weirgatelaw06.BitsLaws", spec := "bitsLaws", inPlace := ["slices.overlaps[int]"], unfollowed := true, recurses := true, plainKeys := false, apart := false }
def BitsLawsSaid : Prop := bitsLawsRow.holds Try.pinned (OpenSpec.ofChange bitsLawsSpec)

/-- ITS FALSE NEIGHBOUR: 'it returns false'. Refute it at one input. -/
def bitsLawsWrong : ChangeSpec := { name := "bitsLaws", fn := fun _ => fun
  | [d1, d2, d3] => { results := [.lit (.bool false)], args := [d1, d2, d3] }
  | _ => none }
def BitsLawsWrongFalsely : Prop := bitsLawsRow.holds Try.pinned (OpenSpec.ofChange bitsLawsWrong)

/-- 'weirgatelaw06.BitsWide': WHATEVER THE INPUT: true; the input reads as it did. -/
def bitsWideSpec : ChangeSpec := { name := "bitsWide", fn := fun _ => fun
  | [d1, d2] => { results := [.lit (.bool true)], args := [d1, d2] }
  | _ => none }
def bitsWideRow : OpenClaim := { program := "ytnkcdgpaphphaaa", sum := "700f098c85e36177057c170c18ee019003dc22cbc321de3bbf7754196b71b6fc", func := "weirgate/weirgatelaw06.BitsWide", spec := "bitsWide", inPlace := ["slices.overlaps[int]"], unfollowed := true, recurses := true, plainKeys := false, apart := false }
def BitsWideSaid : Prop := bitsWideRow.holds Try.pinned (OpenSpec.ofChange bitsWideSpec)

/-- ITS FALSE NEIGHBOUR: 'it returns false'. Refute it at one input. -/
def bitsWideWrong : ChangeSpec := { name := "bitsWide", fn := fun _ => fun
  | [d1, d2] => { results := [.lit (.bool false)], args := [d1, d2] }
  | _ => none }
def BitsWideWrongFalsely : Prop := bitsWideRow.holds Try.pinned (OpenSpec.ofChange bitsWideWrong)

/-- 'weirgatelaw06.BitsOrder': WHATEVER THE INPUT: true; the input reads as it did. -/
def bitsOrderSpec : ChangeSpec := { name := "bitsOrder", fn := fun _ => fun
  | [d1, d2, d3] => { results := [.lit (.bool true)], args := [d1, d2, d3] }
  | _ => none }
def bitsOrderRow : OpenClaim := { program := "ytnkcdgpaphphaaa", sum := "700f098c85e36177057c170c18ee019003dc22cbc321de3bbf7754196b71b6fc", func := "weirgate/weirgatelaw06.BitsOrder", spec := "bitsOrder", inPlace := ["slices.overlaps[int]"], unfollowed := true, recurses := true, plainKeys := false, apart := false }
def BitsOrderSaid : Prop := bitsOrderRow.holds Try.pinned (OpenSpec.ofChange bitsOrderSpec)

/-- ITS FALSE NEIGHBOUR: 'it returns false'. Refute it at one input. -/
def bitsOrderWrong : ChangeSpec := { name := "bitsOrder", fn := fun _ => fun
  | [d1, d2, d3] => { results := [.lit (.bool false)], args := [d1, d2, d3] }
  | _ => none }
def BitsOrderWrongFalsely : Prop := bitsOrderRow.holds Try.pinned (OpenSpec.ofChange bitsOrderWrong)

/-- 'weirgatelaw06.BitsTurns': WHATEVER THE INPUT: true; the input reads as it did. -/
def bitsTurnsSpec : ChangeSpec := { name := "bitsTurns", fn := fun _ => fun
  | [d1, d2, d3] => { results := [.lit (.bool true)], args := [d1, d2, d3] }
  | _ => none }
def bitsTurnsRow : OpenClaim := { program := "ytnkcdgpaphphaaa", sum := "700f098c85e36177057c170c18ee019003dc22cbc321de3bbf7754196b71b6fc", func := "weirgate/weirgatelaw06.BitsTurns", spec := "bitsTurns", inPlace := ["slices.overlaps[int]"], unfollowed := true, recurses := true, plainKeys := false, apart := false }
def BitsTurnsSaid : Prop := bitsTurnsRow.holds Try.pinned (OpenSpec.ofChange bitsTurnsSpec)

/-- ITS FALSE NEIGHBOUR: 'it returns false'. Refute it at one input. -/
def bitsTurnsWrong : ChangeSpec := { name := "bitsTurns", fn := fun _ => fun
  | [d1, d2, d3] => { results := [.lit (.bool false)], args := [d1, d2, d3] }
  | _ => none }
def BitsTurnsWrongFalsely : Prop := bitsTurnsRow.holds Try.pinned (OpenSpec.ofChange bitsTurnsWrong)

/- THE SECOND FORM. 'bulk': how many values and letters a reading holds, each counted each time it is reached (what is shared counts as often as it is met; a slice's spare places count too). A statement '..UptoSaid' is the law's where the arguments, and the package variables that the reading takes, are together of bulk at most 1048576: NARROWER than '..Said'. Prove '..Said' where nothing that the law and all that it calls make is longer than what came in: it says more and counts as full. Else prove '..UptoSaid'. A law counts once. -/
mutual
def uptoBulk {H : Type} : DataW H → Nat
  | .lit (.string bytes) => bytes.length + 1
  | .lit _ => 1
  | .nil => 1
  | .ptr d => uptoBulk d + 1
  | .slice elems spare => uptoBulkAll elems + uptoBulkAll spare + 1
  | .agg parts => uptoBulkAll parts + 1
  | .iface _ d => uptoBulk d + 1
  | .map entries => uptoBulkEntries entries + 1
  | .held _ => 1
def uptoBulkAll {H : Type} : List (DataW H) → Nat
  | [] => 0
  | d :: r => uptoBulk d + uptoBulkAll r
def uptoBulkEntries {H : Type} : List (Lit × DataW H) → Nat
  | [] => 0
  | x :: r => uptoBulkEntry x + uptoBulkEntries r
def uptoBulkEntry {H : Type} : Lit × DataW H → Nat
  | (.string bytes, d) => bytes.length + uptoBulk d + 1
  | (_, d) => uptoBulk d + 1
 end
def uptoSmall : (H : Type) → List (DataW H) → Bool := fun _ ds => decide (uptoBulkAll ds ≤ 1048576)
def OpenSpec.upto (s : _root_.Go.ChangeSpec) : _root_.Go.OpenSpec := { _root_.Go.OpenSpec.ofChange s with cond := some uptoSmall }

/-- 'weirgatelaw05.GraphActs', WHERE WHAT IT READS IS OF BULK AT MOST 1048576: true; the input reads as it did. -/
def graphActsUptoRow : OpenClaim := { program := "ytnkcdgpaphphaaa", sum := "700f098c85e36177057c170c18ee019003dc22cbc321de3bbf7754196b71b6fc", func := "weirgate/weirgatelaw05.GraphActs", spec := "graphActs", unfollowed := true, recurses := true, plainKeys := false, apart := false, narrowed := true }
def GraphActsUptoSaid : Prop := graphActsUptoRow.holds Try.pinned (OpenSpec.upto graphActsSpec)

/-- 'weirgatelaw05.GraphTruth', WHERE WHAT IT READS IS OF BULK AT MOST 1048576: true; the input reads as it did. -/
def graphTruthUptoRow : OpenClaim := { program := "ytnkcdgpaphphaaa", sum := "700f098c85e36177057c170c18ee019003dc22cbc321de3bbf7754196b71b6fc", func := "weirgate/weirgatelaw05.GraphTruth", spec := "graphTruth", unfollowed := true, recurses := true, plainKeys := false, apart := false, narrowed := true }
def GraphTruthUptoSaid : Prop := graphTruthUptoRow.holds Try.pinned (OpenSpec.upto graphTruthSpec)

/-- 'weirgatelaw06.BitsDo', WHERE WHAT IT READS IS OF BULK AT MOST 1048576: true; the input reads as it did. -/
def bitsDoUptoRow : OpenClaim := { program := "ytnkcdgpaphphaaa", sum := "700f098c85e36177057c170c18ee019003dc22cbc321de3bbf7754196b71b6fc", func := "weirgate/weirgatelaw06.BitsDo", spec := "bitsDo", inPlace := ["slices.overlaps[int]"], unfollowed := true, recurses := true, plainKeys := false, apart := false, narrowed := true }
def BitsDoUptoSaid : Prop := bitsDoUptoRow.holds Try.pinned (OpenSpec.upto bitsDoSpec)

/-- 'weirgatelaw06.BitsConst', WHERE WHAT IT READS IS OF BULK AT MOST 1048576: true; the input reads as it did. -/
def bitsConstUptoRow : OpenClaim := { program := "ytnkcdgpaphphaaa", sum := "700f098c85e36177057c170c18ee019003dc22cbc321de3bbf7754196b71b6fc", func := "weirgate/weirgatelaw06.BitsConst", spec := "bitsConst", inPlace := ["slices.overlaps[int]"], unfollowed := true, recurses := true, plainKeys := false, apart := false, narrowed := true }
def BitsConstUptoSaid : Prop := bitsConstUptoRow.holds Try.pinned (OpenSpec.upto bitsConstSpec)

/-- 'weirgatelaw06.BitsParts', WHERE WHAT IT READS IS OF BULK AT MOST 1048576: true; the input reads as it did. -/
def bitsPartsUptoRow : OpenClaim := { program := "ytnkcdgpaphphaaa", sum := "700f098c85e36177057c170c18ee019003dc22cbc321de3bbf7754196b71b6fc", func := "weirgate/weirgatelaw06.BitsParts", spec := "bitsParts", inPlace := ["slices.overlaps[int]"], unfollowed := true, recurses := true, plainKeys := false, apart := false, narrowed := true }
def BitsPartsUptoSaid : Prop := bitsPartsUptoRow.holds Try.pinned (OpenSpec.upto bitsPartsSpec)

/-- 'weirgatelaw06.BitsMux', WHERE WHAT IT READS IS OF BULK AT MOST 1048576: true; the input reads as it did. -/
def bitsMuxUptoRow : OpenClaim := { program := "ytnkcdgpaphphaaa", sum := "700f098c85e36177057c170c18ee019003dc22cbc321de3bbf7754196b71b6fc", func := "weirgate/weirgatelaw06.BitsMux", spec := "bitsMux", inPlace := ["slices.overlaps[int]"], unfollowed := true, recurses := true, plainKeys := false, apart := false, narrowed := true }
def BitsMuxUptoSaid : Prop := bitsMuxUptoRow.holds Try.pinned (OpenSpec.upto bitsMuxSpec)

/-- 'weirgatelaw06.BitsLaws', WHERE WHAT IT READS IS OF BULK AT MOST 1048576: true; the input reads as it did. -/
def bitsLawsUptoRow : OpenClaim := { program := "ytnkcdgpaphphaaa", sum := "700f098c85e36177057c170c18ee019003dc22cbc321de3bbf7754196b71b6fc", func := "weirgate/weirgatelaw06.BitsLaws", spec := "bitsLaws", inPlace := ["slices.overlaps[int]"], unfollowed := true, recurses := true, plainKeys := false, apart := false, narrowed := true }
def BitsLawsUptoSaid : Prop := bitsLawsUptoRow.holds Try.pinned (OpenSpec.upto bitsLawsSpec)

/-- 'weirgatelaw06.BitsWide', WHERE WHAT IT READS IS OF BULK AT MOST 1048576: true; the input reads as it did. -/
def bitsWideUptoRow : OpenClaim := { program := "ytnkcdgpaphphaaa", sum := "700f098c85e36177057c170c18ee019003dc22cbc321de3bbf7754196b71b6fc", func := "weirgate/weirgatelaw06.BitsWide", spec := "bitsWide", inPlace := ["slices.overlaps[int]"], unfollowed := true, recurses := true, plainKeys := false, apart := false, narrowed := true }
def BitsWideUptoSaid : Prop := bitsWideUptoRow.holds Try.pinned (OpenSpec.upto bitsWideSpec)

/-- 'weirgatelaw06.BitsOrder', WHERE WHAT IT READS IS OF BULK AT MOST 1048576: true; the input reads as it did. -/
def bitsOrderUptoRow : OpenClaim := { program := "ytnkcdgpaphphaaa", sum := "700f098c85e36177057c170c18ee019003dc22cbc321de3bbf7754196b71b6fc", func := "weirgate/weirgatelaw06.BitsOrder", spec := "bitsOrder", inPlace := ["slices.overlaps[int]"], unfollowed := true, recurses := true, plainKeys := false, apart := false, narrowed := true }
def BitsOrderUptoSaid : Prop := bitsOrderUptoRow.holds Try.pinned (OpenSpec.upto bitsOrderSpec)

/-- 'weirgatelaw06.BitsTurns', WHERE WHAT IT READS IS OF BULK AT MOST 1048576: true; the input reads as it did. -/
def bitsTurnsUptoRow : OpenClaim := { program := "ytnkcdgpaphphaaa", sum := "700f098c85e36177057c170c18ee019003dc22cbc321de3bbf7754196b71b6fc", func := "weirgate/weirgatelaw06.BitsTurns", spec := "bitsTurns", inPlace := ["slices.overlaps[int]"], unfollowed := true, recurses := true, plainKeys := false, apart := false, narrowed := true }
def BitsTurnsUptoSaid : Prop := bitsTurnsUptoRow.holds Try.pinned (OpenSpec.upto bitsTurnsSpec)

end Rows
end Go.Proofs.Ytnkcdgpaphphaaa
