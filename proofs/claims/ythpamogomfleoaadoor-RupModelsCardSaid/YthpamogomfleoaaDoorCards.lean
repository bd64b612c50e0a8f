/-
  DERIVED. GIVEN WITH THE SEED: THE CARDS: each row of YthpamogomfleoaaDoorRows.lean that lists a variable, with what it lists TIED to the program's text (the seventh form; the later family's looks); each row that meets fmt, with fmt's text TOLD by the authors' own Lean function (tested against real Go, not proved from fmt's source: count such statements apart). THE CARD IS WHAT COUNTS. Prove the row's statement (the work); the ties are given (YthpamogomfleoaaDoorTie.lean); close each card by the builder's one call (the guide's Derived/Test/ToyasCard.lean, 'card_holds'). Laid BY PROGRAM, IN A SANDBOX (cutbox-door.mjs). By AI agents, Wed Nov 11 2026. No macro, syntax, notation, axiom, sorry.
-/
import Derived.Test.YthpamogomfleoaaDoorRows
import GoSem.ClaimSeven
namespace Go.Proofs.YthpamogomfleoaaDoor
namespace Rows

/-- THE TIED CARD OF 'weirgatelaw04.RupFollows'. -/
def rupFollowsCard : Claim7 := { stood := { row := rupFollowsRow, standIns := [], harness := (true, "b8c278e5565ffe9526f6f7dd32d677f2a78a3e09fa6bdb9289d46dbf5e1d7f1d"), looks := false }, kinds := [], alts := [], laidByText := true, laidKinds := [.data, .data, .data], laidTests := true, laidLooks := .later }
def RupFollowsCardSaid : Prop := Claim7.holds Tryd.pinned (.plain (OpenSpec.ofChange rupFollowsSpec)) rupFollowsCard

/-- THE TIED CARD OF 'weirgatelaw04.RupModels'. -/
def rupModelsCard : Claim7 := { stood := { row := rupModelsRow, standIns := [], harness := (true, "b8c278e5565ffe9526f6f7dd32d677f2a78a3e09fa6bdb9289d46dbf5e1d7f1d"), looks := false }, kinds := [], alts := [], laidByText := true, laidKinds := [.data, .data, .data], laidTests := true, laidLooks := .later }
def RupModelsCardSaid : Prop := Claim7.holds Tryd.pinned (.plain (OpenSpec.ofChange rupModelsSpec)) rupModelsCard

/-- THE TIED CARD OF 'weirgatelaw04.RupMore'. -/
def rupMoreCard : Claim7 := { stood := { row := rupMoreRow, standIns := [], harness := (true, "b8c278e5565ffe9526f6f7dd32d677f2a78a3e09fa6bdb9289d46dbf5e1d7f1d"), looks := false }, kinds := [], alts := [], laidByText := true, laidKinds := [.data, .data, .data], laidTests := true, laidLooks := .later }
def RupMoreCardSaid : Prop := Claim7.holds Tryd.pinned (.plain (OpenSpec.ofChange rupMoreSpec)) rupMoreCard

/-- THE TIED CARD OF 'weirgatelaw04.RupGoals'. -/
def rupGoalsCard : Claim7 := { stood := { row := rupGoalsRow, standIns := [], harness := (true, "b8c278e5565ffe9526f6f7dd32d677f2a78a3e09fa6bdb9289d46dbf5e1d7f1d"), looks := false }, kinds := [], alts := [], laidByText := true, laidKinds := [.data, .data, .data], laidTests := true, laidLooks := .later }
def RupGoalsCardSaid : Prop := Claim7.holds Tryd.pinned (.plain (OpenSpec.ofChange rupGoalsSpec)) rupGoalsCard

/-- THE SECOND FORM's CARD OF 'weirgatelaw04.RupFollows'. -/
def rupFollowsUptoCard : Claim7 := { stood := { row := rupFollowsUptoRow, standIns := [], harness := (true, "b8c278e5565ffe9526f6f7dd32d677f2a78a3e09fa6bdb9289d46dbf5e1d7f1d"), looks := false }, kinds := [], alts := [], laidByText := true, laidKinds := [.data, .data, .data], laidTests := true, laidLooks := .later }
def RupFollowsUptoCardSaid : Prop := Claim7.holds Tryd.pinned (.plain (OpenSpec.upto rupFollowsSpec)) rupFollowsUptoCard

/-- THE SECOND FORM's CARD OF 'weirgatelaw04.RupModels'. -/
def rupModelsUptoCard : Claim7 := { stood := { row := rupModelsUptoRow, standIns := [], harness := (true, "b8c278e5565ffe9526f6f7dd32d677f2a78a3e09fa6bdb9289d46dbf5e1d7f1d"), looks := false }, kinds := [], alts := [], laidByText := true, laidKinds := [.data, .data, .data], laidTests := true, laidLooks := .later }
def RupModelsUptoCardSaid : Prop := Claim7.holds Tryd.pinned (.plain (OpenSpec.upto rupModelsSpec)) rupModelsUptoCard

/-- THE SECOND FORM's CARD OF 'weirgatelaw04.RupMore'. -/
def rupMoreUptoCard : Claim7 := { stood := { row := rupMoreUptoRow, standIns := [], harness := (true, "b8c278e5565ffe9526f6f7dd32d677f2a78a3e09fa6bdb9289d46dbf5e1d7f1d"), looks := false }, kinds := [], alts := [], laidByText := true, laidKinds := [.data, .data, .data], laidTests := true, laidLooks := .later }
def RupMoreUptoCardSaid : Prop := Claim7.holds Tryd.pinned (.plain (OpenSpec.upto rupMoreSpec)) rupMoreUptoCard

/-- THE SECOND FORM's CARD OF 'weirgatelaw04.RupGoals'. -/
def rupGoalsUptoCard : Claim7 := { stood := { row := rupGoalsUptoRow, standIns := [], harness := (true, "b8c278e5565ffe9526f6f7dd32d677f2a78a3e09fa6bdb9289d46dbf5e1d7f1d"), looks := false }, kinds := [], alts := [], laidByText := true, laidKinds := [.data, .data, .data], laidTests := true, laidLooks := .later }
def RupGoalsUptoCardSaid : Prop := Claim7.holds Tryd.pinned (.plain (OpenSpec.upto rupGoalsSpec)) rupGoalsUptoCard
end Rows
end Go.Proofs.YthpamogomfleoaaDoor
