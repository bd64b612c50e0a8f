/- Contracts of pair, sum. -/
import Derived.Test.YtnkcdgpaphphaaaBtB
import Derived.Deep.RegionHeld3
namespace Go.Proofs.Ytnkcdgpaphphaaa.Gr
open Go Go.RowKit Go.Lib Go.Maps

/-- The width of the wider one. -/
def wid (as1 bs : List Nat) : Nat := max (vecE as1).length (vecE bs).length
theorem wid_pos (as1 bs : List Nat) : 1 ≤ wid as1 bs := by have := vecE_pos as1; unfold wid; omega
theorem wid_le (as1 bs : List Nat) : wid as1 bs ≤ 16 := by have := vecE_le as1; have := vecE_le bs; unfold wid; omega

/-- Two rows that have been made. -/
def PairE (w : World) (G : Loc) (L : List Nd) (m : Nat) (xs ys : List Nat) (e : Ending) (w' : World) : Prop :=
  ∃ b1 b2 G', e = .returned (.tuple #[.slice (some ⟨b1, 0, none⟩) m m, .slice (some ⟨b2, 0, none⟩) m m]) ∧ b1 ≠ b2 ∧ Fil w w' G G' L b1 m xs (List.replicate m 0) ∧ Fil w w' G G' L b2 m ys (List.replicate m 0)

set_option maxRecDepth 100000 in
set_option maxHeartbeats 1000000 in
theorem pair_any {w : World} {G : Loc} {L : List Nd} (h : Rep w G L) (a : Option Addr) (xs : List Nat) (c : Nat) (a2 : Option Addr) (ys : List Nat) (c2 : Nat) (hx : Vec w G a xs) (hy : Vec w G a2 ys) (hn : xs.length ≤ 1000) (hn2 : ys.length ≤ 1000) (he : ∀ e ∈ xs, e < 2 * (L.length + 1)) (he2 : ∀ e ∈ ys, e < 2 * (L.length + 1)) (hl : L.length < 150000) :
    Calls Try.prog 60 #[.pointer (some ⟨G.h, 0, none⟩), .slice a xs.length c, .slice a2 ys.length c2] w (PairE w G L (wid xs ys) (wideL 0 (vecE xs) (wid xs ys)) (wideL 0 (vecE ys) (wid xs ys))) := by
  have H1 := Lib.hid (owned_any h a xs c hx hn he hl)
  have HY := Lib.hid (And.intro hy (And.intro hn2 (And.intro he2 hl)))
  have HM : Hid (wid xs ys = max (vecE xs).length (vecE ys).length) := rfl
  have hm1 := wid_pos xs ys
  have hm2 := wid_le xs ys
  have p1 := vecE_pos xs
  have p2 := vecE_pos ys
  have k1 := vecE_le xs
  have k2 := vecE_le ys
  have HLM : Hid (lim (wid xs ys : Int) = wid xs ys) := lim_of hm1 hm2
  have HV1 : Hid (vecE (vecE xs) = vecE xs) := vecE_of p1 k1
  have HV2 : Hid (vecE (vecE ys) = vecE ys) := vecE_of p2 k2
  generalize wid xs ys = m at *
  generalize vecE xs = fs at *
  generalize xs.length = l at *
  clear h hx hy hn hn2 he he2 hl
  go_enter Try.func60, Try.ntmps60
  go_wp2_with fail
  refine H1.out.mono ?_
  rintro e w1 ⟨b1, c1, G1, rfl, _, f1⟩
  have hO := owned_any f1.rep a2 ys c2 (HY.out.1.fr f1.fr) HY.out.2.1 HY.out.2.2.1 HY.out.2.2.2
  rw [f1.fr.h] at hO
  have H2 := Lib.hid hO
  have F1 := Lib.hid f1
  clear hO f1
  generalize vecE ys = gs at *
  generalize ys.length = l2 at *
  obtain ⟨n1, hn1⟩ : ∃ n, fs.length = n := ⟨_, rfl⟩
  obtain ⟨n2, hn2⟩ : ∃ n, gs.length = n := ⟨_, rfl⟩
  have HN := Lib.hid (And.intro hn1 hn2)
  have hmax : max (n1 : Int) (n2 : Int) = (m : Int) := by have := HM.out; omega
  rw [hn1] at p1 k1 H1 ⊢
  rw [hn2] at p2 k2 H2
  clear hn1 hn2
  go_wp2_with fail
  refine H2.out.mono ?_
  rintro e w2 ⟨b2, c2, G2, rfl, _, f2⟩
  have g1 := F1.out.op f2.rep f2.fr
  have g2 := f2.pre F1.out.fr
  have hW1 := Wide_row g1.rep (some ⟨b1, 0, none⟩) fs c1 (m : Int) (g1.vec rfl) (by have := HN.out; omega)
  rw [HLM.out, HV1.out, HN.out.1] at hW1
  have HW1 := Lib.hid hW1
  have G1' := Lib.hid (And.intro g1 g2)
  clear hW1 g1 g2 f2 F1 H1 H2
  go_wp2_with fail
  refine HW1.out.mono ?_
  rintro e w3 ⟨b3, rfl, f3⟩
  have g2 := G1'.out.2.op f3.rep f3.fr
  have g3 := f3.pre G1'.out.1.fr
  have hW2 := Wide_row g2.rep (some ⟨b2, 0, none⟩) gs c2 (m : Int) (g2.vec rfl) (by have := HN.out; omega)
  rw [HLM.out, HV2.out, HN.out.2] at hW2
  have HW2 := Lib.hid hW2
  have G2' := Lib.hid (And.intro g3 g2)
  clear hW2 g2 g3 f3 HW1 G1'
  go_wp2_with fail
  refine HW2.out.mono ?_
  rintro e w4 ⟨b4, rfl, f4⟩
  have g3 := G2'.out.1.op f4.rep f4.fr
  have g4 := f4.pre G2'.out.2.fr
  have hne : b3 ≠ b4 := by
    have := G2'.out.1.lt
    have := f4.new
    omega
  have HF := Lib.hid (And.intro hne (And.intro g3 g4))
  clear hne g3 g4 f4
  go_wp2_with fail
  go_ret2
  exact ⟨b3, b4, G2, rfl, HF.out.1, HF.out.2.1, HF.out.2.2⟩
/-- A row that has been made, and an edge. -/
def SumE (w : World) (G : Loc) (P : Prop) (L : List Nd) (j n : Nat) (f : (Nat → Bool) → List Bool) (g : (Nat → Bool) → Bool) (e : Ending) (w' : World) : Prop :=
  ∃ (b : Nat) (G' : Loc) (L' : List Nd) (es : List Nat) (c : Nat), e = .returned (.tuple #[.slice (some ⟨b, 0, none⟩) n n, .int .i64 (c : Int)]) ∧ es.length = n ∧ Fil w w' G G' L' b n es (List.replicate n 0) ∧ Out P L j L' (es ++ [c]) (fun m => f m ++ [g m])

/-- The sum of the first k. -/
def sumF (L : List Nd) (xs ys : List Nat) (c k : Nat) (m : Nat → Bool) : List Bool × Bool := addL ((xs.take k).map (Gr.val m L)) ((ys.take k).map (Gr.val m L)) (Gr.val m L c)
theorem take_snoc' {xs : List Nat} {k : Nat} (h : k < xs.length) : xs.take (k + 1) = xs.take k ++ [xs.getD k 0] := by
  rw [List.take_add_one, List.getElem?_eq_getElem h]; simp [List.getElem?_eq_getElem h]
theorem sumF_succ {L : List Nd} {xs ys : List Nat} {c k : Nat} (h : xs.length = ys.length) (hk : k < xs.length) (m : Nat → Bool) : sumF L xs ys c (k + 1) m = ((sumF L xs ys c k m).1 ++ [(Gr.val m L (xs.getD k 0) != Gr.val m L (ys.getD k 0)) != (sumF L xs ys c k m).2], (Gr.val m L (xs.getD k 0) && Gr.val m L (ys.getD k 0)) || ((Gr.val m L (xs.getD k 0) != Gr.val m L (ys.getD k 0)) && (sumF L xs ys c k m).2)) := by
  unfold sumF
  rw [take_snoc' hk, take_snoc' (h ▸ hk), List.map_append, List.map_append, List.map_cons, List.map_nil, List.map_cons, List.map_nil, addL_snoc _ _ _ _ _ (by simp; omega)]
theorem get_mem {xs : List Nat} {k : Nat} (h : k < xs.length) : xs.getD k 0 ∈ xs := by
  rw [List.getD_eq_getElem?_getD, List.getElem?_eq_getElem h]; exact List.getElem_mem h

end Go.Proofs.Ytnkcdgpaphphaaa.Gr
