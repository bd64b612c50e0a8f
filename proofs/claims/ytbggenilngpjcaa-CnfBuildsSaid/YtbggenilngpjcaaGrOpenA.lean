/- The argument []Act out of the form. -/
import Derived.Test.YtbggenilngpjcaaGrOpen
import Derived.Test.YtbggenilngpjcaaGrOnce
namespace Go.Proofs.Ytbggenilngpjcaa.Gr
open Go Go.RowKit Go.Lib Go.ChangeShapes Go.WideShapes Go.ChangeAt Go.Deep

theorem cellsAct : Try.prog.cellsOf 54 = 4 := by kernel_rfl

theorem one_act {H : Type} {enc : TypeId × Value → H} {W : World} {spare : Nat → Bool} {base : Nat} {held : Bool} {fuel : Nat} {cs : List Value} {x : DataW H × List MemPlace} (h : DataW.trod enc Try.prog W base spare held fuel 54 cs = some x) :
    ∃ q : ActV, cs = [.int .i64 q.k, .int .i64 q.a, .int .i64 q.b, .int .i64 q.c] ∧ (-9223372036854775808 ≤ q.k ∧ q.k ≤ 9223372036854775807) ∧ (-9223372036854775808 ≤ q.a ∧ q.a ≤ 9223372036854775807) ∧ (-9223372036854775808 ≤ q.b ∧ q.b ≤ 9223372036854775807) ∧ (-9223372036854775808 ≤ q.c ∧ q.c ≤ 9223372036854775807) := by
  obtain ⟨xs, n, _, rfl, hl, hlen, hf⟩ := DataW.trod_struct Try.underlying54 h
  rw [cellsAct] at hl
  match xs, hlen, cs, hl with
  | [y0, y1, y2, y3], _, [c0, c1, c2, c3], _ =>
    have g0 := hf 0 _ rfl
    have g1 := hf 1 _ rfl
    have g2 := hf 2 _ rfl
    have g3 := hf 3 _ rfl
    simp [cellsInt] at g0 g1 g2 g3
    obtain ⟨k, hk, _, wk⟩ := DataW.trod_int Try.underlying3 g0
    obtain ⟨a, ha, _, wa⟩ := DataW.trod_int Try.underlying3 g1
    obtain ⟨b, hb, _, wb⟩ := DataW.trod_int Try.underlying3 g2
    obtain ⟨c, hc, _, wc⟩ := DataW.trod_int Try.underlying3 g3
    simp only [List.cons.injEq, and_true] at hk ha hb hc
    subst hk; subst ha; subst hb; subst hc
    exact ⟨⟨k, a, b, c⟩, rfl, wf_i64 wk, wf_i64 wa, wf_i64 wb, wf_i64 wc⟩

/-- An argument []Act. -/
theorem open_acts {H : Type} {enc : TypeId × Value → H} {W : World} {spare : Nat → Bool} {base : Nat} {held : Bool} {fuel : Nat} {cs : List Value} {x : DataW H × List MemPlace} (h : DataW.trod enc Try.prog W base spare held fuel 22 cs = some x) :
    ∃ (a : Option Addr) (m c : Nat) (K : Nat → ActV), cs = [.slice a m c] ∧ ArgA W a m K ∧ m ≤ c ∧ c ≤ 9223372036854775807 ∧ ∀ j, j < m → (-9223372036854775808 ≤ (K j).a ∧ -9223372036854775808 ≤ (K j).b) ∧ (K j).a ≤ 9223372036854775807 ∧ (K j).b ≤ 9223372036854775807 ∧ (K j).c ≤ 9223372036854775807 := by
  rcases open_slice Try.underlying22 h with ⟨rfl, _⟩ | ⟨a, len, cap, m, n, D, Pl, rfl, _, hl, hm, hmm, _, hx⟩
  · exact ⟨none, 0, 0, fun _ => default, rfl, Or.inl rfl, Nat.le_refl _, by omega, fun j hj => absurd hj (by omega)⟩
  · have hlm : len ≤ m := by rw [hmm]; split <;> omega
    have each : ∀ i, i < len → ∃ q : ActV, (W.cell? (a.add (i * 4)) = some (.int .i64 q.k) ∧ W.cell? (a.add (i * 4 + 1)) = some (.int .i64 q.a) ∧ W.cell? (a.add (i * 4 + 2)) = some (.int .i64 q.b) ∧ W.cell? (a.add (i * 4 + 3)) = some (.int .i64 q.c)) ∧ (-9223372036854775808 ≤ q.a ∧ -9223372036854775808 ≤ q.b) ∧ q.a ≤ 9223372036854775807 ∧ q.b ≤ 9223372036854775807 ∧ q.c ≤ 9223372036854775807 := by
      intro i hi
      obtain ⟨cs', h1, h2⟩ := hx i (by omega)
      rw [cellsAct] at h1
      obtain ⟨_, hlen, hcell⟩ := World.cells?_some h1
      obtain ⟨q, rfl, _, qa, qb, qc⟩ := one_act h2
      have e0 := hcell 0 (by omega)
      have e1 := hcell 1 (by omega)
      have e2 := hcell 2 (by omega)
      have e3 := hcell 3 (by omega)
      rw [add_add] at e0 e1 e2 e3
      exact ⟨q, ⟨by simpa using e0, by simpa using e1, by simpa using e2, by simpa using e3⟩, ⟨qa.1, qb.1⟩, qa.2, qb.2, qc.2⟩
    obtain ⟨K, hK⟩ := choose_lt each
    refine ⟨some a, len, cap, K, rfl, ?_, hl, by unfold maxLen at hm; omega, fun j hj => (hK j hj).2⟩
    rcases Nat.eq_zero_or_pos len with h0 | h0
    · exact Or.inl h0
    · obtain ⟨b, off, spot⟩ := a
      have hspot : spot = none := by simpa [Addr.add] using World.cell?_spot (hK 0 h0).1.1
      subst hspot
      simp only [Addr.add_lit] at hK
      exact Or.inr ⟨b, off, rfl, cell_lt (hK 0 h0).1.1, fun j hj => ⟨(hK j hj).1.1, by rw [Nat.add_assoc]; exact (hK j hj).1.2.1, by rw [Nat.add_assoc]; exact (hK j hj).1.2.2.1, by rw [Nat.add_assoc]; exact (hK j hj).1.2.2.2⟩⟩
end Go.Proofs.Ytbggenilngpjcaa.Gr
