/- The argument []Act out of the form. -/
import Derived.Test.YtanmpokfeidlcaaHpRc
import Derived.Deep.Slices
namespace Go.Proofs.Ytanmpokfeidlcaa.Hp
open Go Go.RowKit Go.Lib Go.ChangeShapes Go.WideShapes Go.ChangeAt Go.Deep

structure ActV where
  k : Int
  v : Int
  b : Int
instance : Inhabited ActV := ⟨⟨0, 0, 0⟩⟩

/-- A slice of m acts that came in. -/
def ArgA (w : World) (a : Option Addr) (m : Nat) (K : Nat → ActV) : Prop :=
  m = 0 ∨ ∃ b off, a = some ⟨b, off, none⟩ ∧ b < w.heap.size ∧ ∀ j, j < m → w.cell? ⟨b, off + j * 3, none⟩ = some (.int .i64 (K j).k) ∧ w.cell? ⟨b, off + j * 3 + 1, none⟩ = some (.int .i64 (K j).v) ∧ w.cell? ⟨b, off + j * 3 + 2, none⟩ = some (.int .i64 (K j).b)

theorem ArgA.below {w w' : World} {a : Option Addr} {m : Nat} {K : Nat → ActV} (h : ArgA w a m K) (hb : Below w.heap.size w w') : ArgA w' a m K := by
  rcases h with h | ⟨b, off, h1, h2, h3⟩
  · exact Or.inl h
  · exact Or.inr ⟨b, off, h1, Nat.lt_of_lt_of_le h2 hb.size, fun j hj => ⟨(hb.cell (by exact h2)).trans (h3 j hj).1, (hb.cell (by exact h2)).trans (h3 j hj).2.1, (hb.cell (by exact h2)).trans (h3 j hj).2.2⟩⟩

theorem cellsAct : Try.prog.cellsOf 31 = 3 := by kernel_rfl
theorem cellsInt : Try.prog.cellsOf 3 = 1 := by kernel_rfl

theorem one_act {H : Type} {enc : TypeId × Value → H} {W : World} {spare : Nat → Bool} {base : Nat} {held : Bool} {fuel : Nat} {cs : List Value} {x : DataW H × List MemPlace} (h : DataW.trod enc Try.prog W base spare held fuel 31 cs = some x) :
    ∃ q : ActV, cs = [.int .i64 q.k, .int .i64 q.v, .int .i64 q.b] ∧ -9223372036854775808 ≤ q.k ∧ q.k ≤ 9223372036854775807 ∧ -9223372036854775808 ≤ q.v ∧ q.v ≤ 9223372036854775807 ∧ -9223372036854775808 ≤ q.b ∧ q.b ≤ 9223372036854775807 := by
  obtain ⟨xs, n, _, rfl, hl, hlen, hf⟩ := DataW.trod_struct Try.underlying31 h
  rw [cellsAct] at hl
  match xs, hlen, cs, hl with
  | [y0, y1, y2], _, [c0, c1, c2], _ =>
    have g0 := hf 0 _ rfl
    have g1 := hf 1 _ rfl
    have g2 := hf 2 _ rfl
    simp [cellsInt, cellsI64] at g0 g1 g2
    obtain ⟨k, hk, _, wk⟩ := DataW.trod_int Try.underlying3 g0
    obtain ⟨v, hv, _, wv⟩ := DataW.trod_int Try.underlying3 g1
    obtain ⟨b, hb, _, wb⟩ := DataW.trod_int Try.underlying2 g2
    simp only [List.cons.injEq, and_true] at hk hv hb
    subst hk; subst hv; subst hb
    exact ⟨⟨k, v, b⟩, rfl, (wf_i64 wk).1, (wf_i64 wk).2, (wf_i64 wv).1, (wf_i64 wv).2, (wf_i64 wb).1, (wf_i64 wb).2⟩

/-- An argument []Act. -/
theorem open_acts {H : Type} {enc : TypeId × Value → H} {W : World} {spare : Nat → Bool} {base : Nat} {held : Bool} {fuel : Nat} {cs : List Value} {x : DataW H × List MemPlace} (h : DataW.trod enc Try.prog W base spare held fuel 22 cs = some x) :
    ∃ a m c K, cs = [.slice a m c] ∧ ArgA W a m K ∧ m ≤ c ∧ c ≤ 9223372036854775807 ∧ ∀ j, j < m → (K j).b ≤ 9223372036854775807 ∧ -9223372036854775808 ≤ (K j).v ∧ (K j).v ≤ 9223372036854775807 := by
  rcases open_slice Try.underlying22 h with ⟨rfl, _⟩ | ⟨a, len, cap, m, n, D, Pl, rfl, _, hl, hm, hmm, _, hx⟩
  · exact ⟨none, 0, 0, fun _ => default, rfl, Or.inl rfl, Nat.le_refl _, by omega, fun j hj => absurd hj (by omega)⟩
  · have hlm : len ≤ m := by rw [hmm]; split <;> omega
    have each : ∀ i, i < len → ∃ q : ActV, (W.cell? (a.add (i * 3)) = some (.int .i64 q.k) ∧ W.cell? (a.add (i * 3 + 1)) = some (.int .i64 q.v) ∧ W.cell? (a.add (i * 3 + 2)) = some (.int .i64 q.b)) ∧ q.b ≤ 9223372036854775807 ∧ -9223372036854775808 ≤ q.v ∧ q.v ≤ 9223372036854775807 := by
      intro i hi
      obtain ⟨cs', h1, h2⟩ := hx i (by omega)
      rw [cellsAct] at h1
      obtain ⟨_, hlen, hcell⟩ := World.cells?_some h1
      obtain ⟨q, rfl, _, _, q1, q2, _, q3⟩ := one_act h2
      have e0 := hcell 0 (by omega)
      have e1 := hcell 1 (by omega)
      have e2 := hcell 2 (by omega)
      rw [add_add] at e0 e1 e2
      exact ⟨q, ⟨by simpa using e0, by simpa using e1, by simpa using e2⟩, q3, q1, q2⟩
    obtain ⟨K, hK⟩ := choose_lt each
    refine ⟨some a, len, cap, K, rfl, ?_, hl, by unfold maxLen at hm; omega, fun j hj => (hK j hj).2⟩
    rcases Nat.eq_zero_or_pos len with h0 | h0
    · exact Or.inl h0
    · obtain ⟨b, off, spot⟩ := a
      have hspot : spot = none := by simpa [Addr.add] using World.cell?_spot (hK 0 h0).1.1
      subst hspot
      simp only [Addr.add_lit] at hK
      exact Or.inr ⟨b, off, rfl, cell_lt (hK 0 h0).1.1, fun j hj => ⟨(hK j hj).1.1, by rw [Nat.add_assoc]; exact (hK j hj).1.2.1, by rw [Nat.add_assoc]; exact (hK j hj).1.2.2⟩⟩
end Go.Proofs.Ytanmpokfeidlcaa.Hp
