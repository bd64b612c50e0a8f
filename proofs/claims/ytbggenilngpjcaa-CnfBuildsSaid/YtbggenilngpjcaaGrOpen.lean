/- The laws' arguments out of the form. -/
import Derived.Test.YtbggenilngpjcaaGrH
import Derived.Test.YtbggenilngpjcaaRows
import Derived.ProofKit
import Derived.OpenShut
import Derived.Deep.DeepHandedRow
import Derived.Deep.Slices
import Derived.Deep.Grids
namespace Go.Proofs.Ytbggenilngpjcaa.Gr
open Go Go.RowKit Go.Lib Go.ChangeShapes Go.WideShapes Go.ChangeAt Go.Deep

theorem ownK : ownKnob Try.prog.godebug = none := by kernel_rfl
theorem laidOut : laidOutB Try.prog = true := by kernel_rfl
theorem cellsU8 : Try.prog.cellsOf 5 = 1 := by kernel_rfl
theorem cellsBool : Try.prog.cellsOf 4 = 1 := by kernel_rfl
theorem cellsInt : Try.prog.cellsOf 3 = 1 := by kernel_rfl

theorem wf_i64 {n : Int} (h : (Lit.int .i64 n).wf = true) : -9223372036854775808 ≤ n ∧ n ≤ 9223372036854775807 := by
  have h1 : IntKind.i64.min = -9223372036854775808 := rfl
  have h2 : IntKind.i64.max = 9223372036854775807 := rfl
  simp [Lit.wf] at h
  omega
theorem wf_u8 {n : Int} (h : (Lit.int .u8 n).wf = true) : 0 ≤ n ∧ n < 256 := by
  have h1 : IntKind.u8.min = 0 := rfl
  have h2 : IntKind.u8.max = 255 := rfl
  simp [Lit.wf] at h
  omega
theorem cell_lt {w : World} {a : Addr} {v : Value} (h : w.cell? a = some v) : a.block < w.heap.size := by
  unfold World.cell? at h
  rcases Nat.lt_or_ge a.block w.heap.size with h' | h'
  · exact h'
  · rw [Array.getElem?_eq_none h'] at h; cases h

/-- An argument []uint8. -/
theorem open_picks {H : Type} {enc : TypeId × Value → H} {W : World} {spare : Nat → Bool} {base : Nat} {held : Bool} {fuel : Nat} {cs : List Value} {x : DataW H × List MemPlace} (h : DataW.trod enc Try.prog W base spare held fuel 49 cs = some x) :
    ∃ (a : Option Addr) (n c : Nat) (P : Nat → Nat), cs = [.slice a n c] ∧ ArgV (fun j => .int .u8 ((P j : Nat) : Int)) W a n ∧ n ≤ c ∧ c ≤ 9223372036854775807 ∧ ∀ j, P j < 256 := by
  rcases open_ints Try.underlying49 Try.underlying5 cellsU8 h with ⟨rfl, _⟩ | ⟨a, len, cap, zs, rfl, _, hl, hm, hz, _, hc, hw⟩
  · exact ⟨none, 0, 0, fun _ => 0, rfl, Or.inl rfl, Nat.le_refl _, by omega, fun _ => by show (0 : Nat) < 256; omega⟩
  · have hlen : len ≤ zs.length := by rw [hz]; split <;> omega
    have hb : ∀ j, 0 ≤ zs.getD j 0 ∧ zs.getD j 0 < 256 := fun j => by
      rw [List.getD_eq_getElem?_getD]
      rcases Nat.lt_or_ge j zs.length with q | q
      · rw [List.getElem?_eq_getElem q]
        exact wf_u8 (hw _ (List.getElem_mem q))
      · rw [List.getElem?_eq_none q]
        simp
    refine ⟨some a, len, cap, fun j => (zs.getD j 0).toNat, rfl, ?_, hl, by unfold maxLen at hm; omega, fun j => by have := hb j; show (zs.getD j 0).toNat < 256; omega⟩
    rcases Nat.eq_zero_or_pos len with h0 | h0
    · exact Or.inl h0
    · obtain ⟨b, off, spot⟩ := a
      have hspot : spot = none := by simpa [Addr.add] using World.cell?_spot (hc 0 (by omega))
      subst hspot
      simp only [Addr.add_lit] at hc
      refine Or.inr ⟨b, off, rfl, cell_lt (hc 0 (by omega)), fun j hj => ?_⟩
      rw [hc j (by omega)]
      have := hb j
      show some (Value.int .u8 (zs.getD j 0)) = some (Value.int .u8 ((zs.getD j 0).toNat : Int))
      rw [Int.toNat_of_nonneg this.1]

/-- An argument []bool. -/
theorem open_model {H : Type} {enc : TypeId × Value → H} {W : World} {base : Nat} {held : Bool} {fuel : Nat} {cs : List Value} {x : DataW H × List MemPlace} (h : DataW.trod enc Try.prog W base (fun _ => true) held fuel 23 cs = some x) :
    ∃ (a : Option Addr) (n c : Nat) (M : Nat → Bool), cs = [.slice a n c] ∧ ArgV (fun j => .bool (M j)) W a n ∧ n ≤ c ∧ c ≤ 9223372036854775807 := by
  rcases open_bools Try.underlying23 Try.underlying4 cellsBool h with ⟨rfl, _⟩ | ⟨a, len, cap, B, rfl, _, hl, hm, _, hc⟩
  · exact ⟨none, 0, 0, fun _ => false, rfl, Or.inl rfl, Nat.le_refl _, by omega⟩
  · unfold maxLen at hm
    refine ⟨some a, len, cap, B, rfl, ?_, hl, by omega⟩
    rcases Nat.eq_zero_or_pos len with h0 | h0
    · exact Or.inl h0
    · obtain ⟨b, off, spot⟩ := a
      have hspot : spot = none := by simpa [Addr.add] using World.cell?_spot (hc 0 (by omega))
      subst hspot
      simp only [Addr.add_lit] at hc
      exact Or.inr ⟨b, off, rfl, cell_lt (hc 0 (by omega)), fun j hj => hc j (by omega)⟩
end Go.Proofs.Ytbggenilngpjcaa.Gr
