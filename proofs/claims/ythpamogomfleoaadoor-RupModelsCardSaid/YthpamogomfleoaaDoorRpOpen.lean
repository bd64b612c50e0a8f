/- Arguments out of the form, with what the laws of layer rup want besides: the literals' range, the rows' capacities. -/
import Derived.Test.YthpamogomfleoaaDoorClOpen
namespace Go.Proofs.YthpamogomfleoaaDoor.Cl
open Go Go.RowKit Go.Lib Go.ChangeShapes Go.WideShapes Go.ChangeAt Go.Deep

theorem wf_i64 {n : Int} (h : (Lit.int .i64 n).wf = true) : -9223372036854775808 ≤ n ∧ n ≤ 9223372036854775807 := by
  have h1 : IntKind.i64.min = -9223372036854775808 := rfl
  have h2 : IntKind.i64.max = 9223372036854775807 := rfl
  simp [Lit.wf] at h
  omega

/-- An argument []int: its literals' range. -/
theorem open_row2 {H : Type} {enc : TypeId × Value → H} {W : World} {spare : Nat → Bool} {base : Nat} {held : Bool} {fuel : Nat} {cs : List Value} {x : DataW H × List MemPlace} (h : DataW.trod enc Tryd.prog W base spare held fuel 23 cs = some x) :
    ∃ a c zs, cs = [.slice a zs.length c] ∧ RowIn (Value.int .i64) W a zs ∧ zs.length ≤ c ∧ c ≤ 9223372036854775807 ∧ (∀ z ∈ zs, -9223372036854775808 ≤ z ∧ z ≤ 9223372036854775807) ∧ (a = none → c = 0) := by
  rcases open_ints Tryd.underlying23 Tryd.underlying3 cellsInt h with ⟨rfl, _⟩ | ⟨a, len, cap, zs, rfl, _, hl, hm, hz, _, hc, hw⟩
  · exact ⟨none, 0, [], rfl, RowIn.nil _ _ _, Nat.le_refl _, by omega, fun z hz => (by cases hz), fun _ => rfl⟩
  · have hlen : len ≤ zs.length := by rw [hz]; split <;> omega
    have e : (zs.take len).length = len := by rw [List.length_take]; omega
    refine ⟨some a, cap, zs.take len, by rw [e], row_of_cells fun j hj => ?_, by rw [e]; exact hl, by unfold maxLen at hm; omega, fun z hzm => wf_i64 (hw z (List.mem_of_mem_take hzm)), fun q => by cases q⟩
    rw [e] at hj
    rw [hc j (by omega), getElem!_pos _ j (by rw [e]; exact hj), List.getElem_take, List.getD_eq_getElem?_getD, List.getElem?_eq_getElem (by omega)]
    rfl

/-- An argument [][]int: its rows' capacities and ranges. -/
theorem open_rows2 {H : Type} {enc : TypeId × Value → H} {W : World} {base : Nat} {held : Bool} {fuel : Nat} {cs : List Value} {x : DataW H × List MemPlace} (h : DataW.trod enc Tryd.prog W base (fun _ => true) held fuel 22 cs = some x) :
    ∃ a c rs, cs = [.slice a rs.length c] ∧ RowsIn W a rs ∧ rs.length ≤ c ∧ c ≤ 9223372036854775807 ∧ (a = none → c = 0) ∧ ∀ r ∈ rs, r.zs.length ≤ r.c ∧ ∀ z ∈ r.zs, -9223372036854775808 ≤ z ∧ z ≤ 9223372036854775807 := by
  rcases open_int_rows Tryd.underlying22 Tryd.underlying23 Tryd.underlying3 cellsInts cellsInt h with ⟨rfl, _⟩ | ⟨a, len, cap, A, L, C, Z, rfl, _, hl, hm, _, hc⟩
  · exact ⟨none, 0, [], rfl, ⟨RowIn.nil _ _ _, (fun r hr => by cases hr), (fun r hr => by cases hr)⟩, Nat.le_refl _, by omega, fun _ => rfl, fun r hr => (by cases hr)⟩
  · unfold maxLen at hm hc
    refine ⟨some a, cap, (List.range len).map fun r => ⟨A r, C r, (Z r).take (L r)⟩, by simp, ⟨row_of_cells fun j hj => ?_, ?_, ?_⟩, by simpa using hl, by omega, (fun q => by cases q), ?_⟩
    · have hj' : j < len := by simpa using hj
      obtain ⟨h1, h2, h3, h4, h5, h6, h7⟩ := hc j (by omega)
      have e : ((Z j).take (L j)).length = L j := by rw [List.length_take]; omega
      rw [h1, getElem!_pos _ j hj]
      simp only [List.getElem_map, List.getElem_range, Row.val, e]
    · intro r hr
      obtain ⟨j, hj, rfl⟩ := List.mem_map.1 hr
      have hj' : j < len := by simpa using hj
      obtain ⟨h1, h2, h3, h4, h5, h6, h7⟩ := hc j (by omega)
      have e : ((Z j).take (L j)).length = L j := by rw [List.length_take]; omega
      show RowIn _ W (A j) ((Z j).take (L j))
      cases hA : A j with
      | none =>
        have := h6 hA
        exact Or.inl (List.eq_nil_of_length_eq_zero (by rw [e]; omega))
      | some a' =>
        refine row_of_cells fun i hi => ?_
        rw [e] at hi
        rw [(h7 a' hA).2 i (by omega), getElem!_pos _ i (by rw [e]; exact hi), List.getElem_take, List.getD_eq_getElem?_getD, List.getElem?_eq_getElem (by omega)]
        rfl
    · intro r hr
      obtain ⟨j, hj, rfl⟩ := List.mem_map.1 hr
      have hj' : j < len := by simpa using hj
      obtain ⟨h1, h2, h3, _⟩ := hc j (by omega)
      show ((Z j).take (L j)).length ≤ _
      rw [List.length_take]; omega
    · intro r hr
      obtain ⟨j, hj, rfl⟩ := List.mem_map.1 hr
      have hj' : j < len := by simpa using hj
      obtain ⟨h1, h2, h3, h4, h5, h6, h7⟩ := hc j (by omega)
      refine ⟨?_, fun z hz => wf_i64 (h5 z (List.mem_of_mem_take hz))⟩
      show ((Z j).take (L j)).length ≤ C j
      rw [List.length_take]; omega
end Go.Proofs.YthpamogomfleoaaDoor.Cl
