/- From the form's reading of the arguments to the contracts' premises, and the steps that all laws of layer clause share. -/
import Derived.Test.YthpamogomfleoaaDoorClM
import Derived.Test.YthpamogomfleoaaDoorCards
import Derived.Test.YthpamogomfleoaaDoorTie
import Derived.ProofKit
import Derived.OpenShut
import Derived.SizedLaws
import Derived.Lib.RowBridge
import Derived.Deep.DeepHandedRow
import Derived.Lib.LaidTab
import Derived.Deep.Matrix
import Derived.Deep.Grids
import Derived.Stop.LaidErr
import Derived.MakeChecks
import Derived.LaidMore
import Derived.Stop.Joined
import Derived.SevenTiedAt
namespace Go.Proofs.YthpamogomfleoaaDoor.Cl
open Go Go.RowKit Go.Lib Go.ChangeShapes Go.WideShapes Go.ChangeAt Go.Deep

theorem own : ownKnob Tryd.prog.godebug = none := by kernel_rfl
theorem laidOut : laidOutB Tryd.prog = true := by kernel_rfl
theorem gPowType : (Tryd.prog.globals[0]?).map (·.type) = some 118 := by kernel_rfl
theorem cellsPow : Tryd.prog.cellsOf 118 = 20 := by kernel_rfl
theorem cellsU64 : Tryd.prog.cellsOf 90 = 1 := by kernel_rfl
theorem cellsInt : Tryd.prog.cellsOf 3 = 1 := by kernel_rfl
theorem cellsInts : Tryd.prog.cellsOf 23 = 1 := by kernel_rfl
theorem cellsBool : Tryd.prog.cellsOf 4 = 1 := by kernel_rfl
theorem powData : (Rows.laid_internal_strconv_uint64pow10 : DataW Unit) = Lib.tabData .u64 Lib.pow10Tab := by kernel_rfl

theorem tab_of_laid {W : World} {x y : String × DataW Unit} {rest : List (String × DataW Unit)} (hp : ((x :: y :: ("internal/strconv.uint64pow10", Rows.laid_internal_strconv_uint64pow10) :: rest).all fun x => x.2.handleName?.isNone) = true)
    (h : laidMetH Tryd.prog (x :: y :: ("internal/strconv.uint64pow10", Rows.laid_internal_strconv_uint64pow10) :: rest) W) : Tab W := by
  rw [MakeChecks.laidMetH_plain _ _ _ hp] at h
  have h2 := h.tail.tail
  rw [powData] at h2
  exact Lib.tabIs_of_head (rest := rest) gPow gPowType Tryd.underlying118 Tryd.underlying90 cellsU64 cellsPow h2

theorem cell_lt {w : World} {a : Addr} {v : Value} (h : w.cell? a = some v) : a.block < w.heap.size := by
  unfold World.cell? at h
  rcases Nat.lt_or_ge a.block w.heap.size with h' | h'
  · exact h'
  · rw [Array.getElem?_eq_none h'] at h; cases h

theorem row_of_cells {α : Type} [Inhabited α] {enc : α → Value} {w : World} {a : Addr} {zs : List α} (h : ∀ j, j < zs.length → w.cell? (a.add j) = some (enc zs[j]!)) : RowIn enc w (some a) zs := by
  rcases Nat.eq_zero_or_pos zs.length with h0 | h0
  · exact Or.inl (List.eq_nil_of_length_eq_zero h0)
  · obtain ⟨b, off, spot⟩ := a
    have hspot : spot = none := by simpa [Addr.add] using World.cell?_spot (h 0 h0)
    subst hspot
    simp only [Addr.add_lit] at h
    exact Or.inr ⟨b, off, rfl, cell_lt (h 0 h0), h⟩

/-- An argument []int. -/
theorem open_row {H : Type} {enc : TypeId × Value → H} {W : World} {spare : Nat → Bool} {base : Nat} {held : Bool} {fuel : Nat} {cs : List Value} {x : DataW H × List MemPlace} (h : DataW.trod enc Tryd.prog W base spare held fuel 23 cs = some x) :
    ∃ a c zs, cs = [.slice a zs.length c] ∧ RowIn (Value.int .i64) W a zs ∧ zs.length ≤ c ∧ c ≤ 9223372036854775807 := by
  rcases open_ints Tryd.underlying23 Tryd.underlying3 cellsInt h with ⟨rfl, _⟩ | ⟨a, len, cap, zs, rfl, _, hl, hm, hz, _, hc, _⟩
  · exact ⟨none, 0, [], rfl, RowIn.nil _ _ _, Nat.le_refl _, by omega⟩
  · have hlen : len ≤ zs.length := by rw [hz]; split <;> omega
    have e : (zs.take len).length = len := by rw [List.length_take]; omega
    refine ⟨some a, cap, zs.take len, by rw [e], row_of_cells fun j hj => ?_, by rw [e]; exact hl, by unfold maxLen at hm; omega⟩
    rw [e] at hj
    rw [hc j (by omega), getElem!_pos _ j (by rw [e]; exact hj), List.getElem_take, List.getD_eq_getElem?_getD, List.getElem?_eq_getElem (by omega)]
    rfl

/-- An argument [][]int. -/
theorem open_rows {H : Type} {enc : TypeId × Value → H} {W : World} {base : Nat} {held : Bool} {fuel : Nat} {cs : List Value} {x : DataW H × List MemPlace} (h : DataW.trod enc Tryd.prog W base (fun _ => true) held fuel 22 cs = some x) :
    ∃ a c rs, cs = [.slice a rs.length c] ∧ RowsIn W a rs ∧ rs.length ≤ c ∧ c ≤ 9223372036854775807 := by
  rcases open_int_rows Tryd.underlying22 Tryd.underlying23 Tryd.underlying3 cellsInts cellsInt h with ⟨rfl, _⟩ | ⟨a, len, cap, A, L, C, Z, rfl, _, hl, hm, _, hc⟩
  · exact ⟨none, 0, [], rfl, ⟨RowIn.nil _ _ _, (fun r hr => by cases hr), (fun r hr => by cases hr)⟩, Nat.le_refl _, by omega⟩
  · unfold maxLen at hm hc
    refine ⟨some a, cap, (List.range len).map fun r => ⟨A r, C r, (Z r).take (L r)⟩, by simp, ⟨row_of_cells fun j hj => ?_, ?_, ?_⟩, by simpa using hl, by omega⟩
    · have hj' : j < len := by simpa using hj
      obtain ⟨h1, h2, h3, h4, h5, h6, h7⟩ := hc j (by omega)
      have e : ((Z j).take (L j)).length = L j := by rw [List.length_take]; omega
      rw [h1, getElem!_pos _ j hj]
      simp only [List.getElem_map, List.getElem_range, Row.val, e]
    · intro r hr
      obtain ⟨j, hj, rfl⟩ := List.mem_map.1 hr
      have hj' : j < len := by simpa using hj
      obtain ⟨h1, h2, h3, h4, h5, h6, h7⟩ := hc j (by omega)
      have e : ((Z j).take (L j)).length = L j := by rw [List.length_take]; omega
      show RowIn _ W (A j) ((Z j).take (L j))
      cases hA : A j with
      | none =>
        have := h6 hA
        exact Or.inl (List.eq_nil_of_length_eq_zero (by rw [e]; omega))
      | some a' =>
        refine row_of_cells fun i hi => ?_
        rw [e] at hi
        rw [(h7 a' hA).2 i (by omega), getElem!_pos _ i (by rw [e]; exact hi), List.getElem_take, List.getD_eq_getElem?_getD, List.getElem?_eq_getElem (by omega)]
        rfl
    · intro r hr
      obtain ⟨j, hj, rfl⟩ := List.mem_map.1 hr
      have hj' : j < len := by simpa using hj
      obtain ⟨h1, h2, h3, _⟩ := hc j (by omega)
      show ((Z j).take (L j)).length ≤ _
      rw [List.length_take]; omega

/-- An argument []bool. -/
theorem open_model {H : Type} {enc : TypeId × Value → H} {W : World} {base : Nat} {held : Bool} {fuel : Nat} {cs : List Value} {x : DataW H × List MemPlace} (h : DataW.trod enc Tryd.prog W base (fun _ => true) held fuel 29 cs = some x) :
    ∃ a c m, cs = [.slice a m.length c] ∧ RowIn Value.bool W a m ∧ m.length ≤ c ∧ c ≤ 9223372036854775807 ∧ (a = none → c = 0) := by
  rcases open_bools Tryd.underlying29 Tryd.underlying4 cellsBool h with ⟨rfl, _⟩ | ⟨a, len, cap, B, rfl, _, hl, hm, _, hc⟩
  · exact ⟨none, 0, [], rfl, RowIn.nil _ _ _, Nat.le_refl _, by omega, fun _ => rfl⟩
  · unfold maxLen at hm
    refine ⟨some a, cap, (List.range len).map B, by simp, row_of_cells fun j hj => ?_, by simpa using hl, by omega, fun e => by cases e⟩
    have hj' : j < len := by simpa using hj
    rw [hc j (by omega), getElem!_pos _ j hj]
    simp
end Go.Proofs.YthpamogomfleoaaDoor.Cl
