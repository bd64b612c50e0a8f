/- The law ClauseBeyond as a contract: variables beyond a model count as false. -/
import Derived.Test.YthpamogomfleoaaDoorClL
import Derived.Laws.AppendOwnNone
namespace Go.Proofs.YthpamogomfleoaaDoor.Cl
open Go Go.RowKit Go.Lib Go.Sort

theorem info_bool : (Tryd.prog.info? 4).map (fun i => (i.zero, i.size, i.bytes)) = some (some (.bool false), 1, 1) := by kernel_rfl

theorem valB_more (v : Int) (m : List Bool) : valB v (m ++ [false, false, false]) = valB v m := by
  unfold valB
  generalize v.toNat - 1 = i
  by_cases h : i < m.length
  · rw [getElem!_pos _ i (by simp; omega), getElem!_pos m i h, List.getElem_append_left h]
  · rw [getElem!_neg m i h]
    by_cases h2 : i < (m ++ [false, false, false]).length
    · rw [getElem!_pos _ i h2, List.getElem_append_right (by omega)]
      have : ∀ k (h : k < [false, false, false].length), [false, false, false][k] = false := by intro k hk; simp at hk; rcases (show k = 0 ∨ k = 1 ∨ k = 2 by omega) with rfl | rfl | rfl <;> rfl
      exact this _ _
    · rw [getElem!_neg _ i h2]
theorem allB_more (cs : List (List Int)) (m : List Bool) : allB cs (m ++ [false, false, false]) = allB cs m := by
  unfold allB holdsB litB; simp only [valB_more]

theorem own_bools {w : World} {base : Nat} {v : Value} {m : List Bool} (h : w.ownsRow base 4 1 v m.length (m.map Value.bool)) : ∃ a c, v = .slice a m.length c ∧ RowIn Value.bool w a m := by
  rcases h.2 with ⟨rfl, h0⟩ | ⟨g, cap, cur, rfl, _, hg, _, _, _, ht⟩
  · rw [List.eq_nil_of_length_eq_zero h0]; exact ⟨none, 0, rfl, Or.inl rfl⟩
  · refine ⟨_, cap, rfl, Or.inr ⟨g, 0, rfl, (Array.getElem?_eq_some_iff.1 hg).1, fun j hj => ?_⟩⟩
    have := h.cells (g := g) (by simp [Value.ownBlock]) j (.bool m[j]!) (by rw [List.getElem?_map, getElem!_pos m j hj, List.getElem?_eq_getElem hj]; rfl)
    rwa [Addr.add_lit] at this

theorem falses_cells (w3 : World) (T : TypeId) : ∀ j u, [Value.bool false, .bool false, .bool false][j]? = some u → (w3.alloc (.cells #[.bool false, .bool false, .bool false] T)).cell? ((⟨w3.heap.size, 0, none⟩ : Addr).add j) = some u := by
  intro j u hj
  have hh : (w3.alloc (.cells #[.bool false, .bool false, .bool false] T)).heap[w3.heap.size]? = some (.cells #[.bool false, .bool false, .bool false] T (0, 0)) := by unfold World.alloc; simp
  rw [Addr.add_lit, Lib.cell_of_heap hh, Nat.zero_add]
  rcases j with _ | _ | _ | j
  · exact hj
  · exact hj
  · exact hj
  · simp at hj

end Go.Proofs.YthpamogomfleoaaDoor.Cl
