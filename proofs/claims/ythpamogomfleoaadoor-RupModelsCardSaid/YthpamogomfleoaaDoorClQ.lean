/- The contract of the document's own normal form (weirgateref01.Norm). -/
import Derived.Test.YthpamogomfleoaaDoorClNfR
namespace Go.Proofs.YthpamogomfleoaaDoor.Cl
open Go Go.RowKit Go.Lib Go.Sort

theorem own_ints {w : World} {base : Nat} {v : Value} {m : List Int} (h : w.ownsRow base 3 1 v m.length (m.map (Value.int .i64))) : ∃ a c, v = .slice a m.length c ∧ RowIn (Value.int .i64) w a m ∧ m.length ≤ c := by
  rcases h.2 with ⟨rfl, h0⟩ | ⟨g, cap, cur, rfl, _, hg, hcap, _, _, ht⟩
  · rw [List.eq_nil_of_length_eq_zero h0]; exact ⟨none, 0, rfl, Or.inl rfl, Nat.le_refl _⟩
  · refine ⟨_, cap, rfl, Or.inr ⟨g, 0, rfl, (Array.getElem?_eq_some_iff.1 hg).1, fun j hj => ?_⟩, hcap⟩
    have := h.cells (g := g) (by simp [Value.ownBlock]) j (.int .i64 m[j]!) (by rw [List.getElem?_map, getElem!_pos m j hj, List.getElem?_eq_getElem hj]; rfl)
    rwa [Addr.add_lit] at this
theorem own_snoc {w : World} {base : Nat} {v : Value} {O : List Int} {x : Int} (h : w.ownsRow base 3 1 v (O.length + 1) (O.map (Value.int .i64) ++ [.int .i64 x])) : w.ownsRow base 3 1 v (O ++ [x]).length ((O ++ [x]).map (Value.int .i64)) := by
  rw [List.length_append, List.map_append]; exact h
theorem own_snoc2 {w : World} {base : Nat} {v : Value} {O : List Int} {x y : Int} (h : w.ownsRow base 3 1 v (O.length + 1 + 1) (O.map (Value.int .i64) ++ [.int .i64 x, .int .i64 y])) : w.ownsRow base 3 1 v (O ++ [x] ++ [y]).length ((O ++ [x] ++ [y]).map (Value.int .i64)) := by
  simpa using h
theorem one_cell (w : World) (x : Value) (T : TypeId) : ∀ j u, [x][j]? = some u → (w.alloc (.cells #[x] T)).cell? ((⟨w.heap.size, 0, none⟩ : Addr).add j) = some u := by
  intro j u hj
  have hh : (w.alloc (.cells #[x] T)).heap[w.heap.size]? = some (.cells #[x] T (0, 0)) := by unfold World.alloc; simp
  rw [Addr.add_lit, Lib.cell_of_heap hh, Nat.zero_add]
  rcases j with _ | j
  · exact hj
  · simp at hj

end Go.Proofs.YthpamogomfleoaaDoor.Cl
