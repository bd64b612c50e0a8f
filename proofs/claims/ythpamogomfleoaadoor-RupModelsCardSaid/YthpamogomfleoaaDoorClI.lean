/- awake: the document's examples hold. -/
import Derived.Test.YthpamogomfleoaaDoorClH
namespace Go.Proofs.YthpamogomfleoaaDoor.Cl
open Go Go.RowKit Go.Lib Go.Sort

theorem nf_example : nf [3, -1, 3] = [-1, 3] := by
  refine (isNf_nf _).unique swo_cf ⟨?_, ?_⟩
  · refine List.pairwise_cons.2 ⟨fun x hx => ?_, List.pairwise_singleton _ _⟩
    obtain rfl : x = 3 := by simpa using hx
    rw [ltOf_cf]; decide +kernel
  · intro x; simp only [List.mem_cons, List.not_mem_nil, or_false]; omega
theorem normL_example : normL [3, -1, 3] = [-1, 3] := by unfold normL; rw [if_pos (by decide), nf_example]
theorem normX_example : normX [3, -1, 3] = false := by unfold normX; rw [nf_example]; decide
theorem show_example : (showText [[1, -2]]).toArray = #[112, 32, 99, 110, 102, 32, 50, 32, 49, 10, 49, 32, 45, 50, 32, 48, 10] := by decide +kernel

def exC : List Int := [3, -1, 3]
def exR : List Int := [-1, 3]
theorem alloc_row {zs : List Int} (w : World) (T : TypeId) : RowIn (Value.int .i64) (w.alloc (.cells (zs.map (Value.int .i64)).toArray T)) (some ⟨w.heap.size, 0, none⟩) zs := by
  refine Or.inr ⟨w.heap.size, 0, rfl, by simp, fun j hj => ?_⟩
  rw [Lib.cell_of_heap (b := w.heap.size) (cs := (zs.map (Value.int .i64)).toArray) (T := T) (fr := (0, 0)) (by unfold World.alloc; simp)]
  simp [hj]

end Go.Proofs.YthpamogomfleoaaDoor.Cl
