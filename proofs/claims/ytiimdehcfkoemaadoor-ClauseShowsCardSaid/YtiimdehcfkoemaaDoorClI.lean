/- awake: the document's examples hold. -/
import Derived.Test.YtiimdehcfkoemaaDoorClH
namespace Go.Proofs.YtiimdehcfkoemaaDoor.Cl
open Go Go.RowKit Go.Lib Go.Sort

theorem nf_example : nf [3, -1, 3] = [-1, 3] := by
  refine (isNf_nf _).unique swo_cf ⟨?_, ?_⟩
  · refine List.pairwise_cons.2 ⟨fun x hx => ?_, List.pairwise_singleton _ _⟩
    obtain rfl : x = 3 := by simpa using hx
    rw [ltOf_cf]; decide +kernel
  · intro x; simp only [List.mem_cons, List.not_mem_nil, or_false]; omega
theorem normL_example : normL [3, -1, 3] = [-1, 3] := by unfold normL; rw [if_pos (by decide), nf_example]
theorem normX_example : normX [3, -1, 3] = false := by unfold normX; rw [nf_example]; decide
theorem show_example : (showText [[1, -2]]).toArray = #[112, 32, 99, 110, 102, 32, 50, 32, 49, 10, 49, 32, 45, 50, 32, 48, 10] := by decide +kernel

def exC : List Int := [3, -1, 3]
def exR : List Int := [-1, 3]
theorem alloc_row {zs : List Int} (w : World) (T : TypeId) : RowIn (Value.int .i64) (w.alloc (.cells (zs.map (Value.int .i64)).toArray T)) (some ⟨w.heap.size, 0, none⟩) zs := by
  refine Or.inr ⟨w.heap.size, 0, rfl, by simp, fun j hj => ?_⟩
  rw [Lib.cell_of_heap (b := w.heap.size) (cs := (zs.map (Value.int .i64)).toArray) (T := T) (fr := (0, 0)) (by unfold World.alloc; simp)]
  simp [hj]

set_option maxHeartbeats 4000000 in
theorem awake_any (w : World) (ht : Tab w) :
    Calls Tryd.prog 9 #[] w fun e w' => e = .returned (.bool true) ∧ Below w.heap.size w w' := by
  have HT := Lib.hid ht
  clear ht
  have HN : Hid (Calls Tryd.prog 10 #[.slice (some ⟨w.heap.size, 0, none⟩) 3 3] (w.alloc (.cells #[.int .i64 3, .int .i64 (-1), .int .i64 3] 3)) fun e w' => ∃ b off c, e = .returned (.tuple #[.slice (some ⟨b, off, none⟩) 2 c, .bool false]) ∧ w'.cell? ⟨b, off, none⟩ = some (.int .i64 (-1)) ∧ w'.cell? ⟨b, off + 1, none⟩ = some (.int .i64 3) ∧ Below w.heap.size w w') := by
    refine (Norm_any (some ⟨w.heap.size, 0, none⟩) 3 [3, -1, 3] _ (alloc_row w 3) (by decide)).mono ?_
    rintro e w' ⟨a, c, rfl, hr, _, hB⟩
    rw [normL_example] at hr ⊢
    rw [normX_example]
    obtain ⟨b, off, rfl, _, hc⟩ := hr.pos (j := 0) (by decide)
    exact ⟨b, off, c, rfl, hc 0 (by decide), hc 1 (by decide), ((Below.refl _ _).alloc (Nat.le_refl _) _).trans (hB.mono (by simp))⟩
  have HS : Hid (∀ w1 : World, Below w.heap.size w w1 → Calls Tryd.prog 18 #[.slice (some ⟨w1.heap.size + 1, 0, none⟩) 1 1] ((w1.alloc (.cells #[.int .i64 1, .int .i64 (-2)] 3)).alloc (.cells #[.slice (some ⟨w1.heap.size, 0, none⟩) 2 2] 22)) fun e w' => e = .returned (.string ⟨#[112, 32, 99, 110, 102, 32, 50, 32, 49, 10, 49, 32, 45, 50, 32, 48, 10]⟩) ∧ Below w.heap.size w w') := by
    intro w1 h1
    have h2 : Below w.heap.size w ((w1.alloc (.cells #[.int .i64 1, .int .i64 (-2)] 3)).alloc (.cells #[.slice (some ⟨w1.heap.size, 0, none⟩) 2 2] 22)) := (h1.alloc h1.size _).alloc (by have := h1.size; simp; omega) _
    have hr : RowsIn ((w1.alloc (.cells #[.int .i64 1, .int .i64 (-2)] 3)).alloc (.cells #[.slice (some ⟨w1.heap.size, 0, none⟩) 2 2] 22)) (some ⟨w1.heap.size + 1, 0, none⟩) [⟨some ⟨w1.heap.size, 0, none⟩, 2, [1, -2]⟩] := by
      refine ⟨Or.inr ⟨w1.heap.size + 1, 0, rfl, by simp, fun j hj => ?_⟩, fun r hr => ?_, fun r hr => ?_⟩
      · obtain rfl : j = 0 := by simpa using hj
        simp [Row.val]
      · obtain rfl := List.mem_singleton.1 hr
        exact (alloc_row (zs := [1, -2]) w1 3).below ((Below.refl _ _).alloc (Nat.le_refl _) _)
      · obtain rfl := List.mem_singleton.1 hr; simp
    have h := Show_any (some ⟨w1.heap.size + 1, 0, none⟩) 1 _ _ (HT.out.below h2) hr (by simp) (by simp)
    refine h.mono ?_
    rintro e w' ⟨rfl, hB⟩
    refine ⟨?_, h2.trans (hB.mono h2.size)⟩
    rw [show (List.map Row.zs [⟨some ⟨w1.heap.size, 0, none⟩, 2, [1, -2]⟩]) = [[1, -2]] from rfl, show_example]
  go_enter Tryd.func9, Tryd.ntmps9
  go_wp2_with fail
  refine HN.out.mono ?_
  rintro e w1 ⟨b, off, c, rfl, hc0, hc1, hB⟩
  go_wp2_with fail
  refine (HS.out _ hB).mono ?_
  rintro e w2 ⟨rfl, hB2⟩
  go_wp2_with fail
  go_ret
  exact ⟨rfl, hB2⟩
end Go.Proofs.YtiimdehcfkoemaaDoor.Cl
