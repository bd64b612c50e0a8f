/- Contracts of add, join, And, Input. -/
import Derived.Test.YtbggenilngpjcaaGrA
import Derived.Deep.RegionLaw
import Derived.Deep.RegionHeld3
import Derived.Deep.RegionWith
namespace Go.Proofs.Ytbggenilngpjcaa.Gr
open Go Go.RowKit Go.Lib Go.Maps

theorem infoPair : (Try.prog.info? 69).map (fun i => (i.zero, i.size, i.bytes)) = some (some (.agg #[.int .i64 0, .int .i64 0]), 2, 16) := by kernel_rfl
theorem infoInt : (Try.prog.info? 3).map (fun i => (i.zero, i.size, i.bytes)) = some (some (.int .i64 0), 1, 8) := by kernel_rfl
theorem zeroInt (w : World) : (zeroValue 3).run Try.prog w = .ok (.int .i64 0) w := by kernel_rfl

/-- What add answers: the node is there, and nothing else has turned. -/
def AddE (w : World) (G : Loc) (L M : List Nd) (j : Nat) (d : Nd) (e : Ending) (w' : World) : Prop :=
  e = .returned (.int .i64 ((2 * (L.length + 1) : Nat) : Int)) ∧ ∃ G', RepX w' G' (L ++ [d]) M j ∧ Fr G w w' G' ∧ G'.b = G.b ∧ G'.iv = G.iv

set_option maxRecDepth 100000 in
set_option maxHeartbeats 4000000 in
theorem add_any {w : World} {G : Loc} {L : List Nd} (h : Rep w G L) (d : Nd) (hl : L.length < 150000) :
    Calls Try.prog 41 #[.pointer (some ⟨G.h, 0, none⟩), .agg #[.int .i64 (lo d : Int), .int .i64 (hi d : Int)]] w (AddE w G L L (ins L) d) := by
  obtain ⟨N, hN⟩ : ∃ N, N = L.length + 1 := ⟨_, rfl⟩
  have HN := Lib.hid hN
  have HR : Hid (RepX (w.alloc (.cells #[.int .i64 (lo d : Int), .int .i64 (hi d : Int)] 69)) G L L (ins L)) := h.alloc _
  have HF : Hid (Fr G w (w.alloc (.cells #[.int .i64 (lo d : Int), .int .i64 (hi d : Int)] 69)) G) := Fr.alloc _ _ _
  have HA := Lib.hid (Nodes_any HR.out N hN)
  have HX : Hid ((w.alloc (.cells #[.int .i64 (lo d : Int), .int .i64 (hi d : Int)] 69)).heap[w.heap.size]? = some (.cells #[.int .i64 (lo d : Int), .int .i64 (hi d : Int)] 69 (0, 0))) := heap_alloc_new w _
  have n1 : ¬ ((N : Int) = 0) := by omega
  have n2 : ((N : Int) == 0) = false := by simpa using n1
  have n3 : decide ((200000 : Int) ≤ (N : Int)) = false := by rw [decide_eq_false_iff_not]; omega
  have n4 : ¬ ((200000 : Int) ≤ (N : Int)) := by omega
  have HE : Hid (((2 * (L.length + 1) : Nat) : Int) = 2 * (N : Int)) := by rw [hN]; rfl
  have HC : Hid (pairC d = [.int .i64 (lo d : Int), .int .i64 (hi d : Int)]) := pairC_eq d
  generalize (lo d : Int) = x at *
  generalize (hi d : Int) = y at *
  clear h hl hN n1
  go_enter Try.func41, Try.ntmps41
  go_wp2_with fail
  refine HA.out.mono ?_
  rintro e w' ⟨rfl, rfl⟩
  obtain ⟨g0, k0, e0, hc0, _⟩ := HR.out.node
  have c0 := HR.out.c0
  have fz := HR.out.head.free 0
  have ho := HR.out.nodes
  have hne := HR.out.hn
  rw [e0] at c0 ho hne
  have hlt : G.h < (w.alloc (.cells #[.int .i64 x, .int .i64 y] 69)).heap.size := HR.out.head.lt
  rw [← HN.out] at c0 ho hne
  have E0 := Lib.hid e0
  have HH := Lib.hid ho
  obtain ⟨ii, hi, hz0, hz1, hz2⟩ := info_parts infoPair
  have hx0 : (w.alloc (.cells #[.int .i64 x, .int .i64 y] 69)).cell? ⟨w.heap.size, 0, none⟩ = some (.int .i64 x) := by simp only [World.cell?, HX.out]; rfl
  have hx1 : (w.alloc (.cells #[.int .i64 x, .int .i64 y] 69)).cell? ⟨w.heap.size, 1, none⟩ = some (.int .i64 y) := by simp only [World.cell?, HX.out]; rfl
  have hws : w.heap.size < (w.alloc (.cells #[.int .i64 x, .int .i64 y] 69)).heap.size := by simp
  clear e0 ho
  generalize w.alloc (.cells #[.int .i64 x, .int .i64 y] 69) = W1 at *
  go_wp2_with fail
  go_region_law (refine step_append_lies _ (by rfl) _ _ 70 (by rfl) 0 69 ii _ 2 16 Try.underlying70 hi hz0 hz1 hz2 rfl (by decide) _ _ _ (by rfl) ((HH.out.alloc _).drew) ⟨W1.heap.size, 0, none⟩ 1 1 [.int .i64 x, .int .i64 y] (by rfl) (by rfl) (World.news_of_block (cs := #[.int .i64 x, .int .i64 y]) (t := 69) (fr := (0, 0)) (heap_alloc_new W1 _)) (by simp [Value.oneCell']) (by decide) (by unfold maxLen; omega) (by omega) (Nat.zero_le _) (W1.heap.size + 1) (by simp) ?_; intro g cap w1 hown hgrow hat hlt1; have fz1 := (hgrow.frozen_far ⟨G.h, 0, none⟩ (by simp; omega) (Ne.symm hne)).trans ((HR.out.alloc _).drew.head.free 0); have cl1 := hgrow.cell ((HR.out.alloc _).drew.c0) (Ne.symm hne))
  all_goals
    have HW := (HR.out.alloc (.cells #[.int .i64 x, .int .i64 y] 69)).drew
    have R := HW.push (d := d) (g := g) (cap := cap) (w3 := w1) (by rw [E0.out]; exact hgrow) (by rw [E0.out]; exact hat.imp id (fun e => by simp; omega)) (by rw [← HN.out, HC.out]; exact hown)
    have HFIN : Hid (AddE w G L L (ins L) d (.returned (.int .i64 (2 * (N : Int)))) (w1.setCell ⟨G.h, 0, none⟩ (.slice (some ⟨g, 0, none⟩) (N + 1) cap))) := by
      rw [HN.out]
      exact ⟨by rfl, _, R.1, (HF.out.trans ((Fr.alloc _ _ _).trans (Fr.drew _ _))).trans R.2, rfl, rfl⟩
    clear R HW hown hgrow hat hlt1 fz1 cl1
    go_wp2_with fail
    go_ret
    exact HFIN.out
end Go.Proofs.Ytbggenilngpjcaa.Gr
