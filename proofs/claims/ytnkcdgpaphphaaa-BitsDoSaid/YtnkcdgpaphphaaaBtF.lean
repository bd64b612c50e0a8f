/- Contract of Mux. -/
import Derived.Test.YtnkcdgpaphphaaaBtE
namespace Go.Proofs.Ytnkcdgpaphphaaa.Gr
open Go Go.RowKit Go.Lib Go.Maps

theorem Own.vec0 {w wr : World} {G G1 : Loc} {L : List Nd} {b c : Nat} {es ys : List Nat} (h : Fil w wr G G1 L b c es ys) (he : es.length = ys.length) : Vec wr G1 (some ⟨b, 0, none⟩) es := h.vec he

set_option maxRecDepth 100000 in
set_option maxHeartbeats 1000000 in
theorem BMux_any {P : Prop} {w : World} {G : Loc} {L : List Nd} (s : Nat) (a : Option Addr) (xs : List Nat) (c : Nat) (a2 : Option Addr) (ys : List Nat) (c2 : Nat) (t : Two w G P L a xs a2 ys) (hs : s < 2 * (L.length + 1)) (hPs : P → s ≤ 1) (hl : L.length < 110000) :
    Calls Try.prog 44 #[.pointer (some ⟨G.h, 0, none⟩), .int .i64 (s : Int), .slice a xs.length c, .slice a2 ys.length c2] w (RowE w G P L (3 * wid xs ys) (wid xs ys) (fun m => if Gr.val m L s then (wdE xs ys xs).map (Gr.val m L) else (wdE xs ys ys).map (Gr.val m L))) := by
  have H0 := Lib.hid (own_bits t.rep s hs (by omega))
  have H1 : Hid (∀ w' G', Rep w' G' L → Fr G w w' G' → Calls Try.prog 60 #[.pointer (some ⟨G.h, 0, none⟩), .slice a xs.length c, .slice a2 ys.length c2] w' (PairE w' G' L (wid xs ys) (wdE xs ys xs) (wdE xs ys ys))) := fun w' G' hr hf => by
    have := pair_any hr a xs c a2 ys c2 (t.hx.fr hf) (t.hy.fr hf) t.nx t.ny t.ex t.ey (by omega)
    rwa [hf.h] at this
  have hm1 := wid_pos xs ys
  have hm2 := wid_le xs ys
  have HA := Lib.hid (wdE_all (xs := xs) (ys := ys) t.ex (by omega))
  have HB := Lib.hid (wdE_all (xs := xs) (ys := ys) t.ey (by omega))
  have HP : Hid (P → s ≤ 1 ∧ (∀ e ∈ wdE xs ys xs, e ≤ 1) ∧ (∀ e ∈ wdE xs ys ys, e ≤ 1)) := fun p => ⟨hPs p, wdE_all (p := fun e => e ≤ 1) (t.con p).1 (by omega), wdE_all (p := fun e => e ≤ 1) (t.con p).2 (by omega)⟩
  have HW := Lib.hid (And.intro t.wf (And.intro hl hs))
  have HLA := Lib.hid (wdE_len xs ys xs)
  have HLB := Lib.hid (wdE_len xs ys ys)
  clear t hl hs hPs
  generalize wdE xs ys xs = A at *
  generalize wdE xs ys ys = B at *
  generalize wid xs ys = n at *
  generalize xs.length = l1 at *
  generalize ys.length = l2 at *
  have hm := fun W => run_make_row' (P := Try.prog) 31 3 (.int .i64 0) 8 Try.underlying31 infoInt rfl .i64 .i64 n (by omega) (by omega) W
  go_enter Try.func44, Try.ntmps44
  go_wp2_with fail
  refine H0.out.mono ?_
  rintro e w0 ⟨rfl, G0, r0, f0⟩
  have H1' := Lib.hid (H1.out _ _ r0 f0)
  have F0 := Lib.hid f0
  clear r0 f0 H1 H0
  go_wp2_with fail
  refine H1'.out.mono ?_
  rintro e w1 ⟨b1, b2, G1, rfl, _, f1, f2⟩
  have HVX := Lib.hid (And.intro (f1.vec (by rw [HLA.out, List.length_replicate])) (f2.vec (by rw [HLB.out, List.length_replicate])))
  have HF1 := Lib.hid (F0.out.trans f1.fr)
  have START : Hid (MapI w1 (w1.alloc (.cells (madeCells #[.int .i64 0] n) 3)) G1 P L w1.heap.size n 3 0 (fun m => if Gr.val m L s then (A.take 0).map (Gr.val m L) else (B.take 0).map (Gr.val m L))) :=
    ⟨G1, L, [], rfl, Fil.made f1.rep (Fr.refl _ _) n, (Out.nil HW.out.1).congr fun m => by simp⟩
  clear f1 f2 H1' F0
  go_wp2_with fail
  go_loopw [10, 26] (fun _ iv wr => ∃ k : Nat, iv = .int .i64 (k : Int) ∧ k ≤ n ∧ Hid (MapI w1 wr G1 P L w1.heap.size n 3 k (fun m => if Gr.val m L s then (A.take k).map (Gr.val m L) else (B.take k).map (Gr.val m L)))) (fun _ iv _ => n - (RowKit.intOf iv).toNat)
  case atStart => exact ⟨0, rfl, Nat.zero_le _, START⟩
  case round =>
    obtain ⟨k, rfl, hk, HH⟩ := hrel
    by_cases hlt : k < n
    · have hlz : (k : Int) < (n : Int) := by omega
      have k0 : (0 : Int) ≤ (k : Int) := by omega
      obtain ⟨G2, L2, es, hes, r1, hO⟩ := HH.out
      have kx : k < A.length := by rw [HLA.out]; exact hlt
      have ky : k < B.length := by rw [HLB.out]; exact hlt
      have hxk := HA.out _ (get_mem kx)
      have hyk := HB.out _ (get_mem ky)
      have hll := hO.lenle
      have hl := HW.out.2.1
      have hs := HW.out.2.2
      have hA := mux_ac (P := P) hO.wf (hO.lt hs) (hO.lt hxk) (hO.lt hyk) (fun p => ⟨(HP.out p).1, (HP.out p).2.1 _ (get_mem kx), (HP.out p).2.2 _ (get_mem ky)⟩)
      have hS := hO.snoc hA
      have H1 := Mux_any r1.drew.rep hO.wf s (A.getD k 0) (B.getD k 0) (hO.lt hs) (hO.lt hxk) (hO.lt hyk) (by omega)
      rw [r1.fr.h, HF1.out.h] at H1
      have HX1 := Lib.hid H1
      have HS : Hid (Out P L (3 * (k + 1)) (muxE L2 s (A.getD k 0) (B.getD k 0)).2 (es ++ [(muxE L2 s (A.getD k 0) (B.getD k 0)).1]) (fun m => if Gr.val m L s then (A.take (k + 1)).map (Gr.val m L) else (B.take (k + 1)).map (Gr.val m L))) := by
        refine (hS.more (by omega)).congr fun m => ?_
        rw [take_snoc' kx, take_snoc' ky, List.map_append, List.map_append, hO.old hs, hO.old hxk, hO.old hyk]
        cases Gr.val m L s <;> rfl
      have R1 := Lib.hid r1
      have HES := Lib.hid hes
      have HCX : Hid (∀ wr' G' (L' : List Nd) (es' : List Nat), Fil w1 wr' G1 G' L' w1.heap.size n es' (List.replicate n 0) → wr'.cell? ⟨b1, k, none⟩ = some (.int .i64 (A.getD k 0 : Int)) ∧ wr'.cell? ⟨b2, k, none⟩ = some (.int .i64 (B.getD k 0 : Int))) := by
        intro wr' G' L' es' hf
        obtain ⟨_, _, e, _, _, q1⟩ := (HVX.out.1.fr hf.fr).resolve_left (by omega)
        cases e
        obtain ⟨_, _, e, _, _, q2⟩ := (HVX.out.2.fr hf.fr).resolve_left (by omega)
        cases e
        have := q1 k kx
        have q2' := q2 k ky
        rw [Nat.zero_add] at this q2'
        exact ⟨this, q2'⟩
      have HFIN : Hid (∀ wr' G', Fil w1 wr' G1 G' (muxE L2 s (A.getD k 0) (B.getD k 0)).2 w1.heap.size n (es ++ [(muxE L2 s (A.getD k 0) (B.getD k 0)).1]) (List.replicate n 0) → MapI w1 wr' G1 P L w1.heap.size n 3 (k + 1) (fun m => if Gr.val m L s then (A.take (k + 1)).map (Gr.val m L) else (B.take (k + 1)).map (Gr.val m L))) :=
        fun wr' G' hf => ⟨G', _, _, by rw [List.length_append, HES.out]; rfl, hf, HS.out⟩
      clear H1 hS hO hA HH r1 hes hxk hyk hl hll kx ky hs HS
      generalize muxE L2 s (A.getD k 0) (B.getD k 0) = r at *
      generalize A.getD k 0 = xk at *
      generalize B.getD k 0 = yk at *
      go_wp2_with fail
      refine wp_region_H (S := fun w' => w'.cell? ⟨b1, k, none⟩ = some (.int .i64 (xk : Int)) ∧ w'.cell? ⟨b2, k, none⟩ = some (.int .i64 (yk : Int))) 15 (by kernel_rfl) (HCX.out _ _ _ _ R1.out.drew) (fun hSx => ?_)
      refine wpAnyH_takeB (i := 0) (v := ?vya_0) rfl (by kernel_rfl) (fun _ _ _ h => h) rfl ?ya_0 hSx ?_
      case ya_0 => (intro w' hSw; (try dsimp only at hSw); go_split_ands; go_simp; try with_reducible rfl)
      try simp only [Act.put, List.getElem_toArray, List.getElem_cons_zero, List.setIfInBounds_toArray, List.set_cons_zero, List.set_cons_succ]
      refine wpAnyH_takeB (i := 1) (v := ?vya_1) rfl (by kernel_rfl) (fun _ _ _ h => h) rfl ?ya_1 hSx ?_
      case ya_1 => (intro w' hSw; (try dsimp only at hSw); go_split_ands; go_simp; try with_reducible rfl)
      try simp only [Act.put, List.getElem_toArray, List.getElem_cons_succ, List.getElem_cons_zero, List.setIfInBounds_toArray, List.set_cons_zero, List.set_cons_succ]
      refine wpAnyH_takeB (i := 2) (v := ?vya_2) rfl (by kernel_rfl) (fun _ _ _ h => h) rfl ?ya_2 hSx ?_
      case ya_2 => (intro w' hSw; (try dsimp only at hSw); go_split_ands; go_simp; try with_reducible rfl)
      try simp only [Act.put, List.getElem_toArray, List.getElem_cons_succ, List.getElem_cons_zero, List.setIfInBounds_toArray, List.set_cons_zero, List.set_cons_succ]
      refine wpAnyH_takeB (i := 3) (v := ?vya_3) rfl (by kernel_rfl) (fun _ _ _ h => h) rfl ?ya_3 hSx ?_
      case ya_3 => (intro w' hSw; (try dsimp only at hSw); go_split_ands; go_simp; try with_reducible rfl)
      try simp only [Act.put, List.getElem_toArray, List.getElem_cons_succ, List.getElem_cons_zero, List.setIfInBounds_toArray, List.set_cons_zero, List.set_cons_succ]
      refine wpAnyH_takeB (i := 4) (v := ?vya_4) rfl (by kernel_rfl) (fun _ _ _ h => h) rfl ?ya_4 hSx ?_
      case ya_4 => (intro w' hSw; (try dsimp only at hSw); go_split_ands; go_simp; try with_reducible rfl)
      try simp only [Act.put, List.getElem_toArray, List.getElem_cons_succ, List.getElem_cons_zero, List.setIfInBounds_toArray, List.set_cons_zero, List.set_cons_succ]
      refine wpAnyH_takeB (i := 5) (v := ?vya_5) rfl (by kernel_rfl) (fun _ _ _ h => h) rfl ?ya_5 hSx ?_
      case ya_5 => (intro w' hSw; (try dsimp only at hSw); go_split_ands; go_simp; try with_reducible rfl)
      try simp only [Act.put, List.getElem_toArray, List.getElem_cons_succ, List.getElem_cons_zero, List.setIfInBounds_toArray, List.set_cons_zero, List.set_cons_succ]
      refine wpAnyH_takeB (i := 6) (v := ?vya_6) rfl (by kernel_rfl) (fun _ _ _ h => h) rfl ?ya_6 hSx ?_
      case ya_6 => (intro w' hSw; (try dsimp only at hSw); go_split_ands; go_simp; try with_reducible rfl)
      try simp only [Act.put, List.getElem_toArray, List.getElem_cons_succ, List.getElem_cons_zero, List.setIfInBounds_toArray, List.set_cons_zero, List.set_cons_succ]
      refine wpAnyH_takeB (i := 7) (v := ?vya_7) rfl (by kernel_rfl) (fun _ _ _ h => h) rfl ?ya_7 hSx ?_
      case ya_7 => (intro w' hSw; (try dsimp only at hSw); go_split_ands; go_simp; try with_reducible rfl)
      try simp only [Act.put, List.getElem_toArray, List.getElem_cons_succ, List.getElem_cons_zero, List.setIfInBounds_toArray, List.set_cons_zero, List.set_cons_succ]
      refine wpAnyH_takeB (i := 8) (v := ?vya_8) rfl (by kernel_rfl) (fun _ _ _ h => h) rfl ?ya_8 hSx ?_
      case ya_8 => (intro w' hSw; (try dsimp only at hSw); go_split_ands; go_simp; try with_reducible rfl)
      try simp only [Act.put, List.getElem_toArray, List.getElem_cons_succ, List.getElem_cons_zero, List.setIfInBounds_toArray, List.set_cons_zero, List.set_cons_succ]
      refine wpAnyH_takeB (i := 9) (v := ?vya_9) rfl (by kernel_rfl) (fun _ _ _ h => h) rfl ?ya_9 hSx ?_
      case ya_9 => (intro w' hSw; (try dsimp only at hSw); go_split_ands; go_simp; try with_reducible rfl)
      try simp only [Act.put, List.getElem_toArray, List.getElem_cons_succ, List.getElem_cons_zero, List.setIfInBounds_toArray, List.set_cons_zero, List.set_cons_succ]
      refine wpAnyH_takeB (i := 10) (v := ?vya_10) rfl (by kernel_rfl) (fun _ _ _ h => h) rfl ?ya_10 hSx ?_
      case ya_10 => (intro w' hSw; (try dsimp only at hSw); go_split_ands; go_simp; try with_reducible rfl)
      try simp only [Act.put, List.getElem_toArray, List.getElem_cons_succ, List.getElem_cons_zero, List.setIfInBounds_toArray, List.set_cons_zero, List.set_cons_succ]
      refine wpAnyH_takeB (i := 11) (v := ?vya_11) rfl (by kernel_rfl) (fun _ _ _ h => h) rfl ?ya_11 hSx ?_
      case ya_11 => (intro w' hSw; (try dsimp only at hSw); go_split_ands; go_simp; try with_reducible rfl)
      try simp only [Act.put, List.getElem_toArray, List.getElem_cons_succ, List.getElem_cons_zero, List.setIfInBounds_toArray, List.set_cons_zero, List.set_cons_succ]
      refine' wpAnyH_one (i := 12) ?taya12 ?tbya12 ?tcya12 ?tdya12
      case tbya12 => rfl
      case taya12 => kernel_rfl
      case tcya12 => rfl
      intro K hK
      go_simp
      refine HX1.out.mono ?_
      rintro e w3 ⟨rfl, G3, g1, g2⟩
      have f3 := R1.out.drew.op g1 g2
      have fz3 := f3.free k
      have c3 := f3.next (i := k) (by rw [List.length_replicate]; exact hlt) (by rw [HES.out]; exact Nat.le_refl _)
      have f4 := f3.put (k := k) HES.out (by rw [List.length_replicate]; exact hlt) r.1
      have S4 := Lib.hid (HCX.out _ _ _ _ f4)
      have F4 := Lib.hid (HFIN.out _ _ f4)
      have S3 := Lib.hid (HCX.out _ _ _ _ f3)
      generalize ((List.replicate n 0).getD k 0 : Int) = yy at *
      clear f3 f4 g1 g2 R1 HX1
      try dsimp only
      refine hK.out _ _ (S3.out) (fun hSx => ?_)
      clear hK K
      try simp only [Act.put, List.getElem_toArray, List.getElem_cons_succ, List.getElem_cons_zero, List.setIfInBounds_toArray, List.set_cons_zero, List.set_cons_succ]
      refine wpAnyH_takeB (i := 13) (v := ?vya_13) rfl (by kernel_rfl) (fun _ _ _ h => h) rfl ?ya_13 hSx ?_
      case ya_13 => (intro w' hSw; (try dsimp only at hSw); go_split_ands; go_simp; try with_reducible rfl)
      try simp only [Act.put, List.getElem_toArray, List.getElem_cons_succ, List.getElem_cons_zero, List.setIfInBounds_toArray, List.set_cons_zero, List.set_cons_succ]
      refine' wpAnyH_one (i := 14) ?taya14 ?tbya14 ?tcya14 ?tdya14
      case tbya14 => rfl
      case taya14 => kernel_rfl
      case tcya14 => rfl
      intro K hK
      go_simp
      try dsimp only
      refine hK.out _ _ (S4.out) (fun hSx => ?_)
      clear hK K
      try simp only [Act.put, List.getElem_toArray, List.getElem_cons_succ, List.getElem_cons_zero, List.setIfInBounds_toArray, List.set_cons_zero, List.set_cons_succ]
      refine wpAnyH_done (by kernel_rfl) ?_ _
      go_wp2_with fail
      go_roundw
      case rel => exact ⟨k + 1, by go_num, by omega, F4⟩
      case measure => simp [RowKit.intOf]; omega
    · obtain rfl : k = n := by omega
      have hlz : ¬ (k : Int) < (k : Int) := by omega
      obtain ⟨G2, L2, es, hes, r1, hO⟩ := HH.out
      have HF : Hid (RowE w G P L (3 * k) k (fun m => if Gr.val m L s then A.map (Gr.val m L) else B.map (Gr.val m L)) (.returned (.slice (some ⟨w1.heap.size, 0, none⟩) k k)) wr) := ⟨w1.heap.size, G2, L2, es, rfl, hes, r1.pre HF1.out, hO.congr fun m => by rw [List.take_of_length_le (by rw [HLA.out]; exact Nat.le_refl _), List.take_of_length_le (by rw [HLB.out]; exact Nat.le_refl _)]⟩
      clear r1 hO HH hes
      go_wp2_with fail
      go_ret
      exact HF.out
end Go.Proofs.Ytnkcdgpaphphaaa.Gr
