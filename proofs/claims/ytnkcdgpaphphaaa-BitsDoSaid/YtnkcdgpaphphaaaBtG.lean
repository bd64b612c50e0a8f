/- Contract of Same. -/
import Derived.Test.YtnkcdgpaphphaaaBtE
namespace Go.Proofs.Ytnkcdgpaphphaaa.Gr
open Go Go.RowKit Go.Lib Go.Maps

theorem zip_snoc {as1 bs : List Bool} {x y : Bool} (h : as1.length = bs.length) : List.zipWith (fun a b => a != b) (as1 ++ [x]) (bs ++ [y]) = List.zipWith (fun a b => a != b) as1 bs ++ [x != y] := by
  rw [List.zipWith_append h]; rfl
theorem zip_any : ∀ {as1 bs : List Bool}, as1.length = bs.length → (!(List.zipWith (fun a b => a != b) as1 bs).any id) = decide (as1 = bs) := by
  intro as1
  induction as1 with
  | nil => intro bs h; cases bs with
    | nil => rfl
    | cons => cases h
  | cons a as1 ih =>
    intro bs h
    cases bs with
    | nil => cases h
    | cons b bs =>
      have := ih (bs := bs) (by simpa using h)
      rw [List.zipWith_cons_cons, List.any_cons, Bool.not_or, this]
      cases a <;> cases b <;> simp

set_option maxRecDepth 100000 in
set_option maxHeartbeats 1000000 in
theorem Same_any {P : Prop} {w : World} {G : Loc} {L : List Nd} (a : Option Addr) (xs : List Nat) (c : Nat) (a2 : Option Addr) (ys : List Nat) (c2 : Nat) (t : Two w G P L a xs a2 ys) (hl : L.length < 100000) :
    Calls Try.prog 38 #[.pointer (some ⟨G.h, 0, none⟩), .slice a xs.length c, .slice a2 ys.length c2] w (EdgE w G P L 64 (fun m => decide ((wdE xs ys xs).map (Gr.val m L) = (wdE xs ys ys).map (Gr.val m L)))) := by
  have H1 := Lib.hid (t.pair c c2 (by omega))
  have hm1 := wid_pos xs ys
  have hm2 := wid_le xs ys
  have HA := Lib.hid (wdE_all (xs := xs) (ys := ys) t.ex (by omega))
  have HB := Lib.hid (wdE_all (xs := xs) (ys := ys) t.ey (by omega))
  have HP : Hid (P → (∀ e ∈ wdE xs ys xs, e ≤ 1) ∧ (∀ e ∈ wdE xs ys ys, e ≤ 1)) := fun p => ⟨wdE_all (p := fun e => e ≤ 1) (t.con p).1 (by omega), wdE_all (p := fun e => e ≤ 1) (t.con p).2 (by omega)⟩
  have HW := Lib.hid (And.intro t.wf hl)
  have HLA := Lib.hid (wdE_len xs ys xs)
  have HLB := Lib.hid (wdE_len xs ys ys)
  clear t hl
  generalize wdE xs ys xs = A at *
  generalize wdE xs ys ys = B at *
  generalize wid xs ys = n at *
  generalize xs.length = l1 at *
  generalize ys.length = l2 at *
  have HNN := Lib.hid hm2
  have hm := fun W => run_make_row' (P := Try.prog) 31 3 (.int .i64 0) 8 Try.underlying31 infoInt rfl .i64 .i64 n (by omega) (by omega) W
  go_enter Try.func38, Try.ntmps38
  go_wp2_with fail
  refine H1.out.mono ?_
  rintro e w1 ⟨b1, b2, G1, rfl, _, f1, f2⟩
  have HVX := Lib.hid (And.intro (f1.vec (by rw [HLA.out, List.length_replicate])) (f2.vec (by rw [HLB.out, List.length_replicate])))
  have HF1 := Lib.hid f1.fr
  have START : Hid (MapI w1 (w1.alloc (.cells (madeCells #[.int .i64 0] n) 3)) G1 P L w1.heap.size n 3 0 (fun m => List.zipWith (fun a b => a != b) ((A.take 0).map (Gr.val m L)) ((B.take 0).map (Gr.val m L)))) :=
    ⟨G1, L, [], rfl, Fil.made f1.rep (Fr.refl _ _) n, (Out.nil HW.out.1).congr fun m => rfl⟩
  clear f1 f2 H1
  go_wp2_with fail
  go_loopw [8, 21] (fun _ iv wr => ∃ k : Nat, iv = .int .i64 (k : Int) ∧ k ≤ n ∧ Hid (MapI w1 wr G1 P L w1.heap.size n 3 k (fun m => List.zipWith (fun a b => a != b) ((A.take k).map (Gr.val m L)) ((B.take k).map (Gr.val m L))))) (fun _ iv _ => n - (RowKit.intOf iv).toNat)
  case atStart => exact ⟨0, rfl, Nat.zero_le _, START⟩
  case round =>
    obtain ⟨k, rfl, hk, HH⟩ := hrel
    by_cases hlt : k < n
    · have hlz : (k : Int) < (n : Int) := by omega
      have k0 : (0 : Int) ≤ (k : Int) := by omega
      obtain ⟨G2, L2, es, hes, r1, hO⟩ := HH.out
      have kx : k < A.length := by rw [HLA.out]; exact hlt
      have ky : k < B.length := by rw [HLB.out]; exact hlt
      have hxk := HA.out _ (get_mem kx)
      have hyk := HB.out _ (get_mem ky)
      have hll := hO.lenle
      have hl := HW.out.2
      have hA := xor_ac (P := P) hO.wf (hO.lt hxk) (hO.lt hyk) (fun p => ⟨(HP.out p).1 _ (get_mem kx), (HP.out p).2 _ (get_mem ky)⟩)
      have hS := hO.snoc hA
      have H1 := Xor_any r1.drew.rep hO.wf (A.getD k 0) (B.getD k 0) (hO.lt hxk) (hO.lt hyk) (by omega)
      rw [r1.fr.h, HF1.out.h] at H1
      have HX1 := Lib.hid H1
      have HS : Hid (Out P L (3 * (k + 1)) (xorE L2 (A.getD k 0) (B.getD k 0)).2 (es ++ [(xorE L2 (A.getD k 0) (B.getD k 0)).1]) (fun m => List.zipWith (fun a b => a != b) ((A.take (k + 1)).map (Gr.val m L)) ((B.take (k + 1)).map (Gr.val m L)))) := by
        refine (hS.more (by omega)).congr fun m => ?_
        rw [take_snoc' kx, take_snoc' ky, List.map_append, List.map_append, hO.old hxk, hO.old hyk]
        exact (zip_snoc (by simp; omega)).symm
      have R1 := Lib.hid r1
      have HES := Lib.hid hes
      have HCX : Hid (∀ wr' G' (L' : List Nd) (es' : List Nat), Fil w1 wr' G1 G' L' w1.heap.size n es' (List.replicate n 0) → wr'.cell? ⟨b1, k, none⟩ = some (.int .i64 (A.getD k 0 : Int)) ∧ wr'.cell? ⟨b2, k, none⟩ = some (.int .i64 (B.getD k 0 : Int))) := by
        intro wr' G' L' es' hf
        obtain ⟨_, _, e, _, _, q1⟩ := (HVX.out.1.fr hf.fr).resolve_left (by omega)
        cases e
        obtain ⟨_, _, e, _, _, q2⟩ := (HVX.out.2.fr hf.fr).resolve_left (by omega)
        cases e
        have := q1 k kx
        have q2' := q2 k ky
        rw [Nat.zero_add] at this q2'
        exact ⟨this, q2'⟩
      have HFIN : Hid (∀ wr' G', Fil w1 wr' G1 G' (xorE L2 (A.getD k 0) (B.getD k 0)).2 w1.heap.size n (es ++ [(xorE L2 (A.getD k 0) (B.getD k 0)).1]) (List.replicate n 0) → MapI w1 wr' G1 P L w1.heap.size n 3 (k + 1) (fun m => List.zipWith (fun a b => a != b) ((A.take (k + 1)).map (Gr.val m L)) ((B.take (k + 1)).map (Gr.val m L)))) :=
        fun wr' G' hf => ⟨G', _, _, by rw [List.length_append, HES.out]; rfl, hf, HS.out⟩
      clear H1 hS hO hA HH r1 hes hxk hyk hl hll kx ky HS
      generalize xorE L2 (A.getD k 0) (B.getD k 0) = r at *
      generalize A.getD k 0 = xk at *
      generalize B.getD k 0 = yk at *
      go_wp2_with fail
      refine wp_region_H (S := fun w' => w'.cell? ⟨b1, k, none⟩ = some (.int .i64 (xk : Int)) ∧ w'.cell? ⟨b2, k, none⟩ = some (.int .i64 (yk : Int))) 14 (by kernel_rfl) (HCX.out _ _ _ _ R1.out.drew) (fun hSx => ?_)
      refine wpAnyH_takeB (i := 0) (v := ?vya_0) rfl (by kernel_rfl) (fun _ _ _ h => h) rfl ?ya_0 hSx ?_
      case ya_0 => (intro w' hSw; (try dsimp only at hSw); go_split_ands; go_simp; try with_reducible rfl)
      try simp only [Act.put, List.getElem_toArray, List.getElem_cons_zero, List.setIfInBounds_toArray, List.set_cons_zero, List.set_cons_succ]
      refine wpAnyH_takeB (i := 1) (v := ?vya_1) rfl (by kernel_rfl) (fun _ _ _ h => h) rfl ?ya_1 hSx ?_
      case ya_1 => (intro w' hSw; (try dsimp only at hSw); go_split_ands; go_simp; try with_reducible rfl)
      try simp only [Act.put, List.getElem_toArray, List.getElem_cons_succ, List.getElem_cons_zero, List.setIfInBounds_toArray, List.set_cons_zero, List.set_cons_succ]
      refine wpAnyH_takeB (i := 2) (v := ?vya_2) rfl (by kernel_rfl) (fun _ _ _ h => h) rfl ?ya_2 hSx ?_
      case ya_2 => (intro w' hSw; (try dsimp only at hSw); go_split_ands; go_simp; try with_reducible rfl)
      try simp only [Act.put, List.getElem_toArray, List.getElem_cons_succ, List.getElem_cons_zero, List.setIfInBounds_toArray, List.set_cons_zero, List.set_cons_succ]
      refine wpAnyH_takeB (i := 3) (v := ?vya_3) rfl (by kernel_rfl) (fun _ _ _ h => h) rfl ?ya_3 hSx ?_
      case ya_3 => (intro w' hSw; (try dsimp only at hSw); go_split_ands; go_simp; try with_reducible rfl)
      try simp only [Act.put, List.getElem_toArray, List.getElem_cons_succ, List.getElem_cons_zero, List.setIfInBounds_toArray, List.set_cons_zero, List.set_cons_succ]
      refine wpAnyH_takeB (i := 4) (v := ?vya_4) rfl (by kernel_rfl) (fun _ _ _ h => h) rfl ?ya_4 hSx ?_
      case ya_4 => (intro w' hSw; (try dsimp only at hSw); go_split_ands; go_simp; try with_reducible rfl)
      try simp only [Act.put, List.getElem_toArray, List.getElem_cons_succ, List.getElem_cons_zero, List.setIfInBounds_toArray, List.set_cons_zero, List.set_cons_succ]
      refine wpAnyH_takeB (i := 5) (v := ?vya_5) rfl (by kernel_rfl) (fun _ _ _ h => h) rfl ?ya_5 hSx ?_
      case ya_5 => (intro w' hSw; (try dsimp only at hSw); go_split_ands; go_simp; try with_reducible rfl)
      try simp only [Act.put, List.getElem_toArray, List.getElem_cons_succ, List.getElem_cons_zero, List.setIfInBounds_toArray, List.set_cons_zero, List.set_cons_succ]
      refine wpAnyH_takeB (i := 6) (v := ?vya_6) rfl (by kernel_rfl) (fun _ _ _ h => h) rfl ?ya_6 hSx ?_
      case ya_6 => (intro w' hSw; (try dsimp only at hSw); go_split_ands; go_simp; try with_reducible rfl)
      try simp only [Act.put, List.getElem_toArray, List.getElem_cons_succ, List.getElem_cons_zero, List.setIfInBounds_toArray, List.set_cons_zero, List.set_cons_succ]
      refine wpAnyH_takeB (i := 7) (v := ?vya_7) rfl (by kernel_rfl) (fun _ _ _ h => h) rfl ?ya_7 hSx ?_
      case ya_7 => (intro w' hSw; (try dsimp only at hSw); go_split_ands; go_simp; try with_reducible rfl)
      try simp only [Act.put, List.getElem_toArray, List.getElem_cons_succ, List.getElem_cons_zero, List.setIfInBounds_toArray, List.set_cons_zero, List.set_cons_succ]
      refine wpAnyH_takeB (i := 8) (v := ?vya_8) rfl (by kernel_rfl) (fun _ _ _ h => h) rfl ?ya_8 hSx ?_
      case ya_8 => (intro w' hSw; (try dsimp only at hSw); go_split_ands; go_simp; try with_reducible rfl)
      try simp only [Act.put, List.getElem_toArray, List.getElem_cons_succ, List.getElem_cons_zero, List.setIfInBounds_toArray, List.set_cons_zero, List.set_cons_succ]
      refine wpAnyH_takeB (i := 9) (v := ?vya_9) rfl (by kernel_rfl) (fun _ _ _ h => h) rfl ?ya_9 hSx ?_
      case ya_9 => (intro w' hSw; (try dsimp only at hSw); go_split_ands; go_simp; try with_reducible rfl)
      try simp only [Act.put, List.getElem_toArray, List.getElem_cons_succ, List.getElem_cons_zero, List.setIfInBounds_toArray, List.set_cons_zero, List.set_cons_succ]
      refine wpAnyH_takeB (i := 10) (v := ?vya_10) rfl (by kernel_rfl) (fun _ _ _ h => h) rfl ?ya_10 hSx ?_
      case ya_10 => (intro w' hSw; (try dsimp only at hSw); go_split_ands; go_simp; try with_reducible rfl)
      try simp only [Act.put, List.getElem_toArray, List.getElem_cons_succ, List.getElem_cons_zero, List.setIfInBounds_toArray, List.set_cons_zero, List.set_cons_succ]
      refine' wpAnyH_one (i := 11) ?taya11 ?tbya11 ?tcya11 ?tdya11
      case tbya11 => rfl
      case taya11 => kernel_rfl
      case tcya11 => rfl
      intro K hK
      go_simp
      refine HX1.out.mono ?_
      rintro e w3 ⟨rfl, G3, g1, g2⟩
      have f3 := R1.out.drew.op g1 g2
      have fz3 := f3.free k
      have c3 := f3.next (i := k) (by rw [List.length_replicate]; exact hlt) (by rw [HES.out]; exact Nat.le_refl _)
      have f4 := f3.put (k := k) HES.out (by rw [List.length_replicate]; exact hlt) r.1
      have S4 := Lib.hid (HCX.out _ _ _ _ f4)
      have F4 := Lib.hid (HFIN.out _ _ f4)
      have S3 := Lib.hid (HCX.out _ _ _ _ f3)
      generalize ((List.replicate n 0).getD k 0 : Int) = yy at *
      clear f3 f4 g1 g2 R1 HX1
      try dsimp only
      refine hK.out _ _ (S3.out) (fun hSx => ?_)
      clear hK K
      try simp only [Act.put, List.getElem_toArray, List.getElem_cons_succ, List.getElem_cons_zero, List.setIfInBounds_toArray, List.set_cons_zero, List.set_cons_succ]
      refine wpAnyH_takeB (i := 12) (v := ?vya_12) rfl (by kernel_rfl) (fun _ _ _ h => h) rfl ?ya_12 hSx ?_
      case ya_12 => (intro w' hSw; (try dsimp only at hSw); go_split_ands; go_simp; try with_reducible rfl)
      try simp only [Act.put, List.getElem_toArray, List.getElem_cons_succ, List.getElem_cons_zero, List.setIfInBounds_toArray, List.set_cons_zero, List.set_cons_succ]
      refine' wpAnyH_one (i := 13) ?taya13 ?tbya13 ?tcya13 ?tdya13
      case tbya13 => rfl
      case taya13 => kernel_rfl
      case tcya13 => rfl
      intro K hK
      go_simp
      try dsimp only
      refine hK.out _ _ (S4.out) (fun hSx => ?_)
      clear hK K
      try simp only [Act.put, List.getElem_toArray, List.getElem_cons_succ, List.getElem_cons_zero, List.setIfInBounds_toArray, List.set_cons_zero, List.set_cons_succ]
      refine wpAnyH_done (by kernel_rfl) ?_ _
      go_wp2_with fail
      go_roundw
      case rel => exact ⟨k + 1, by go_num, by omega, F4⟩
      case measure => simp [RowKit.intOf]; omega
    · obtain rfl : k = n := by omega
      have hlz : ¬ (k : Int) < (k : Int) := by omega
      obtain ⟨G2, L2, es, hes, r1, hO⟩ := HH.out
      have hll := hO.lenle
      have hA := Any_vec (P := P) r1.rep hO.wf (some ⟨w1.heap.size, 0, none⟩) es k k (r1.vec (by rw [List.length_replicate]; exact hes)) hes HNN.out hO.own (fun p => (hO.con p).2) (by have := HW.out.2; have := HNN.out; omega)
      rw [r1.fr.h, HF1.out.h] at hA
      have HAA := Lib.hid hA
      have HF : Hid (∀ w2 (r : Nat × List Nd) G3, Rep w2 G3 r.2 → Fr G2 wr w2 G3 → Ac P L2 k r (fun m => (es.map (Gr.val m L2)).any id) → EdgE w G P L 64 (fun m => decide (A.map (Gr.val m L) = B.map (Gr.val m L))) (.returned (.int .i64 (neg r.1 : Int))) w2) := fun w2 r G3 hr hf hac =>
        ⟨G3, r.2, neg r.1, rfl, hr, HF1.out.trans (r1.fr.trans hf), (((hO.then hac.neg.out id).more (by have := HNN.out; omega)).congr fun m => by
          rw [hO.val m, List.take_of_length_le (by rw [HLA.out]; exact Nat.le_refl _), List.take_of_length_le (by rw [HLB.out]; exact Nat.le_refl _), zip_any (by rw [List.length_map, List.length_map, HLA.out, HLB.out])])⟩
      have HLT : Hid (∀ r : Nat × List Nd, Ac P L2 k r (fun m => (es.map (Gr.val m L2)).any id) → r.1 < 1000000) := fun r hac => by have := hac.ans.own; have := hac.ans.lenle; have := HW.out.2; have := HNN.out; omega
      clear r1 hO HH hes hll hA
      go_wp2_with fail
      refine HAA.out.mono ?_
      rintro e w2 ⟨r, ⟨rfl, G3, g1, g2⟩, hac⟩
      have HF2 := Lib.hid (HF.out _ _ _ g1 g2 hac)
      have HN := Lib.hid (Not_any r.1 w2 (HLT.out r hac))
      clear g1 g2 hac HAA HF
      generalize neg r.1 = nr at *
      go_wp2_with fail
      refine HN.out.mono ?_
      rintro e w' ⟨rfl, rfl⟩
      go_wp2_with fail
      go_ret
      exact HF2.out
end Go.Proofs.Ytnkcdgpaphphaaa.Gr
