/- Contract of sum. -/
import Derived.Test.YtnkcdgpaphphaaaBtC
import Derived.Test.YtnkcdgpaphphaaaGrRg
namespace Go.Proofs.Ytnkcdgpaphphaaa.Gr
open Go Go.RowKit Go.Lib Go.Maps

/-- A loop's state: a row under way, an edge, what both are worth. -/
def SumI (w wr : World) (G : Loc) (P : Prop) (L : List Nd) (b n k c : Nat) (f : (Nat → Bool) → List Bool) (g : (Nat → Bool) → Bool) : Prop :=
  ∃ (G' : Loc) (L' : List Nd) (es : List Nat), es.length = k ∧ Fil w wr G G' L' b n es (List.replicate n 0) ∧ Out P L (9 * k) L' (es ++ [c]) (fun m => f m ++ [g m])

set_option maxRecDepth 100000 in
set_option maxHeartbeats 2000000 in
theorem sum_any {P : Prop} {w : World} {G : Loc} {L : List Nd} (h : Rep w G L) (hW : Wf L) (a : Option Addr) (xs : List Nat) (c : Nat) (a2 : Option Addr) (ys : List Nat) (c2 : Nat) (n cin : Nat) (hx : Vec w G a xs) (hy : Vec w G a2 ys) (hnx : xs.length = n) (hny : ys.length = n) (hn1 : 1 ≤ n) (hn : n ≤ 16) (he : ∀ e ∈ xs, e < 2 * (L.length + 1)) (he2 : ∀ e ∈ ys, e < 2 * (L.length + 1)) (hcin : cin < 2 * (L.length + 1)) (hP : P → (∀ e ∈ xs, e ≤ 1) ∧ (∀ e ∈ ys, e ≤ 1) ∧ cin ≤ 1) (hl : L.length < 120000) :
    Calls Try.prog 64 #[.pointer (some ⟨G.h, 0, none⟩), .slice a n c, .slice a2 n c2, .int .i64 (cin : Int)] w (SumE w G P L (9 * n) n (fun m => (sumF L xs ys cin n m).1) (fun m => (sumF L xs ys cin n m).2)) := by
  obtain ⟨p1, o1, rfl, hx1⟩ := hx.resolve_left (by omega)
  obtain ⟨p2, o2, rfl, hy1⟩ := hy.resolve_left (by omega)
  have HVX := Lib.hid (And.intro hx hy)
  have HC := Lib.hid (And.intro hnx (And.intro hny (And.intro he (And.intro he2 (And.intro hP hl)))))
  have hm := fun W => run_make_row' (P := Try.prog) 31 3 (.int .i64 0) 8 Try.underlying31 infoInt rfl .i64 .i64 n (by omega) (by omega) W
  have START : Hid (SumI w (w.alloc (.cells (madeCells #[.int .i64 0] n) 3)) G P L w.heap.size n 0 cin (fun m => (sumF L xs ys cin 0 m).1) (fun m => (sumF L xs ys cin 0 m).2)) :=
    ⟨G, L, [], rfl, Fil.made h (Fr.refl _ _) n, (Out.same hW (es := [cin]) (fun e he => by simp at he; subst he; exact hcin) (fun p e he => by simp at he; subst he; exact (hP p).2.2)).congr fun m => rfl⟩
  clear h hW hx hy hx1 hy1 he he2 hcin hP hl hnx hny
  go_enter Try.func64, Try.ntmps64
  go_wp2_with fail
  go_loopw [3, 11, 12, 18] (fun cv _ _ iv wr => ∃ k cc : Nat, cv = .int .i64 (cc : Int) ∧ iv = .int .i64 (k : Int) ∧ k ≤ n ∧ Hid (SumI w wr G P L w.heap.size n k cc (fun m => (sumF L xs ys cin k m).1) (fun m => (sumF L xs ys cin k m).2))) (fun _ _ _ iv _ => n - (RowKit.intOf iv).toNat)
  case atStart => exact ⟨0, cin, rfl, rfl, Nat.zero_le _, START⟩
  case round =>
    obtain ⟨k, cc, rfl, rfl, hk, HH⟩ := hrel
    by_cases hlt : k < n
    · have hlz : (k : Int) < (n : Int) := by omega
      have k0 : (0 : Int) ≤ (k : Int) := by omega
      obtain ⟨G1, L1, es, hes, r1, hO⟩ := HH.out
      have kx : k < xs.length := by have := HC.out.1; omega
      have ky : k < ys.length := by have := HC.out.2.1; omega
      obtain ⟨o, eo⟩ : ∃ o, xorE L1 (xs.getD k 0) (ys.getD k 0) = o := ⟨_, rfl⟩
      obtain ⟨r, er⟩ : ∃ r, xorE o.2 o.1 cc = r := ⟨_, rfl⟩
      obtain ⟨x, ex⟩ : ∃ x, andE r.2 (xs.getD k 0) (ys.getD k 0) = x := ⟨_, rfl⟩
      obtain ⟨y, ey⟩ : ∃ y, andE x.2 o.1 cc = y := ⟨_, rfl⟩
      obtain ⟨z, ez⟩ : ∃ z, orE y.2 x.1 y.1 = z := ⟨_, rfl⟩
      obtain ⟨hS, s1, s2, s3, s4, s5⟩ := hO.sum (HC.out.2.2.1 _ (get_mem kx)) (HC.out.2.2.2.1 _ (get_mem ky)) (fun p => ⟨(HC.out.2.2.2.2.1 p).1 _ (get_mem kx), (HC.out.2.2.2.2.1 p).2.1 _ (get_mem ky)⟩) eo er ex ey ez
      have hl := HC.out.2.2.2.2.2
      have cx : ∀ wr' G' (L' : List Nd) (es' : List Nat), Fil w wr' G G' L' w.heap.size n es' (List.replicate n 0) → wr'.cell? ⟨p1, o1 + k, none⟩ = some (.int .i64 (xs.getD k 0 : Int)) ∧ wr'.cell? ⟨p2, o2 + k, none⟩ = some (.int .i64 (ys.getD k 0 : Int)) := by
        intro wr' G' L' es' hf
        obtain ⟨_, _, e, _, _, q1⟩ := (HVX.out.1.fr hf.fr).resolve_left (by omega)
        cases e
        obtain ⟨_, _, e, _, _, q2⟩ := (HVX.out.2.fr hf.fr).resolve_left (by omega)
        cases e
        exact ⟨q1 k kx, q2 k ky⟩
      have HCX := Lib.hid cx
      have H1 := Xor_any r1.drew.rep s1.1 (xs.getD k 0) (ys.getD k 0) s1.2.1 s1.2.2.1 (by omega)
      rw [eo, r1.fr.h] at H1
      have HX1 := Lib.hid H1
      have R1 := Lib.hid r1
      have HK1 : Hid (∀ w2 G2, Fil w w2 G G2 o.2 w.heap.size n es (List.replicate n 0) → Calls Try.prog 27 #[.pointer (some ⟨G.h, 0, none⟩), .int .i64 (o.1 : Int), .int .i64 (cc : Int)] w2 (OpE w2 G2 r)) := by
        intro w2 G2 f2
        have := Xor_any f2.rep s2.1 o.1 cc s2.2.1 s2.2.2.1 (by omega)
        rwa [er, f2.fr.h] at this
      have HK2 : Hid (∀ w2 G2, Fil w w2 G G2 r.2 w.heap.size n (es ++ [r.1]) (List.replicate n 0) → Calls Try.prog 18 #[.pointer (some ⟨G.h, 0, none⟩), .int .i64 (xs.getD k 0 : Int), .int .i64 (ys.getD k 0 : Int)] w2 (OpE w2 G2 x)) := by
        intro w2 G2 f2
        have := And_any f2.rep (xs.getD k 0 : Int) (ys.getD k 0 : Int) (by omega) (by omega) (by omega)
        rwa [own_nat s3.1, own_nat s3.2.1, ex, f2.fr.h] at this
      have HK3 : Hid (∀ w2 G2, Fil w w2 G G2 x.2 w.heap.size n (es ++ [r.1]) (List.replicate n 0) → Calls Try.prog 18 #[.pointer (some ⟨G.h, 0, none⟩), .int .i64 (o.1 : Int), .int .i64 (cc : Int)] w2 (OpE w2 G2 y)) := by
        intro w2 G2 f2
        have := And_any f2.rep (o.1 : Int) (cc : Int) (by omega) (by omega) (by omega)
        rwa [own_nat s4.1, own_nat s4.2.1, ey, f2.fr.h] at this
      have HK4 : Hid (∀ w2 G2, Fil w w2 G G2 y.2 w.heap.size n (es ++ [r.1]) (List.replicate n 0) → Calls Try.prog 26 #[.pointer (some ⟨G.h, 0, none⟩), .int .i64 (x.1 : Int), .int .i64 (y.1 : Int)] w2 (OpE w2 G2 z)) := by
        intro w2 G2 f2
        have := Or_any f2.rep s5.1 (x.1 : Int) (y.1 : Int) (by omega) (by omega) (by omega)
        rwa [own_nat s5.2.1, own_nat s5.2.2.1, ez, f2.fr.h] at this
      have HS : Hid (Out P L (9 * (k + 1)) z.2 ((es ++ [r.1]) ++ [z.1]) (fun m => (sumF L xs ys cin (k + 1) m).1 ++ [(sumF L xs ys cin (k + 1) m).2])) := by
        refine (hS.more (by omega)).congr fun m => ?_
        rw [sumF_succ (by have := HC.out.1; have := HC.out.2.1; omega) kx]
      have HES := Lib.hid hes
      obtain ⟨cx1, cy1⟩ := cx _ _ _ _ r1.drew
      clear H1 s1 s2 s3 s4 s5 hl hS hO cx HH r1 eo er ex ey ez hes
      generalize xs.getD k 0 = xk at *
      generalize ys.getD k 0 = yk at *
      go_wp2_with fail
      go_region_held3 (fun w' => w'.cell? ⟨p1, o1 + k, none⟩ = some (.int .i64 (xk : Int)) ∧ w'.cell? ⟨p2, o2 + k, none⟩ = some (.int .i64 (yk : Int))) (first | exact ⟨cx1, cy1⟩ | exact d2 | go_keep) (first | (go_at_call 27; refine HX1.out.mono ?_; rintro e w2 ⟨rfl, G2, g1, g2⟩; have F2 := Lib.hid (R1.out.drew.op g1 g2); have d2 := HCX.out _ _ _ _ F2.out; clear g1 g2))
      go_wp2_with fail
      refine (HK1.out _ _ F2.out).mono ?_
      rintro e w3 ⟨rfl, G3, g1, g2⟩
      have f3 := F2.out.op g1 g2
      have fz3 := f3.free k
      have c3 := f3.next (i := k) (by rw [List.length_replicate]; exact hlt) (by rw [HES.out]; exact Nat.le_refl _)
      have F4 := Lib.hid (f3.put (k := k) HES.out (by rw [List.length_replicate]; exact hlt) r.1)
      obtain ⟨cx4, cy4⟩ := HCX.out _ _ _ _ F4.out.drew
      generalize ((List.replicate n 0).getD k 0 : Int) = yy at *
      clear f3 g1 g2 cx1 cy1 d2 F2 R1 HX1
      go_wp2_with fail
      obtain ⟨w4, hw4⟩ : ∃ w4, w4 = (w3.setCell ⟨w.heap.size, k, none⟩ (.int .i64 (r.1 : Int))) := ⟨_, rfl⟩
      rw [← hw4] at F4 cx4 cy4 ⊢
      clear hw4 fz3 c3
      refine wp_region_H (S := fun w' => w'.cell? ⟨p1, o1 + k, none⟩ = some (.int .i64 (xk : Int)) ∧ w'.cell? ⟨p2, o2 + k, none⟩ = some (.int .i64 (yk : Int))) 17 (by kernel_rfl) (HCX.out _ _ _ _ F4.out.drew) (fun hSx => ?_)
      refine wpAnyH_takeB (i := 0) (v := ?vya_0) rfl (by kernel_rfl) (fun _ _ _ h => h) rfl ?ya_0 hSx ?_
      case ya_0 => (intro w' hSw; (try dsimp only at hSw); go_split_ands; go_simp; try with_reducible rfl)
      try simp only [Act.put, List.getElem_toArray, List.getElem_cons_zero, List.setIfInBounds_toArray, List.set_cons_zero, List.set_cons_succ]
      refine wpAnyH_takeB (i := 1) (v := ?vya_1) rfl (by kernel_rfl) (fun _ _ _ h => h) rfl ?ya_1 hSx ?_
      case ya_1 => (intro w' hSw; (try dsimp only at hSw); go_split_ands; go_simp; try with_reducible rfl)
      try simp only [Act.put, List.getElem_toArray, List.getElem_cons_succ, List.getElem_cons_zero, List.setIfInBounds_toArray, List.set_cons_zero, List.set_cons_succ]
      refine wpAnyH_takeB (i := 2) (v := ?vya_2) rfl (by kernel_rfl) (fun _ _ _ h => h) rfl ?ya_2 hSx ?_
      case ya_2 => (intro w' hSw; (try dsimp only at hSw); go_split_ands; go_simp; try with_reducible rfl)
      try simp only [Act.put, List.getElem_toArray, List.getElem_cons_succ, List.getElem_cons_zero, List.setIfInBounds_toArray, List.set_cons_zero, List.set_cons_succ]
      refine wpAnyH_takeB (i := 3) (v := ?vya_3) rfl (by kernel_rfl) (fun _ _ _ h => h) rfl ?ya_3 hSx ?_
      case ya_3 => (intro w' hSw; (try dsimp only at hSw); go_split_ands; go_simp; try with_reducible rfl)
      try simp only [Act.put, List.getElem_toArray, List.getElem_cons_succ, List.getElem_cons_zero, List.setIfInBounds_toArray, List.set_cons_zero, List.set_cons_succ]
      refine wpAnyH_takeB (i := 4) (v := ?vya_4) rfl (by kernel_rfl) (fun _ _ _ h => h) rfl ?ya_4 hSx ?_
      case ya_4 => (intro w' hSw; (try dsimp only at hSw); go_split_ands; go_simp; try with_reducible rfl)
      try simp only [Act.put, List.getElem_toArray, List.getElem_cons_succ, List.getElem_cons_zero, List.setIfInBounds_toArray, List.set_cons_zero, List.set_cons_succ]
      refine wpAnyH_takeB (i := 5) (v := ?vya_5) rfl (by kernel_rfl) (fun _ _ _ h => h) rfl ?ya_5 hSx ?_
      case ya_5 => (intro w' hSw; (try dsimp only at hSw); go_split_ands; go_simp; try with_reducible rfl)
      try simp only [Act.put, List.getElem_toArray, List.getElem_cons_succ, List.getElem_cons_zero, List.setIfInBounds_toArray, List.set_cons_zero, List.set_cons_succ]
      refine wpAnyH_takeB (i := 6) (v := ?vya_6) rfl (by kernel_rfl) (fun _ _ _ h => h) rfl ?ya_6 hSx ?_
      case ya_6 => (intro w' hSw; (try dsimp only at hSw); go_split_ands; go_simp; try with_reducible rfl)
      try simp only [Act.put, List.getElem_toArray, List.getElem_cons_succ, List.getElem_cons_zero, List.setIfInBounds_toArray, List.set_cons_zero, List.set_cons_succ]
      refine wpAnyH_takeB (i := 7) (v := ?vya_7) rfl (by kernel_rfl) (fun _ _ _ h => h) rfl ?ya_7 hSx ?_
      case ya_7 => (intro w' hSw; (try dsimp only at hSw); go_split_ands; go_simp; try with_reducible rfl)
      try simp only [Act.put, List.getElem_toArray, List.getElem_cons_succ, List.getElem_cons_zero, List.setIfInBounds_toArray, List.set_cons_zero, List.set_cons_succ]
      refine wpAnyH_takeB (i := 8) (v := ?vya_8) rfl (by kernel_rfl) (fun _ _ _ h => h) rfl ?ya_8 hSx ?_
      case ya_8 => (intro w' hSw; (try dsimp only at hSw); go_split_ands; go_simp; try with_reducible rfl)
      try simp only [Act.put, List.getElem_toArray, List.getElem_cons_succ, List.getElem_cons_zero, List.setIfInBounds_toArray, List.set_cons_zero, List.set_cons_succ]
      refine wpAnyH_takeB (i := 9) (v := ?vya_9) rfl (by kernel_rfl) (fun _ _ _ h => h) rfl ?ya_9 hSx ?_
      case ya_9 => (intro w' hSw; (try dsimp only at hSw); go_split_ands; go_simp; try with_reducible rfl)
      try simp only [Act.put, List.getElem_toArray, List.getElem_cons_succ, List.getElem_cons_zero, List.setIfInBounds_toArray, List.set_cons_zero, List.set_cons_succ]
      refine wpAnyH_takeB (i := 11) (v := ?vya_11) rfl (by kernel_rfl) (fun _ _ _ h => h) rfl ?ya_11 hSx ?_
      case ya_11 => (intro w' hSw; (try dsimp only at hSw); go_split_ands; go_simp; try with_reducible rfl)
      try simp only [Act.put, List.getElem_toArray, List.getElem_cons_succ, List.getElem_cons_zero, List.setIfInBounds_toArray, List.set_cons_zero, List.set_cons_succ]
      refine wpAnyH_takeB (i := 12) (v := ?vya_12) rfl (by kernel_rfl) (fun _ _ _ h => h) rfl ?ya_12 hSx ?_
      case ya_12 => (intro w' hSw; (try dsimp only at hSw); go_split_ands; go_simp; try with_reducible rfl)
      try simp only [Act.put, List.getElem_toArray, List.getElem_cons_succ, List.getElem_cons_zero, List.setIfInBounds_toArray, List.set_cons_zero, List.set_cons_succ]
      refine wpAnyH_takeB (i := 13) (v := ?vya_13) rfl (by kernel_rfl) (fun _ _ _ h => h) rfl ?ya_13 hSx ?_
      case ya_13 => (intro w' hSw; (try dsimp only at hSw); go_split_ands; go_simp; try with_reducible rfl)
      try simp only [Act.put, List.getElem_toArray, List.getElem_cons_succ, List.getElem_cons_zero, List.setIfInBounds_toArray, List.set_cons_zero, List.set_cons_succ]
      refine' wpAnyH_one (i := 10) ?taya10 ?tbya10 ?tcya10 ?tdya10
      case tbya10 => rfl
      case taya10 => kernel_rfl
      case tcya10 => rfl
      intro K hK
      go_simp
      refine (HK2.out _ _ F4.out.drew).mono ?_
      rintro e w5 ⟨rfl, G5, g1, g2⟩
      have F5 := Lib.hid (F4.out.drew.op g1 g2)
      clear g1 g2
      try dsimp only
      refine hK.out _ _ (HCX.out _ _ _ _ F5.out) (fun hSx => ?_)
      clear hK K
      try simp only [Act.put, List.getElem_toArray, List.getElem_cons_succ, List.getElem_cons_zero, List.setIfInBounds_toArray, List.set_cons_zero, List.set_cons_succ]
      refine' wpAnyH_one (i := 14) ?taya14 ?tbya14 ?tcya14 ?tdya14
      case tbya14 => rfl
      case taya14 => kernel_rfl
      case tcya14 => rfl
      intro K hK
      go_simp
      refine (HK3.out _ _ F5.out).mono ?_
      rintro e w6 ⟨rfl, G6, g1, g2⟩
      have F6 := Lib.hid (F5.out.op g1 g2)
      clear g1 g2
      try dsimp only
      refine hK.out _ _ (HCX.out _ _ _ _ F6.out) (fun hSx => ?_)
      clear hK K
      try simp only [Act.put, List.getElem_toArray, List.getElem_cons_succ, List.getElem_cons_zero, List.setIfInBounds_toArray, List.set_cons_zero, List.set_cons_succ]
      refine' wpAnyH_one (i := 15) ?taya15 ?tbya15 ?tcya15 ?tdya15
      case tbya15 => rfl
      case taya15 => kernel_rfl
      case tcya15 => rfl
      intro K hK
      go_simp
      refine (HK4.out _ _ F6.out).mono ?_
      rintro e w7 ⟨rfl, G7, g1, g2⟩
      have F7 := Lib.hid (F6.out.op g1 g2)
      clear g1 g2
      try dsimp only
      refine hK.out _ _ (HCX.out _ _ _ _ F7.out) (fun hSx => ?_)
      clear hK K
      try simp only [Act.put, List.getElem_toArray, List.getElem_cons_succ, List.getElem_cons_zero, List.setIfInBounds_toArray, List.set_cons_zero, List.set_cons_succ]
      refine wpAnyH_takeB (i := 16) (v := ?vya_16) rfl (by kernel_rfl) (fun _ _ _ h => h) rfl ?ya_16 hSx ?_
      case ya_16 => (intro w' hSw; (try dsimp only at hSw); go_split_ands; go_simp; try with_reducible rfl)
      try simp only [Act.put, List.getElem_toArray, List.getElem_cons_succ, List.getElem_cons_zero, List.setIfInBounds_toArray, List.set_cons_zero, List.set_cons_succ]
      refine wpAnyH_done (by kernel_rfl) ?_ _
      go_wp2_with fail
      have HFIN : Hid (SumI w w7 G P L w.heap.size n (k + 1) z.1 (fun m => (sumF L xs ys cin (k + 1) m).1) (fun m => (sumF L xs ys cin (k + 1) m).2)) := ⟨G7, z.2, es ++ [r.1], by rw [List.length_append, HES.out]; rfl, F7.out, HS.out⟩
      go_roundw
      case rel => exact ⟨k + 1, z.1, rfl, by go_num, by omega, HFIN⟩
      case measure => simp [RowKit.intOf]; omega
    · obtain rfl : k = n := by omega
      have hlz : ¬ (k : Int) < (k : Int) := by omega
      obtain ⟨G1, L1, es, hes, r1, hO⟩ := HH.out
      have HF : Hid (SumE w G P L (9 * k) k (fun m => (sumF L xs ys cin k m).1) (fun m => (sumF L xs ys cin k m).2) (.returned (.tuple #[.slice (some ⟨w.heap.size, 0, none⟩) k k, .int .i64 (cc : Int)])) wr) := ⟨w.heap.size, G1, L1, es, cc, rfl, hes, r1, hO⟩
      clear r1 hO HH hes
      go_wp2_with fail
      go_ret2
      exact HF.out
end Go.Proofs.Ytnkcdgpaphphaaa.Gr
