/- Contracts of Div, Rem. -/
import Derived.Test.YtnkcdgpaphphaaaBtJ
namespace Go.Proofs.Ytnkcdgpaphphaaa.Gr
open Go Go.RowKit Go.Lib Go.Maps

theorem Out.none {P : Prop} {L L1 : List Nd} {c : Nat} {es : List Nat} {f : (Nat → Bool) → List Bool} (h : Out P L c L1 es f) : Out P L c L1 [] (fun _ => []) := h.part (by simp) (fun _ => rfl)
/-- Where a call of several calls stands. -/
structure St (w : World) (G : Loc) (P : Prop) (L : List Nd) (j : Nat) (wr : World) (G' : Loc) (L' : List Nd) : Prop where
  rep : Rep wr G' L'
  fr : Fr G w wr G'
  out : Out P L j L' [] (fun _ => [])
theorem St.next {w : World} {G : Loc} {P : Prop} {L : List Nd} {j : Nat} {wr : World} {G' : Loc} {L' : List Nd} (h : St w G P L j wr G' L') {w2 : World} {G2 : Loc} {L2 : List Nd} {k : Nat} {es : List Nat} {f : (Nat → Bool) → List Bool} (hr : Rep w2 G2 L2) (hf : Fr G' wr w2 G2) (ho : Out P L' k L2 es f) : St w G P L (j + k) w2 G2 L2 := ⟨hr, h.fr.trans hf, (h.out.then ho id).none⟩
theorem St.lens {w : World} {G : Loc} {P : Prop} {L : List Nd} {j : Nat} {wr : World} {G' : Loc} {L' : List Nd} (h : St w G P L j wr G' L') : L.length ≤ L'.length ∧ L'.length ≤ L.length + j := ⟨h.out.le, h.out.lenle⟩

set_option maxRecDepth 100000 in
set_option maxHeartbeats 1000000 in
theorem Div_any {P : Prop} {w : World} {G : Loc} {L : List Nd} (a : Option Addr) (xs : List Nat) (c : Nat) (a2 : Option Addr) (ys : List Nat) (c2 : Nat) (t : Two w G P L a xs a2 ys) (hl : L.length < 80000) :
    Calls Try.prog 48 #[.pointer (some ⟨G.h, 0, none⟩), .slice a xs.length c, .slice a2 ys.length c2] w (RowE w G P L 4200 (wid xs ys) (fun m => quotL ((wdE xs ys xs).map (Gr.val m L)) ((wdE xs ys ys).map (Gr.val m L)))) := by
  have H1 := Lib.hid (t.pair c c2 (by omega))
  have hm1 := wid_pos xs ys
  have hm2 := wid_le xs ys
  have HA := Lib.hid (wdE_all (xs := xs) (ys := ys) t.ex (by omega))
  have HB := Lib.hid (wdE_all (xs := xs) (ys := ys) t.ey (by omega))
  have HP : Hid (P → (∀ e ∈ wdE xs ys xs, e ≤ 1) ∧ (∀ e ∈ wdE xs ys ys, e ≤ 1)) := fun p => ⟨wdE_all (p := fun e => e ≤ 1) (t.con p).1 (by omega), wdE_all (p := fun e => e ≤ 1) (t.con p).2 (by omega)⟩
  have HW := Lib.hid (And.intro t.wf hl)
  have HLA := Lib.hid (wdE_len xs ys xs)
  have HLB := Lib.hid (wdE_len xs ys ys)
  clear t hl
  generalize wdE xs ys xs = A at *
  generalize wdE xs ys ys = B at *
  generalize wid xs ys = n at *
  generalize xs.length = l1 at *
  generalize ys.length = l2 at *
  have HNN := Lib.hid (And.intro hm1 hm2)
  clear hm1 hm2
  go_enter Try.func48, Try.ntmps48
  go_wp2_with fail
  refine H1.out.mono ?_
  rintro e w1 ⟨b1, b2, G1, rfl, hne, f1, f2⟩
  have HVX := Lib.hid (And.intro (f1.vec (by rw [HLA.out, List.length_replicate])) (f2.vec (by rw [HLB.out, List.length_replicate])))
  have S1 : Hid (St w G P L 0 w1 G1 L) := ⟨f1.rep, f1.fr, Out.nil HW.out.1⟩
  have hM := magnitude_any (P := P) f1.rep HW.out.1 (some ⟨b1, 0, none⟩) A n n HVX.out.1 HLA.out HNN.out.1 HNN.out.2 HA.out (fun p => (HP.out p).1) (by have := HW.out.2; omega)
  rw [f1.fr.h] at hM
  have HM := Lib.hid hM
  clear f1 f2 H1 hne hM
  go_wp2_with fail
  refine HM.out.mono ?_
  rintro e w2 ⟨b3, G2, L2, es3, rfl, hes3, g3, O3⟩
  have S2 : Hid (St w G P L (0 + 12 * n) w2 G2 L2) := S1.out.next g3.rep g3.fr O3
  have V3 := g3.vec (by rw [hes3, List.length_replicate])
  have VA := HVX.out.1.fr g3.fr
  have VB := HVX.out.2.fr g3.fr
  have hll := S2.out.lens
  have hl := HW.out.2
  have hnn := HNN.out.2
  have hM := magnitude_any (P := P) g3.rep O3.wf (some ⟨b2, 0, none⟩) B n n VB HLB.out HNN.out.1 HNN.out.2 (O3.lts HB.out) (fun p => (HP.out p).2) (by omega)
  rw [S2.out.fr.h] at hM
  have HM2 := Lib.hid hM
  have H2 := Lib.hid (And.intro VA (And.intro VB (And.intro V3 (And.intro O3 hes3))))
  clear hM HM g3 VA VB V3 O3 hes3 hll hl hnn
  go_wp2_with fail
  refine HM2.out.mono ?_
  rintro e w3 ⟨b4, G3, L3, es4, rfl, hes4, g4, O4⟩
  have S3 : Hid (St w G P L (0 + 12 * n + 12 * n) w3 G3 L3) := S2.out.next g4.rep g4.fr O4
  have hll := S3.out.lens
  have hl := HW.out.2
  have hnn := HNN.out.2
  have hD := divide_any (P := P) g4.rep O4.wf (some ⟨b3, 0, none⟩) es3 n (some ⟨b4, 0, none⟩) es4 n n (H2.out.2.2.1.fr g4.fr) (g4.vec (by rw [hes4, List.length_replicate])) H2.out.2.2.2.2 hes4 HNN.out.1 HNN.out.2 (O4.lts H2.out.2.2.2.1.own) O4.own (fun p => ⟨(H2.out.2.2.2.1.con p).2, (O4.con p).2⟩) (Nat.le_refl _) (by omega)
  rw [S3.out.fr.h] at hD
  have HD := Lib.hid hD
  have H3 := Lib.hid (And.intro (H2.out.1.fr g4.fr) (And.intro (H2.out.2.1.fr g4.fr) (And.intro O4 hes4)))
  clear hD g4 O4 hes4 hll hl hnn HM2
  go_wp2_with fail
  refine HD.out.mono ?_
  rintro e w4 ⟨qb, rb, rc, G4, L4, qs, rs, rfl, hqs, hrs, g1, g2, g3, g4, O5⟩
  have S4 : Hid (St w G P L (0 + 12 * n + 12 * n + 3520) w4 G4 L4) := S3.out.next g1 g2 O5
  have VA := H3.out.1.fr g2
  have VB := H3.out.2.1.fr g2
  have hll := S4.out.lens
  have hl := HW.out.2
  have hnn := HNN.out.2
  have hS := Some_any (P := P) g1 O5.wf (some ⟨b2, 0, none⟩) B n VB (by rw [HLB.out]; omega) (S4.out.out.lts HB.out) (fun p => (HP.out p).2) (by omega)
  rw [S4.out.fr.h, HLB.out] at hS
  have HS := Lib.hid hS
  have H4 := Lib.hid (And.intro VA (And.intro VB (And.intro g3 (And.intro g4 (And.intro O5 (And.intro hqs hrs))))))
  clear hS g1 g2 g3 g4 O5 VA VB hll hl hnn HD hqs hrs
  go_wp2_with fail
  refine HS.out.mono ?_
  rintro e w5 ⟨G5, L5, c5, rfl, g1, g2, O6⟩
  have S5 : Hid (St w G P L (0 + 12 * n + 12 * n + 3520 + 16) w5 G5 L5) := S4.out.next g1 g2 O6
  have hpa : 0 < A.length := by rw [HLA.out]; exact HNN.out.1
  have hpb : 0 < B.length := by rw [HLB.out]; exact HNN.out.1
  have VA := H4.out.1.fr g2
  have VB := H4.out.2.1.fr g2
  have hsa := sign_any (some ⟨b1, 0, none⟩) A n VA hpa (by rw [HLA.out]; have := HNN.out.2; omega)
  rw [HLA.out] at hsa
  have HSA := Lib.hid hsa
  have hsb := sign_any (some ⟨b2, 0, none⟩) B n VB hpb (by rw [HLB.out]; have := HNN.out.2; omega)
  rw [HLB.out] at hsb
  have HSB := Lib.hid hsb
  have HLAST : Hid (A.getLastD 0 < 2 * (L5.length + 1) ∧ B.getLastD 0 < 2 * (L5.length + 1) ∧ (P → A.getLastD 0 ≤ 1 ∧ B.getLastD 0 ≤ 1) ∧ ∀ m, Gr.val m L5 (A.getLastD 0) = sgn (A.map (Gr.val m L)) ∧ Gr.val m L5 (B.getLastD 0) = sgn (B.map (Gr.val m L))) :=
    ⟨S5.out.out.lt (HA.out _ (last_mem hpa)), S5.out.out.lt (HB.out _ (last_mem hpb)), fun p => ⟨(HP.out p).1 _ (last_mem hpa), (HP.out p).2 _ (last_mem hpb)⟩, fun m => ⟨by rw [last_val hpa, S5.out.out.old (HA.out _ (last_mem hpa))], by rw [last_val hpb, S5.out.out.old (HB.out _ (last_mem hpb))]⟩⟩
  have H5 := Lib.hid (And.intro g1 (And.intro (H4.out.2.2.1.fr g2) (And.intro (H4.out.2.2.2.1.fr g2) O6)))
  clear hsa hsb VA VB hpa hpb g1 g2 O6 HS
  generalize A.getLastD 0 = sa at *
  generalize B.getLastD 0 = sb at *
  go_wp2_with fail
  refine HSA.out.mono ?_
  rintro e w' ⟨rfl, rfl⟩
  go_wp2_with fail
  refine HSB.out.mono ?_
  rintro e w' ⟨rfl, rfl⟩
  have hll := S5.out.lens
  have hl := HW.out.2
  have hnn := HNN.out.2
  have hX := Xor_any H5.out.1 H5.out.2.2.2.wf sa sb HLAST.out.1 HLAST.out.2.1 (by omega)
  have hac := xor_ac (P := P) H5.out.2.2.2.wf HLAST.out.1 HLAST.out.2.1 HLAST.out.2.2.1
  rw [S5.out.fr.h] at hX
  have HX := Lib.hid hX
  have HAC := Lib.hid hac
  clear hX hac hll hl hnn HSA HSB
  generalize xorE L5 sa sb = y at *
  go_wp2_with fail
  refine HX.out.mono ?_
  rintro e w6 ⟨rfl, G6, g1, g2⟩
  have S6 : Hid (St w G P L (0 + 12 * n + 12 * n + 3520 + 16 + 3) w6 G6 y.2) := S5.out.next g1 g2 HAC.out.out
  have hll := S6.out.lens
  have hl := HW.out.2
  have hnn := HNN.out.2
  have oq := H4.out.2.2.2.2.1
  have hT := turn_any (P := P) g1 HAC.out.ans.wf y.1 (some ⟨qb, 0, none⟩) qs n n (H5.out.2.1.fr g2) H4.out.2.2.2.2.2.1 HNN.out.1 HNN.out.2 HAC.out.ans.own (fun e he => HAC.out.out.lt (H5.out.2.2.2.lt (oq.own e (List.mem_append_left _ he)))) (fun p => ⟨(HAC.out.con p).2, fun e he => (oq.con p).2 e (List.mem_append_left _ he)⟩) (by omega)
  rw [S6.out.fr.h] at hT
  have HT := Lib.hid hT
  clear hT g1 g2 hll hl hnn oq HX
  go_wp2_with fail
  refine HT.out.mono ?_
  rintro e w7 ⟨b7, G7, L7, es7, rfl, hes7, g7, O7⟩
  have S7 : Hid (St w G P L (0 + 12 * n + 12 * n + 3520 + 16 + 3 + 12 * n) w7 G7 L7) := S6.out.next g7.rep g7.fr O7
  have hll := S7.out.lens
  have hl := HW.out.2
  have hnn := HNN.out.2
  have hK := mask_any (P := P) g7.rep O7.wf c5 (some ⟨b7, 0, none⟩) es7 n n (g7.vec (by rw [hes7, List.length_replicate])) hes7 HNN.out.1 HNN.out.2 (O7.lt (HAC.out.out.lt (H5.out.2.2.2.own c5 (by simp)))) O7.own (fun p => ⟨(H5.out.2.2.2.con p).2 c5 (by simp), (O7.con p).2⟩) (by omega)
  rw [S7.out.fr.h] at hK
  have HK := Lib.hid hK
  have H7 := Lib.hid O7
  clear hK g7 O7 hes7 hll hl hnn HT
  go_wp2_with fail
  refine HK.out.mono ?_
  rintro e w8 ⟨b8, G8, L8, es8, rfl, hes8, g8, O8⟩
  have hRES : RowE w G P L 4200 n (fun m => quotL (A.map (Gr.val m L)) (B.map (Gr.val m L))) (.returned (.slice (some ⟨b8, 0, none⟩) n n)) w8 := by
    refine ⟨b8, G8, L8, es8, rfl, hes8, g8.pre S7.out.fr, ((S7.out.out.then O8 id).more (by have := HNN.out.2; omega)).congr fun m => ?_⟩
    have hpa : 0 < A.length := by rw [HLA.out]; exact HNN.out.1
    have h3 := H2.out.2.2.2.1.val m
    have h4 := H3.out.2.2.1.val m
    have h5 := H4.out.2.2.2.2.1
    have h6 := H5.out.2.2.2
    have h7 := H7.out.val m
    have e3 : es3.map (Gr.val m L3) = magL (A.map (Gr.val m L)) := by rw [H3.out.2.2.1.olds H2.out.2.2.2.1.own, h3]
    have e4 : es4.map (Gr.val m L3) = magL (B.map (Gr.val m L)) := by rw [h4, S2.out.out.olds HB.out]
    have hdl := divL_len (es4.map (Gr.val m L3)) (es3.map (Gr.val m L3)) (by rw [List.length_map, List.length_map, H2.out.2.2.2.2, H3.out.2.2.2]; exact Nat.le_refl _)
    have h5v := h5.val m
    have h5f : divF L3 es3 es4 0 m = (divL (es4.map (Gr.val m L3)) (es3.map (Gr.val m L3))).1 ++ (divL (es4.map (Gr.val m L3)) (es3.map (Gr.val m L3))).2 := rfl
    rw [h5f, List.map_append] at h5v
    obtain ⟨q1, q2⟩ := List.append_inj h5v (by rw [hdl.1, List.length_map, List.length_map, H4.out.2.2.2.2.2.1, H2.out.2.2.2.2])
    rw [e3, e4] at q1 q2
    have e5 : Gr.val m L7 c5 = (B.map (Gr.val m L)).any id := by
      rw [H7.out.old (HAC.out.out.lt (h6.own c5 (by simp))), HAC.out.out.old (h6.own c5 (by simp))]
      have := h6.val m
      rw [vecE_of (by rw [HLB.out]; exact HNN.out.1) (by rw [HLB.out]; exact HNN.out.2), S4.out.out.olds HB.out] at this
      simpa using this
    have e6 : Gr.val m y.2 y.1 = (sgn (A.map (Gr.val m L)) != sgn (B.map (Gr.val m L))) := by
      rw [HAC.out.ans.val m, (HLAST.out.2.2.2 m).1, (HLAST.out.2.2.2 m).2]
    have e7 : qs.map (Gr.val m y.2) = (divL (magL (B.map (Gr.val m L))) (magL (A.map (Gr.val m L)))).1 := by
      rw [HAC.out.out.olds (fun e he => h6.lt (h5.own e (List.mem_append_left _ he))), h6.olds (fun e he => h5.own e (List.mem_append_left _ he)), q1]
    rw [e6, e7] at h7
    rw [e5, h7]
    rfl
  have HRES := Lib.hid hRES
  clear hRES g8 O8 hes8 HK
  go_wp2_with fail
  go_ret
  exact HRES.out

set_option maxRecDepth 100000 in
set_option maxHeartbeats 1000000 in
theorem Rem_any {P : Prop} {w : World} {G : Loc} {L : List Nd} (a : Option Addr) (xs : List Nat) (c : Nat) (a2 : Option Addr) (ys : List Nat) (c2 : Nat) (t : Two w G P L a xs a2 ys) (hl : L.length < 80000) :
    Calls Try.prog 49 #[.pointer (some ⟨G.h, 0, none⟩), .slice a xs.length c, .slice a2 ys.length c2] w (RowE w G P L 4200 (wid xs ys) (fun m => remL ((wdE xs ys xs).map (Gr.val m L)) ((wdE xs ys ys).map (Gr.val m L)))) := by
  have H1 := Lib.hid (t.pair c c2 (by omega))
  have hm1 := wid_pos xs ys
  have hm2 := wid_le xs ys
  have HA := Lib.hid (wdE_all (xs := xs) (ys := ys) t.ex (by omega))
  have HB := Lib.hid (wdE_all (xs := xs) (ys := ys) t.ey (by omega))
  have HP : Hid (P → (∀ e ∈ wdE xs ys xs, e ≤ 1) ∧ (∀ e ∈ wdE xs ys ys, e ≤ 1)) := fun p => ⟨wdE_all (p := fun e => e ≤ 1) (t.con p).1 (by omega), wdE_all (p := fun e => e ≤ 1) (t.con p).2 (by omega)⟩
  have HW := Lib.hid (And.intro t.wf hl)
  have HLA := Lib.hid (wdE_len xs ys xs)
  have HLB := Lib.hid (wdE_len xs ys ys)
  clear t hl
  generalize wdE xs ys xs = A at *
  generalize wdE xs ys ys = B at *
  generalize wid xs ys = n at *
  generalize xs.length = l1 at *
  generalize ys.length = l2 at *
  have HNN := Lib.hid (And.intro hm1 hm2)
  clear hm1 hm2
  go_enter Try.func49, Try.ntmps49
  go_wp2_with fail
  refine H1.out.mono ?_
  rintro e w1 ⟨b1, b2, G1, rfl, hne, f1, f2⟩
  have HVX := Lib.hid (And.intro (f1.vec (by rw [HLA.out, List.length_replicate])) (f2.vec (by rw [HLB.out, List.length_replicate])))
  have S1 : Hid (St w G P L 0 w1 G1 L) := ⟨f1.rep, f1.fr, Out.nil HW.out.1⟩
  have hM := magnitude_any (P := P) f1.rep HW.out.1 (some ⟨b1, 0, none⟩) A n n HVX.out.1 HLA.out HNN.out.1 HNN.out.2 HA.out (fun p => (HP.out p).1) (by have := HW.out.2; omega)
  rw [f1.fr.h] at hM
  have HM := Lib.hid hM
  clear f1 f2 H1 hne hM
  go_wp2_with fail
  refine HM.out.mono ?_
  rintro e w2 ⟨b3, G2, L2, es3, rfl, hes3, g3, O3⟩
  have S2 : Hid (St w G P L (0 + 12 * n) w2 G2 L2) := S1.out.next g3.rep g3.fr O3
  have V3 := g3.vec (by rw [hes3, List.length_replicate])
  have VA := HVX.out.1.fr g3.fr
  have VB := HVX.out.2.fr g3.fr
  have hll := S2.out.lens
  have hl := HW.out.2
  have hnn := HNN.out.2
  have hM := magnitude_any (P := P) g3.rep O3.wf (some ⟨b2, 0, none⟩) B n n VB HLB.out HNN.out.1 HNN.out.2 (O3.lts HB.out) (fun p => (HP.out p).2) (by omega)
  rw [S2.out.fr.h] at hM
  have HM2 := Lib.hid hM
  have H2 := Lib.hid (And.intro VA (And.intro VB (And.intro V3 (And.intro O3 hes3))))
  clear hM HM g3 VA VB V3 O3 hes3 hll hl hnn
  go_wp2_with fail
  refine HM2.out.mono ?_
  rintro e w3 ⟨b4, G3, L3, es4, rfl, hes4, g4, O4⟩
  have S3 : Hid (St w G P L (0 + 12 * n + 12 * n) w3 G3 L3) := S2.out.next g4.rep g4.fr O4
  have hll := S3.out.lens
  have hl := HW.out.2
  have hnn := HNN.out.2
  have hD := divide_any (P := P) g4.rep O4.wf (some ⟨b3, 0, none⟩) es3 n (some ⟨b4, 0, none⟩) es4 n n (H2.out.2.2.1.fr g4.fr) (g4.vec (by rw [hes4, List.length_replicate])) H2.out.2.2.2.2 hes4 HNN.out.1 HNN.out.2 (O4.lts H2.out.2.2.2.1.own) O4.own (fun p => ⟨(H2.out.2.2.2.1.con p).2, (O4.con p).2⟩) (Nat.le_refl _) (by omega)
  rw [S3.out.fr.h] at hD
  have HD := Lib.hid hD
  have H3 := Lib.hid (And.intro (H2.out.1.fr g4.fr) (And.intro (H2.out.2.1.fr g4.fr) (And.intro O4 hes4)))
  clear hD g4 O4 hes4 hll hl hnn HM2
  go_wp2_with fail
  refine HD.out.mono ?_
  rintro e w4 ⟨qb, rb, rc, G4, L4, qs, rs, rfl, hqs, hrs, g1, g2, g3, g4, O5⟩
  have S4 : Hid (St w G P L (0 + 12 * n + 12 * n + 3520) w4 G4 L4) := S3.out.next g1 g2 O5
  have VA := H3.out.1.fr g2
  have VB := H3.out.2.1.fr g2
  have hll := S4.out.lens
  have hl := HW.out.2
  have hnn := HNN.out.2
  have hS := Some_any (P := P) g1 O5.wf (some ⟨b2, 0, none⟩) B n VB (by rw [HLB.out]; omega) (S4.out.out.lts HB.out) (fun p => (HP.out p).2) (by omega)
  rw [S4.out.fr.h, HLB.out] at hS
  have HS := Lib.hid hS
  have H4 := Lib.hid (And.intro VA (And.intro VB (And.intro g3 (And.intro g4 (And.intro O5 (And.intro hqs hrs))))))
  clear hS g1 g2 g3 g4 O5 VA VB hll hl hnn HD hqs hrs
  go_wp2_with fail
  refine HS.out.mono ?_
  rintro e w5 ⟨G5, L5, c5, rfl, g1, g2, O6⟩
  have S5 : Hid (St w G P L (0 + 12 * n + 12 * n + 3520 + 16) w5 G5 L5) := S4.out.next g1 g2 O6
  have hpa : 0 < A.length := by rw [HLA.out]; exact HNN.out.1
  have hpb : 0 < B.length := by rw [HLB.out]; exact HNN.out.1
  have VA := H4.out.1.fr g2
  have VB := H4.out.2.1.fr g2
  have hsa := sign_any (some ⟨b1, 0, none⟩) A n VA hpa (by rw [HLA.out]; have := HNN.out.2; omega)
  rw [HLA.out] at hsa
  have HSA := Lib.hid hsa
  have hsb := sign_any (some ⟨b2, 0, none⟩) B n VB hpb (by rw [HLB.out]; have := HNN.out.2; omega)
  rw [HLB.out] at hsb
  have HSB := Lib.hid hsb
  have HLAST : Hid (A.getLastD 0 < 2 * (L5.length + 1) ∧ B.getLastD 0 < 2 * (L5.length + 1) ∧ (P → A.getLastD 0 ≤ 1 ∧ B.getLastD 0 ≤ 1) ∧ ∀ m, Gr.val m L5 (A.getLastD 0) = sgn (A.map (Gr.val m L)) ∧ Gr.val m L5 (B.getLastD 0) = sgn (B.map (Gr.val m L))) :=
    ⟨S5.out.out.lt (HA.out _ (last_mem hpa)), S5.out.out.lt (HB.out _ (last_mem hpb)), fun p => ⟨(HP.out p).1 _ (last_mem hpa), (HP.out p).2 _ (last_mem hpb)⟩, fun m => ⟨by rw [last_val hpa, S5.out.out.old (HA.out _ (last_mem hpa))], by rw [last_val hpb, S5.out.out.old (HB.out _ (last_mem hpb))]⟩⟩
  have H5 := Lib.hid (And.intro g1 (And.intro (H4.out.2.2.1.fr g2) (And.intro (H4.out.2.2.2.1.fr g2) O6)))
  clear hsa hsb VA VB hpa hpb g1 g2 O6 HS
  generalize A.getLastD 0 = sa at *
  generalize B.getLastD 0 = sb at *
  go_wp2_with fail
  refine HSA.out.mono ?_
  rintro e w' ⟨rfl, rfl⟩
  go_wp2_with fail
  have hll := S5.out.lens
  have hl := HW.out.2
  have hnn := HNN.out.2
  have oq := H4.out.2.2.2.2.1
  have hT := turn_any (P := P) H5.out.1 H5.out.2.2.2.wf sa (some ⟨rb, 0, none⟩) rs rc n H5.out.2.2.1 H4.out.2.2.2.2.2.2 HNN.out.1 HNN.out.2 HLAST.out.1 (fun e he => H5.out.2.2.2.lt (oq.own e (List.mem_append_right _ he))) (fun p => ⟨(HLAST.out.2.2.1 p).1, fun e he => (oq.con p).2 e (List.mem_append_right _ he)⟩) (by omega)
  rw [S5.out.fr.h] at hT
  have HT := Lib.hid hT
  clear hT hll hl hnn oq HSA HSB
  refine HT.out.mono ?_
  rintro e w7 ⟨b7, G7, L7, es7, rfl, hes7, g7, O7⟩
  have S7 : Hid (St w G P L (0 + 12 * n + 12 * n + 3520 + 16 + 12 * n) w7 G7 L7) := S5.out.next g7.rep g7.fr O7
  have hll := S7.out.lens
  have hl := HW.out.2
  have hnn := HNN.out.2
  have hK := mask_any (P := P) g7.rep O7.wf c5 (some ⟨b7, 0, none⟩) es7 n n (g7.vec (by rw [hes7, List.length_replicate])) hes7 HNN.out.1 HNN.out.2 (O7.lt (H5.out.2.2.2.own c5 (by simp))) O7.own (fun p => ⟨(H5.out.2.2.2.con p).2 c5 (by simp), (O7.con p).2⟩) (by omega)
  rw [S7.out.fr.h] at hK
  have HK := Lib.hid hK
  have H7 := Lib.hid O7
  clear hK g7 O7 hes7 hll hl hnn HT
  go_wp2_with fail
  refine HK.out.mono ?_
  rintro e w8 ⟨b8, G8, L8, es8, rfl, hes8, g8, O8⟩
  have hRES : RowE w G P L 4200 n (fun m => remL (A.map (Gr.val m L)) (B.map (Gr.val m L))) (.returned (.slice (some ⟨b8, 0, none⟩) n n)) w8 := by
    refine ⟨b8, G8, L8, es8, rfl, hes8, g8.pre S7.out.fr, ((S7.out.out.then O8 id).more (by have := HNN.out.2; omega)).congr fun m => ?_⟩
    have hpa : 0 < A.length := by rw [HLA.out]; exact HNN.out.1
    have h3 := H2.out.2.2.2.1.val m
    have h4 := H3.out.2.2.1.val m
    have h5 := H4.out.2.2.2.2.1
    have h6 := H5.out.2.2.2
    have h7 := H7.out.val m
    have e3 : es3.map (Gr.val m L3) = magL (A.map (Gr.val m L)) := by rw [H3.out.2.2.1.olds H2.out.2.2.2.1.own, h3]
    have e4 : es4.map (Gr.val m L3) = magL (B.map (Gr.val m L)) := by rw [h4, S2.out.out.olds HB.out]
    have hdl := divL_len (es4.map (Gr.val m L3)) (es3.map (Gr.val m L3)) (by rw [List.length_map, List.length_map, H2.out.2.2.2.2, H3.out.2.2.2]; exact Nat.le_refl _)
    have h5v := h5.val m
    have h5f : divF L3 es3 es4 0 m = (divL (es4.map (Gr.val m L3)) (es3.map (Gr.val m L3))).1 ++ (divL (es4.map (Gr.val m L3)) (es3.map (Gr.val m L3))).2 := rfl
    rw [h5f, List.map_append] at h5v
    obtain ⟨q1, q2⟩ := List.append_inj h5v (by rw [hdl.1, List.length_map, List.length_map, H4.out.2.2.2.2.2.1, H2.out.2.2.2.2])
    rw [e3, e4] at q1 q2
    have e5 : Gr.val m L7 c5 = (B.map (Gr.val m L)).any id := by
      rw [H7.out.old (h6.own c5 (by simp))]
      have := h6.val m
      rw [vecE_of (by rw [HLB.out]; exact HNN.out.1) (by rw [HLB.out]; exact HNN.out.2), S4.out.out.olds HB.out] at this
      simpa using this
    have e7 : rs.map (Gr.val m L5) = (divL (magL (B.map (Gr.val m L))) (magL (A.map (Gr.val m L)))).2 := by
      rw [h6.olds (fun e he => h5.own e (List.mem_append_right _ he)), q2]
    rw [(HLAST.out.2.2.2 m).1, e7] at h7
    rw [e5, h7]
    rfl
  have HRES := Lib.hid hRES
  clear hRES g8 O8 hes8 HK
  go_wp2_with fail
  go_ret
  exact HRES.out
end Go.Proofs.Ytnkcdgpaphphaaa.Gr
