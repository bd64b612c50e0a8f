/- The law BitsTurns as a contract. -/
import Derived.Test.YtnkcdgpaphphaaaBtZ
namespace Go.Proofs.Ytnkcdgpaphphaaa.Gr
open Go Go.RowKit Go.Lib Go.Maps

set_option maxRecDepth 100000 in
set_option maxHeartbeats 2000000 in
theorem BitsTurns_law (a b : Int) (t : Nat) (W : World) (ha : -9223372036854775808 ≤ a ∧ a ≤ 9223372036854775807) (hb : -9223372036854775808 ≤ b ∧ b ≤ 9223372036854775807) (ht : t < 256) :
    Calls Try.prog 12 #[.int .i64 a, .int .i64 b, .int .u8 (t : Int)] W fun e w' => e = .returned (.bool true) ∧ Below W.heap.size W w' := by
  have HAW := Lib.hid (awake_bits W)
  obtain ⟨k0, hk0⟩ : ∃ k0, k0 = t % 10 := ⟨_, rfl⟩
  obtain ⟨k, hk⟩ : ∃ k, k = k0 + 1 := ⟨_, rfl⟩
  have e1 : (t : Int).tmod 10 = (k0 : Int) := by rw [Int.tmod_eq_emod_of_nonneg (by omega), hk0]; omega
  have e2 : (1 : Int) + (k0 : Int) = (k : Int) := by omega
  have hk9 : k ≤ 10 := by omega
  have hk1 : 1 ≤ k := by omega
  have HK := Lib.hid (And.intro hk1 hk9)
  have k09 : (k0 : Int) < 10 := by omega
  have HL : Hid (lim (k : Int) = k) := lim_of hk1 (by omega)
  have HAB := Lib.hid (And.intro ha hb)
  obtain ⟨ib, hib, hzb0, hzb1, hzb2⟩ := info_parts infoBool
  clear hk hk0 ha hb
  go_enter Try.func12, Try.ntmps12
  go_wp2_with fail
  refine HAW.out.mono ?_
  rintro e w1 ⟨rfl, hb1⟩
  have HB1 := Lib.hid hb1
  have HN := Lib.hid (New_any w1)
  clear hb1 HAW
  go_wp2_with fail
  refine HN.out.mono ?_
  rintro e w2 ⟨G, rfl, r1, r2, r3⟩
  have LW_2 : Hid (BLaw W w2 G []) := ⟨r1, Wf.nil, HB1.out.trans (r2.mono HB1.out.size), fun k hk => Nat.le_trans HB1.out.size (r3 k hk)⟩
  clear r1 r2 r3 HN HB1
  have hI := Inputs_bits LW_2.out.rep (k : Int) (by decide)
  rw [HL.out] at hI
  have HI := Lib.hid hI
  clear hI
  go_wp2_with fail
  refine HI.out.mono ?_
  rintro e w3 ⟨b3, G3, rfl, f⟩
  have LW_3 := Lib.hid (LW_2.out.op f.rep f.fr (wf_ins LW_2.out.wf k))
  have HG_3 : Hid (G3.h = G.h) := f.fr.h
  have X_3 := Lib.hid (in_vx (P := False) f id)
  clear f HI LW_2
  have hI := Inputs_bits LW_3.out.rep (k : Int) (by simp; have := HK.out; omega)
  rw [HL.out, HG_3.out] at hI
  have HI := Lib.hid hI
  clear hI
  go_wp2_with fail
  refine HI.out.mono ?_
  rintro e w4 ⟨b4, G4, rfl, f⟩
  have LW_4 := Lib.hid (LW_3.out.op f.rep f.fr (wf_ins LW_3.out.wf k))
  have HG_4 : Hid (G4.h = G.h) := f.fr.h.trans HG_3.out
  have X_4 := Lib.hid (X_3.out.ins f)
  clear X_3
  have Y_4 := Lib.hid (in_vx (P := False) f id)
  clear f HI LW_3 HG_3
  have LE_4 : Hid (([] ++ List.replicate k none ++ List.replicate k none : List Nd).length ≤ 64) := by show _ ≤ _; have := HK.out; simp; omega
  have HFX0 : ([] ++ bitsL a k ++ bitsL b k : List Bool) = bitsL a k ++ bitsL b k := by simp
  have HFX : Hid ((List.range k).map (fun i => mdlL (bitsL a k ++ bitsL b k) (ins ([] : List Nd) + i)) = bitsL a k) := by
    have h := mdl_part [] (bitsL a k) (bitsL b k)
    rw [HFX0, bitsL_len] at h
    exact h
  have HFY : Hid ((List.range k).map (fun i => mdlL (bitsL a k ++ bitsL b k) (ins ([] ++ List.replicate k none : List Nd) + i)) = bitsL b k) := by
    have h := mdl_part (bitsL a k) (bitsL b k) []
    rw [List.append_nil, bitsL_len, bitsL_len] at h
    have hi : ins ([] ++ List.replicate k none : List Nd) = k := by rw [ins_app]; show 0 + k = k; omega
    show _ = _
    rw [hi]; exact h
  obtain ⟨FX, hFX⟩ : ∃ FX : (Nat → Bool) → List Bool, FX = fun m => (List.range k).map fun i => m (ins ([] : List Nd) + i) := ⟨_, rfl⟩
  obtain ⟨FY, hFY⟩ : ∃ FY : (Nat → Bool) → List Bool, FY = fun m => (List.range k).map fun i => m (ins ([] ++ List.replicate k none : List Nd) + i) := ⟨_, rfl⟩
  rw [← hFX] at X_4
  rw [← hFY] at Y_4
  have HX : Hid (FX (mdlL (bitsL a k ++ bitsL b k)) = bitsL a k) := by show _ = _; rw [hFX]; exact HFX.out
  have HY : Hid (FY (mdlL (bitsL a k ++ bitsL b k)) = bitsL b k) := by show _ = _; rw [hFY]; exact HFY.out
  generalize hN : ([] ++ List.replicate k none ++ List.replicate k none : List Nd) = N4 at *
  clear HFX HFY HFX0 hFX hFY hN
  have hc := Const_any LW_4.out.rep 0 (k : Int) (by omega)
  rw [HL.out] at hc
  have HC := Lib.hid hc
  clear hc
  go_wp2_with fail
  refine HC.out.mono ?_
  rintro e w5 ⟨b5, rfl, hb5, f⟩
  have LW_5 := Lib.hid (LW_4.out.after hb5)
  have HG_5 := HG_4
  have X_5 := Lib.hid (X_4.out.after hb5)
  have Y_5 := Lib.hid (Y_4.out.after hb5)
  have Z_5 : Hid (VX False w5 G4 N4 (some ⟨b5, 0, none⟩) (cstE 0 k) k (fun _ => bitsL 0 k)) := ⟨f.vec (by rw [cstE_len, List.length_replicate]), cstE_len _ _, cst_lt, fun m => cstE_val 0 k m _, fun p => p.elim⟩
  clear f hb5 HC LW_4 X_4 Y_4
  have LE_5 := LE_4
  obtain ⟨N5, hN⟩ : ∃ N, N = N4 := ⟨_, rfl⟩
  rw [← hN] at LE_5 LW_5 X_5 Y_5 Z_5
  obtain ⟨G5, hG⟩ : ∃ G, G = G4 := ⟨_, rfl⟩
  rw [← hG] at LW_5 X_5 Y_5 Z_5  HG_5
  clear hN hG
  have hc := Bits_any a (k : Int) w5 HAB.out.1
  rw [HL.out] at hc
  have HC := Lib.hid hc
  clear hc
  go_wp2_with fail
  refine HC.out.mono ?_
  rintro e v1 ⟨rfl, hb5, hr5⟩
  have HR5 := Lib.hid (And.intro hb5 hr5)
  have hc := Bits_any b (k : Int) v1 HAB.out.2
  rw [HL.out] at hc
  have HC2 := Lib.hid hc
  clear hc hb5 hr5 HC
  go_wp2_with fail
  refine HC2.out.mono ?_
  rintro e v2 ⟨rfl, hb6, hr6⟩
  have h46 : W.heap.size ≤ w5.heap.size := LW_5.out.below.size
  have o5 := bits_own h46 HR5.out.2 (by have := HK.out; omega)
  have HOW1 : Hid (v2.ownsRow W.heap.size 4 1 (.slice (some ⟨w5.heap.size, 0, none⟩) k k) k ((bitsL a k).map Value.bool)) := owns_of_heap o5 fun g hg => hb6.block g (o5.lt g hg).2
  have o6 := bits_own (Nat.le_trans h46 HR5.out.1.size) hr6 (by have := HK.out; omega)
  have HNL : Hid (((bitsL b k).map Value.bool).length = k * 1) := by show _ = _; rw [List.length_map, bitsL_len, Nat.mul_one]
  have HNEWS : Hid (∀ j u, ((bitsL b k).map Value.bool)[j]? = some u → v2.cell? ((⟨v1.heap.size, 0, none⟩ : Addr).add j) = some u) := fun j u hj => by rw [Addr.add_lit, Nat.zero_add]; exact own_cell o6 hj
  have HSZ : Hid (W.heap.size ≤ v2.heap.size) := Nat.le_trans h46 (Nat.le_trans HR5.out.1.size hb6.size)
  have HB46 : Hid (Below w5.heap.size w5 v2) := HR5.out.1.trans (hb6.mono HR5.out.1.size)
  clear o5 o6 hb6 hr6 HC2 h46
  go_wp2_with (at_builtin; refine wpList_append_lies _ rfl _ _ 23 rfl W.heap.size 4 ib _ 1 1 Try.underlying23 hib hzb0 hzb1 hzb2 rfl (by decide) _ k ((bitsL a k).map Value.bool) rfl HOW1.out ⟨v1.heap.size, 0, none⟩ k k ((bitsL b k).map Value.bool) rfl HNL.out HNEWS.out (by intro q hq; obtain ⟨z, _, rfl⟩ := List.mem_map.1 hq; rfl) (by have := HK.out; omega) (by unfold maxLen; have := HK.out; omega) (by have := HK.out; omega) HSZ.out v2.heap.size rfl ?_; intro g cap w6 hown7 hgrow7 hat7 hlt7; refine Hid.out ?_)
  refine Lib.hid ?_
  have hb57 : Below w5.heap.size w5 w6 := grown_below HB46.out hgrow7 (Nat.le_refl _)
  have hgG : ¬ G5.has g := fun q => by
    have h1 := LW_5.out.rep.lt g q
    rcases hat7 with e | e
    · have : w5.heap.size = g := Option.some.inj (show (some w5.heap.size : Option Nat) = some g from e)
      omega
    · have := HB46.out.size; omega
  have MO_6 := Lib.hid (ModV.of_own (G := G5) (bs := bitsL a k ++ bitsL b k) (by rw [List.map_append]; exact hown7) (by rw [List.length_append, bitsL_len, bitsL_len]) (by have := HK.out; omega) hgG)
  have LW_6 := Lib.hid (LW_5.out.after hb57)
  have HG_6 := HG_5
  have X_6 := Lib.hid (X_5.out.after hb57)
  have Y_6 := Lib.hid (Y_5.out.after hb57)
  have Z_6 := Lib.hid (Z_5.out.after hb57)
  clear hown7 hgrow7 hat7 hlt7 hb57 hgG HOW1 HNL HNEWS HSZ HB46 HR5 LW_5 X_5 Y_5 Z_5
  have LE_6 := LE_5
  obtain ⟨N6, hN⟩ : ∃ N, N = N5 := ⟨_, rfl⟩
  rw [← hN] at LE_6 LW_6 X_6 Y_6 Z_6
  obtain ⟨G6, hG⟩ : ∃ G, G = G5 := ⟨_, rfl⟩
  rw [← hG] at LW_6 X_6 Y_6 Z_6 MO_6 HG_6
  clear hN hG
  have hc := sub_vx (P := False) LW_6.out.rep LW_6.out.wf X_6.out X_6.out HK.out.1 (by have := HK.out; omega) (by have := LE_6.out; omega) k k
  rw [HG_6.out] at hc
  have HC := Lib.hid hc
  clear hc
  go_wp2_with fail
  refine HC.out.mono ?_
  rintro e w7 ⟨b7, c7, G7, N7, es7, rfl, g1, g2, vx, ho⟩
  have LW_7 := Lib.hid (LW_6.out.op g1 g2 ho.wf)
  have HG_7 : Hid (G7.h = G.h) := g2.h.trans HG_6.out
  have X_7 := Lib.hid (X_6.out.op g2 ho)
  have Y_7 := Lib.hid (Y_6.out.op g2 ho)
  have Z_7 := Lib.hid (Z_6.out.op g2 ho)
  have MO_7 := Lib.hid (MO_6.out.fr g2)
  clear X_6 Y_6 Z_6 MO_6
  have LE_7 : Hid (N7.length ≤ 4264) := by have h1 := ho.lenle; have h2 := LE_6.out; show _ ≤ _; omega
  have S_7 := Lib.hid vx
  clear g1 g2 vx ho HC LW_6 HG_6 LE_6
  have hc := some_ex (P := False) LW_7.out.rep LW_7.out.wf S_7.out HK.out.1 (by have := HK.out; omega) (by have := LE_7.out; omega) c7
  rw [HG_7.out] at hc
  have HC := Lib.hid hc
  clear hc
  go_wp2_with fail
  refine HC.out.mono ?_
  rintro e w8 ⟨G8, N8, e8, rfl, g1, g2, ex, ho⟩
  have LW_8 := Lib.hid (LW_7.out.op g1 g2 ho.wf)
  have HG_8 : Hid (G8.h = G.h) := g2.h.trans HG_7.out
  have X_8 := Lib.hid (X_7.out.op g2 ho)
  have Y_8 := Lib.hid (Y_7.out.op g2 ho)
  have Z_8 := Lib.hid (Z_7.out.op g2 ho)
  have S_8 := Lib.hid (S_7.out.op g2 ho)
  have MO_8 := Lib.hid (MO_7.out.fr g2)
  clear X_7 Y_7 Z_7 S_7 MO_7
  have LE_8 : Hid (N8.length ≤ 4328) := by have h1 := ho.lenle; have h2 := LE_7.out; show _ ≤ _; omega
  have E0_8 := Lib.hid ex
  clear g1 g2 ex ho HC LW_7 HG_7 LE_7
  clear S_8
  have hc := sub_vx (P := False) LW_8.out.rep LW_8.out.wf Z_8.out X_8.out HK.out.1 (by have := HK.out; omega) (by have := LE_8.out; omega) k k
  rw [HG_8.out] at hc
  have HC := Lib.hid hc
  clear hc
  go_wp2_with fail
  refine HC.out.mono ?_
  rintro e w9 ⟨b9, c9, G9, N9, es9, rfl, g1, g2, vx, ho⟩
  have LW_9 := Lib.hid (LW_8.out.op g1 g2 ho.wf)
  have HG_9 : Hid (G9.h = G.h) := g2.h.trans HG_8.out
  have X_9 := Lib.hid (X_8.out.op g2 ho)
  have Y_9 := Lib.hid (Y_8.out.op g2 ho)
  have Z_9 := Lib.hid (Z_8.out.op g2 ho)
  have E0_9 := Lib.hid (E0_8.out.op ho)
  have MO_9 := Lib.hid (MO_8.out.fr g2)
  clear X_8 Y_8 Z_8 E0_8 MO_8
  have LE_9 : Hid (N9.length ≤ 8528) := by have h1 := ho.lenle; have h2 := LE_8.out; show _ ≤ _; omega
  have A_9 := Lib.hid vx
  clear g1 g2 vx ho HC LW_8 HG_8 LE_8
  have hc := sub_vx (P := False) LW_9.out.rep LW_9.out.wf Z_9.out A_9.out HK.out.1 (by have := HK.out; omega) (by have := LE_9.out; omega) k c9
  rw [HG_9.out] at hc
  have HC := Lib.hid hc
  clear hc
  go_wp2_with fail
  refine HC.out.mono ?_
  rintro e w10 ⟨b10, c10, G10, N10, es10, rfl, g1, g2, vx, ho⟩
  have LW_10 := Lib.hid (LW_9.out.op g1 g2 ho.wf)
  have HG_10 : Hid (G10.h = G.h) := g2.h.trans HG_9.out
  have X_10 := Lib.hid (X_9.out.op g2 ho)
  have Y_10 := Lib.hid (Y_9.out.op g2 ho)
  have Z_10 := Lib.hid (Z_9.out.op g2 ho)
  have A_10 := Lib.hid (A_9.out.op g2 ho)
  have E0_10 := Lib.hid (E0_9.out.op ho)
  have MO_10 := Lib.hid (MO_9.out.fr g2)
  clear X_9 Y_9 Z_9 A_9 E0_9 MO_9
  have LE_10 : Hid (N10.length ≤ 12728) := by have h1 := ho.lenle; have h2 := LE_9.out; show _ ≤ _; omega
  have B_10 := Lib.hid vx
  clear g1 g2 vx ho HC LW_9 HG_9 LE_9
  clear A_10
  have hc := same_ex (P := False) LW_10.out.rep LW_10.out.wf B_10.out X_10.out HK.out.1 (by have := HK.out; omega) (by have := LE_10.out; omega) c10 k
  rw [HG_10.out] at hc
  have HC := Lib.hid hc
  clear hc
  go_wp2_with fail
  refine HC.out.mono ?_
  rintro e w11 ⟨G11, N11, e11, rfl, g1, g2, ex, ho⟩
  have LW_11 := Lib.hid (LW_10.out.op g1 g2 ho.wf)
  have HG_11 : Hid (G11.h = G.h) := g2.h.trans HG_10.out
  have X_11 := Lib.hid (X_10.out.op g2 ho)
  have Y_11 := Lib.hid (Y_10.out.op g2 ho)
  have Z_11 := Lib.hid (Z_10.out.op g2 ho)
  have B_11 := Lib.hid (B_10.out.op g2 ho)
  have E0_11 := Lib.hid (E0_10.out.op ho)
  have MO_11 := Lib.hid (MO_10.out.fr g2)
  clear X_10 Y_10 Z_10 B_10 E0_10 MO_10
  have LE_11 : Hid (N11.length ≤ 12792) := by have h1 := ho.lenle; have h2 := LE_10.out; show _ ≤ _; omega
  have E1_11 := Lib.hid ex
  clear g1 g2 ex ho HC LW_10 HG_10 LE_10
  clear B_11 Z_11
  have hc := mul_vx (P := False) LW_11.out.rep LW_11.out.wf X_11.out Y_11.out HK.out.1 (by have := HK.out; omega) (by have := LE_11.out; omega) k k
  rw [HG_11.out] at hc
  have HC := Lib.hid hc
  clear hc
  go_wp2_with fail
  refine HC.out.mono ?_
  rintro e w12 ⟨b12, c12, G12, N12, es12, rfl, g1, g2, vx, ho⟩
  have LW_12 := Lib.hid (LW_11.out.op g1 g2 ho.wf)
  have HG_12 : Hid (G12.h = G.h) := g2.h.trans HG_11.out
  have X_12 := Lib.hid (X_11.out.op g2 ho)
  have Y_12 := Lib.hid (Y_11.out.op g2 ho)
  have E0_12 := Lib.hid (E0_11.out.op ho)
  have E1_12 := Lib.hid (E1_11.out.op ho)
  have MO_12 := Lib.hid (MO_11.out.fr g2)
  clear X_11 Y_11 E0_11 E1_11 MO_11
  have LE_12 : Hid (N12.length ≤ 16992) := by have h1 := ho.lenle; have h2 := LE_11.out; show _ ≤ _; omega
  have M_12 := Lib.hid vx
  clear g1 g2 vx ho HC LW_11 HG_11 LE_11
  have hc := mul_vx (P := False) LW_12.out.rep LW_12.out.wf Y_12.out X_12.out HK.out.1 (by have := HK.out; omega) (by have := LE_12.out; omega) k k
  rw [HG_12.out] at hc
  have HC := Lib.hid hc
  clear hc
  go_wp2_with fail
  refine HC.out.mono ?_
  rintro e w13 ⟨b13, c13, G13, N13, es13, rfl, g1, g2, vx, ho⟩
  have LW_13 := Lib.hid (LW_12.out.op g1 g2 ho.wf)
  have HG_13 : Hid (G13.h = G.h) := g2.h.trans HG_12.out
  have X_13 := Lib.hid (X_12.out.op g2 ho)
  have Y_13 := Lib.hid (Y_12.out.op g2 ho)
  have M_13 := Lib.hid (M_12.out.op g2 ho)
  have E0_13 := Lib.hid (E0_12.out.op ho)
  have E1_13 := Lib.hid (E1_12.out.op ho)
  have MO_13 := Lib.hid (MO_12.out.fr g2)
  clear X_12 Y_12 M_12 E0_12 E1_12 MO_12
  have LE_13 : Hid (N13.length ≤ 21192) := by have h1 := ho.lenle; have h2 := LE_12.out; show _ ≤ _; omega
  have M2_13 := Lib.hid vx
  clear g1 g2 vx ho HC LW_12 HG_12 LE_12
  have hc := same_ex (P := False) LW_13.out.rep LW_13.out.wf M_13.out M2_13.out HK.out.1 (by have := HK.out; omega) (by have := LE_13.out; omega) c12 c13
  rw [HG_13.out] at hc
  have HC := Lib.hid hc
  clear hc
  go_wp2_with fail
  refine HC.out.mono ?_
  rintro e w14 ⟨G14, N14, e14, rfl, g1, g2, ex, ho⟩
  have LW_14 := Lib.hid (LW_13.out.op g1 g2 ho.wf)
  have HG_14 : Hid (G14.h = G.h) := g2.h.trans HG_13.out
  have X_14 := Lib.hid (X_13.out.op g2 ho)
  have Y_14 := Lib.hid (Y_13.out.op g2 ho)
  have M_14 := Lib.hid (M_13.out.op g2 ho)
  have M2_14 := Lib.hid (M2_13.out.op g2 ho)
  have E0_14 := Lib.hid (E0_13.out.op ho)
  have E1_14 := Lib.hid (E1_13.out.op ho)
  have MO_14 := Lib.hid (MO_13.out.fr g2)
  clear X_13 Y_13 M_13 M2_13 E0_13 E1_13 MO_13
  have LE_14 : Hid (N14.length ≤ 21256) := by have h1 := ho.lenle; have h2 := LE_13.out; show _ ≤ _; omega
  have E2_14 := Lib.hid ex
  clear g1 g2 ex ho HC LW_13 HG_13 LE_13
  obtain ⟨wa, hwa⟩ : ∃ wa, wa = w14.alloc (.cells #[.int .i64 (e8 : Int), .int .i64 (e11 : Int), .int .i64 (e14 : Int)] 3) := ⟨_, rfl⟩
  have hba : Below w14.heap.size w14 wa := by rw [hwa]; exact (Below.refl _ _).alloc (Nat.le_refl _) _
  have hve : Vec wa G14 (some ⟨w14.heap.size, 0, none⟩) [e8, e11, e14] := by
    refine Or.inr ⟨w14.heap.size, 0, rfl, by rw [hwa]; simp, fun q => Nat.lt_irrefl _ (LW_14.out.rep.lt _ q), fun j hj => ?_⟩
    have hj' : j < 3 := hj
    rw [Nat.zero_add, hwa]
    simp only [World.cell?, heap_alloc_new]
    match j, hj' with
    | 0, _ => rfl
    | 1, _ => rfl
    | 2, _ => rfl
  have hma := (MO_14.out.fr (Fr.ofBelow hba)).arg
  have hml : (bitsL a k ++ bitsL b k).length = k + k := by simp [bitsL_len]
  rw [hml] at hma
  have hE := Eval_vec ((LW_14.out.after hba).rep) LW_14.out.wf (some ⟨g, 0, none⟩) (k + k) cap _ hma (by have := HK.out; omega) (some ⟨w14.heap.size, 0, none⟩) [e8, e11, e14] 3 3 hve rfl (by omega) (fun e he => by
    simp only [List.mem_cons, List.not_mem_nil, or_false] at he
    rcases he with rfl | rfl | rfl
    · exact E0_14.out.own
    · exact E1_14.out.own
    · exact E2_14.out.own
    ) (by have := LE_14.out; omega)
  rw [HG_14.out] at hE
  have HE := Lib.hid hE
  have LA := Lib.hid (LW_14.out.after hba)
  have HWA := Lib.hid hwa
  clear hba hve hma hE hwa
  go_wp2_with fail
  rw [← HWA.out]
  refine HE.out.mono ?_
  rintro e wz ⟨bz, rfl, hz0, hz1, hz2⟩
  have LZ := Lib.hid (LA.out.after hz2)
  have cz0 : wz.cell? ⟨bz, 0, none⟩ = some (.bool (Gr.val (mdlL (bitsL a k ++ bitsL b k)) N14 e8)) := by have := hz1.cell (i := 0) (by omega); unfold mdlL; rw [hml]; exact this
  have cz1 : wz.cell? ⟨bz, 1, none⟩ = some (.bool (Gr.val (mdlL (bitsL a k ++ bitsL b k)) N14 e11)) := by have := hz1.cell (i := 1) (by omega); unfold mdlL; rw [hml]; exact this
  have cz2 : wz.cell? ⟨bz, 2, none⟩ = some (.bool (Gr.val (mdlL (bitsL a k ++ bitsL b k)) N14 e14)) := by have := hz1.cell (i := 2) (by omega); unfold mdlL; rw [hml]; exact this
  rw [E0_14.out.val] at cz0
  rw [E1_14.out.val] at cz1
  rw [E2_14.out.val] at cz2
  clear hz0 hz1 hz2 HE LA HWA
  rw [HX.out, law_self (bitsL_len a k) HK.out.1] at cz0
  rw [HX.out, law_neg (bitsL_len a k) (bitsL_len 0 k) HK.out.1 (by rw [bits_sg, trimZ_zero]), decide_eq_true rfl] at cz1
  rw [HX.out, HY.out, law_comm (bitsL_len a k) (bitsL_len b k) HK.out.1, decide_eq_true rfl] at cz2
  go_wp2_with fail
  go_ret
  exact ⟨rfl, LZ.out.below⟩
end Go.Proofs.Ytnkcdgpaphphaaa.Gr
