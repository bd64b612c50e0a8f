/- The law BitsOrder as a contract. -/
import Derived.Test.YtnkcdgpaphphaaaBtZ
namespace Go.Proofs.Ytnkcdgpaphphaaa.Gr
open Go Go.RowKit Go.Lib Go.Maps

def cntB (V : Nat → Bool) : Nat → Nat
  | 0 => 0
  | i + 1 => cntB V i + (V i).toNat
theorem cntB_succ (V : Nat → Bool) (i : Nat) : cntB V (i + 1) = cntB V i + (V i).toNat := rfl
theorem cntB_le (V : Nat → Bool) : ∀ i, cntB V i ≤ i := by
  intro i
  induction i with
  | zero => exact Nat.le_refl _
  | succ i ih => rw [cntB_succ]; have := Bool.toNat_le (V i); omega

set_option maxRecDepth 100000 in
set_option maxHeartbeats 2000000 in
theorem BitsOrder_law (a b c : Int) (W : World) (ha : -9223372036854775808 ≤ a ∧ a ≤ 9223372036854775807) (hb : -9223372036854775808 ≤ b ∧ b ≤ 9223372036854775807) (hc : -9223372036854775808 ≤ c ∧ c ≤ 9223372036854775807) :
    Calls Try.prog 11 #[.int .i64 a, .int .i64 b, .int .i64 c] W fun e w' => e = .returned (.bool true) ∧ Below W.heap.size W w' := by
  have HAW := Lib.hid (awake_bits W)
  have HAB := Lib.hid (And.intro ha (And.intro hb hc))
  obtain ⟨ib, hib, hzb0, hzb1, hzb2⟩ := info_parts infoBool
  clear ha hb hc
  go_enter Try.func11, Try.ntmps11
  go_wp2_with fail
  refine HAW.out.mono ?_
  rintro e w1 ⟨rfl, hb1⟩
  have HB1 := Lib.hid hb1
  have HN := Lib.hid (New_any w1)
  clear hb1 HAW
  go_wp2_with fail
  refine HN.out.mono ?_
  rintro e w2 ⟨G, rfl, r1, r2, r3⟩
  have LW_2 : Hid (BLaw W w2 G []) := ⟨r1, Wf.nil, HB1.out.trans (r2.mono HB1.out.size), fun k hk => Nat.le_trans HB1.out.size (r3 k hk)⟩
  clear r1 r2 r3 HN HB1
  have hI := Inputs_bits LW_2.out.rep 6 (by decide)
  rw [show lim 6 = 6 by decide] at hI
  have HI := Lib.hid hI
  clear hI
  go_wp2_with fail
  refine HI.out.mono ?_
  rintro e w3 ⟨b3, G3, rfl, f⟩
  have LW_3 := Lib.hid (LW_2.out.op f.rep f.fr (wf_ins LW_2.out.wf 6))
  have HG_3 : Hid (G3.h = G.h) := f.fr.h
  have X_3 := Lib.hid (in_vx (P := False) f id)
  clear f HI LW_2
  have hI := Inputs_bits LW_3.out.rep 6 (by simp)
  rw [show lim 6 = 6 by decide, HG_3.out] at hI
  have HI := Lib.hid hI
  clear hI
  go_wp2_with fail
  refine HI.out.mono ?_
  rintro e w4 ⟨b4, G4, rfl, f⟩
  have LW_4 := Lib.hid (LW_3.out.op f.rep f.fr (wf_ins LW_3.out.wf 6))
  have HG_4 : Hid (G4.h = G.h) := f.fr.h.trans HG_3.out
  have X_4 := Lib.hid (X_3.out.ins f)
  clear X_3
  have Y_4 := Lib.hid (in_vx (P := False) f id)
  clear f HI LW_3 HG_3
  have hI := Inputs_bits LW_4.out.rep 6 (by simp)
  rw [show lim 6 = 6 by decide, HG_4.out] at hI
  have HI := Lib.hid hI
  clear hI
  go_wp2_with fail
  refine HI.out.mono ?_
  rintro e w5 ⟨b5, G5, rfl, f⟩
  have LW_5 := Lib.hid (LW_4.out.op f.rep f.fr (wf_ins LW_4.out.wf 6))
  have HG_5 : Hid (G5.h = G.h) := f.fr.h.trans HG_4.out
  have X_5 := Lib.hid (X_4.out.ins f)
  have Y_5 := Lib.hid (Y_4.out.ins f)
  clear X_4 Y_4
  have Z_5 := Lib.hid (in_vx (P := False) f id)
  clear f HI LW_4 HG_4
  have LE_5 : Hid (([] ++ List.replicate 6 none ++ List.replicate 6 none ++ List.replicate 6 none : List Nd).length ≤ 64) := by show _ ≤ _; simp
  obtain ⟨FX, hFX⟩ : ∃ F : (Nat → Bool) → List Bool, F = fun m => (List.range 6).map fun i => m (ins ([] : List Nd) + i) := ⟨_, rfl⟩
  rw [← hFX] at X_5
  have HX : Hid (FX (mdlL (bitsL a 6 ++ bitsL b 6 ++ bitsL c 6)) = bitsL a 6) := by
    have h := mdl_part ([]) (bitsL a 6) (bitsL b 6 ++ bitsL c 6)
    simp only [List.length_append, bitsL_len, List.append_assoc, List.nil_append, List.append_nil, List.length_nil] at h
    have hi : ins ([] : List Nd) = 0 := by decide
    show _ = _
    rw [hFX, hi]; simp only [List.append_assoc]; exact h
  clear hFX
  obtain ⟨FY, hFY⟩ : ∃ F : (Nat → Bool) → List Bool, F = fun m => (List.range 6).map fun i => m (ins ([] ++ List.replicate 6 none : List Nd) + i) := ⟨_, rfl⟩
  rw [← hFY] at Y_5
  have HY : Hid (FY (mdlL (bitsL a 6 ++ bitsL b 6 ++ bitsL c 6)) = bitsL b 6) := by
    have h := mdl_part (bitsL a 6) (bitsL b 6) (bitsL c 6)
    simp only [List.length_append, bitsL_len, List.append_assoc, List.nil_append, List.append_nil, List.length_nil] at h
    have hi : ins ([] ++ List.replicate 6 none : List Nd) = 6 := by decide
    show _ = _
    rw [hFY, hi]; simp only [List.append_assoc]; exact h
  clear hFY
  obtain ⟨FZ, hFZ⟩ : ∃ F : (Nat → Bool) → List Bool, F = fun m => (List.range 6).map fun i => m (ins ([] ++ List.replicate 6 none ++ List.replicate 6 none : List Nd) + i) := ⟨_, rfl⟩
  rw [← hFZ] at Z_5
  have HZ : Hid (FZ (mdlL (bitsL a 6 ++ bitsL b 6 ++ bitsL c 6)) = bitsL c 6) := by
    have h := mdl_part (bitsL a 6 ++ bitsL b 6) (bitsL c 6) ([])
    simp only [List.length_append, bitsL_len, List.append_assoc, List.nil_append, List.append_nil, List.length_nil] at h
    have hi : ins ([] ++ List.replicate 6 none ++ List.replicate 6 none : List Nd) = 12 := by decide
    show _ = _
    rw [hFZ, hi]; simp only [List.append_assoc]; exact h
  clear hFZ
  generalize hN : ([] ++ List.replicate 6 none ++ List.replicate 6 none ++ List.replicate 6 none : List Nd) = N5 at *
  clear hN
  have hc := Bits_any a 6 w5 HAB.out.1
  rw [show lim 6 = 6 by decide] at hc
  have HC := Lib.hid hc
  clear hc
  go_wp2_with fail
  refine HC.out.mono ?_
  rintro e v1 ⟨rfl, hb5, hr5⟩
  have HR5 := Lib.hid (And.intro hb5 hr5)
  have hc := Bits_any b 6 v1 HAB.out.2.1
  rw [show lim 6 = 6 by decide] at hc
  have HC2 := Lib.hid hc
  clear hc hb5 hr5 HC
  go_wp2_with fail
  refine HC2.out.mono ?_
  rintro e v2 ⟨rfl, hb6, hr6⟩
  have h46 : W.heap.size ≤ w5.heap.size := LW_5.out.below.size
  have o5 := bits_own h46 HR5.out.2 (by omega)
  have HOW1 : Hid (v2.ownsRow W.heap.size 4 1 (.slice (some ⟨w5.heap.size, 0, none⟩) 6 6) 6 ((bitsL a 6).map Value.bool)) := owns_of_heap o5 fun g hg => hb6.block g (o5.lt g hg).2
  have o6 := bits_own (Nat.le_trans h46 HR5.out.1.size) hr6 (by omega)
  have HNL : Hid (((bitsL b 6).map Value.bool).length = 6 * 1) := by show _ = _; rw [List.length_map, bitsL_len]
  have HNEWS : Hid (∀ j u, ((bitsL b 6).map Value.bool)[j]? = some u → v2.cell? ((⟨v1.heap.size, 0, none⟩ : Addr).add j) = some u) := fun j u hj => by rw [Addr.add_lit, Nat.zero_add]; exact own_cell o6 hj
  have HSZ : Hid (W.heap.size ≤ v2.heap.size) := Nat.le_trans h46 (Nat.le_trans HR5.out.1.size hb6.size)
  have HB46 : Hid (Below w5.heap.size w5 v2) := HR5.out.1.trans (hb6.mono HR5.out.1.size)
  clear o5 o6 hb6 hr6 HC2 h46
  go_wp2_with (at_builtin; refine wpList_append_lies _ rfl _ _ 23 rfl W.heap.size 4 ib _ 1 1 Try.underlying23 hib hzb0 hzb1 hzb2 rfl (by decide) _ 6 ((bitsL a 6).map Value.bool) rfl HOW1.out ⟨v1.heap.size, 0, none⟩ 6 6 ((bitsL b 6).map Value.bool) rfl HNL.out HNEWS.out (by intro q hq; obtain ⟨z, _, rfl⟩ := List.mem_map.1 hq; rfl) (by omega) (by unfold maxLen; omega) (by omega) HSZ.out v2.heap.size rfl ?_; intro g0 cap0 v3 hown7 hgrow7 hat7 hlt7; refine Hid.out ?_)
  refine Lib.hid ?_
  have HB43 : Hid (Below w5.heap.size w5 v3) := grown_below HB46.out hgrow7 (Nat.le_refl _)
  have HG0 : Hid (w5.heap.size ≤ g0) := by
    rcases hat7 with e | e
    · exact Nat.le_of_eq (Option.some.inj (show (some w5.heap.size : Option Nat) = some g0 from e))
    · rw [e]; exact HB46.out.size
  have HOWN := Lib.hid hown7
  have hc := Bits_any c 6 v3 HAB.out.2.2
  rw [show lim 6 = 6 by decide] at hc
  have HC3 := Lib.hid hc
  clear hc hown7 hgrow7 hat7 hlt7 HOW1 HNL HNEWS HSZ HB46 HR5
  go_wp2_with fail
  refine HC3.out.mono ?_
  rintro e v4 ⟨rfl, hb8, hr8⟩
  have h43 : W.heap.size ≤ v3.heap.size := Nat.le_trans LW_5.out.below.size HB43.out.size
  have HOW2 : Hid (v4.ownsRow W.heap.size 4 1 (.slice (some ⟨g0, 0, none⟩) 12 cap0) 12 (((bitsL a 6).map Value.bool) ++ ((bitsL b 6).map Value.bool))) := owns_of_heap HOWN.out fun g hg => hb8.block g (HOWN.out.lt g hg).2
  have o8 := bits_own h43 hr8 (by omega)
  have HNL : Hid (((bitsL c 6).map Value.bool).length = 6 * 1) := by show _ = _; rw [List.length_map, bitsL_len]
  have HNEWS : Hid (∀ j u, ((bitsL c 6).map Value.bool)[j]? = some u → v4.cell? ((⟨v3.heap.size, 0, none⟩ : Addr).add j) = some u) := fun j u hj => by rw [Addr.add_lit, Nat.zero_add]; exact own_cell o8 hj
  have HSZ : Hid (W.heap.size ≤ v4.heap.size) := Nat.le_trans h43 hb8.size
  have HB44 : Hid (Below w5.heap.size w5 v4) := HB43.out.trans (hb8.mono HB43.out.size)
  clear o8 hb8 hr8 HC3 h43 HOWN
  go_wp2_with (at_builtin; refine wpList_append_lies _ rfl _ _ 23 rfl W.heap.size 4 ib _ 1 1 Try.underlying23 hib hzb0 hzb1 hzb2 rfl (by decide) _ 12 (((bitsL a 6).map Value.bool) ++ ((bitsL b 6).map Value.bool)) rfl HOW2.out ⟨v3.heap.size, 0, none⟩ 6 6 ((bitsL c 6).map Value.bool) rfl HNL.out HNEWS.out (by intro q hq; obtain ⟨z, _, rfl⟩ := List.mem_map.1 hq; rfl) (by omega) (by unfold maxLen; omega) (by omega) HSZ.out v4.heap.size rfl ?_; intro g cap w6 hown7 hgrow7 hat7 hlt7; refine Hid.out ?_)
  refine Lib.hid ?_
  have hb57 : Below w5.heap.size w5 w6 := grown_below HB44.out hgrow7 HG0.out
  have hgG : ¬ G5.has g := fun q => by
    have h1 := LW_5.out.rep.lt g q
    rcases hat7 with e | e
    · have : g0 = g := Option.some.inj (show (some g0 : Option Nat) = some g from e)
      have := HG0.out; omega
    · have := HB44.out.size; omega
  have MO_6 := Lib.hid (ModV.of_own (G := G5) (bs := bitsL a 6 ++ bitsL b 6 ++ bitsL c 6) (by rw [List.map_append, List.map_append]; exact hown7) (by rw [List.length_append, List.length_append, bitsL_len, bitsL_len, bitsL_len]) (by omega) hgG)
  have LW_6 := Lib.hid (LW_5.out.after hb57)
  have HG_6 := HG_5
  have X_6 := Lib.hid (X_5.out.after hb57)
  have Y_6 := Lib.hid (Y_5.out.after hb57)
  have Z_6 := Lib.hid (Z_5.out.after hb57)
  clear hown7 hgrow7 hat7 hlt7 hb57 hgG HOW2 HNL HNEWS HSZ HB44 HB43 HG0 LW_5 X_5 Y_5 Z_5
  have LE_6 := LE_5
  obtain ⟨N6, hN⟩ : ∃ N, N = N5 := ⟨_, rfl⟩
  rw [← hN] at LE_6 LW_6 X_6 Y_6 Z_6
  obtain ⟨G6, hG⟩ : ∃ G, G = G5 := ⟨_, rfl⟩
  rw [← hG] at LW_6 X_6 Y_6 Z_6 MO_6 HG_6
  clear hN hG
  have hc := less_ex (P := False) LW_6.out.rep LW_6.out.wf X_6.out Y_6.out (by omega) (by omega) (by have := LE_6.out; omega) 6 6
  rw [HG_6.out] at hc
  have HC := Lib.hid hc
  clear hc
  go_wp2_with fail
  refine HC.out.mono ?_
  rintro e w7 ⟨G7, N7, e7, rfl, g1, g2, ex, ho⟩
  have LW_7 := Lib.hid (LW_6.out.op g1 g2 ho.wf)
  have HG_7 : Hid (G7.h = G.h) := g2.h.trans HG_6.out
  have X_7 := Lib.hid (X_6.out.op g2 ho)
  have Y_7 := Lib.hid (Y_6.out.op g2 ho)
  have Z_7 := Lib.hid (Z_6.out.op g2 ho)
  have MO_7 := Lib.hid (MO_6.out.fr g2)
  clear X_6 Y_6 Z_6 MO_6
  have LE_7 : Hid (N7.length ≤ 128) := by have h1 := ho.lenle; have h2 := LE_6.out; show _ ≤ _; omega
  have E0_7 := Lib.hid ex
  clear g1 g2 ex ho HC LW_6 HG_6 LE_6
  have hc := less_ex (P := False) LW_7.out.rep LW_7.out.wf Y_7.out X_7.out (by omega) (by omega) (by have := LE_7.out; omega) 6 6
  rw [HG_7.out] at hc
  have HC := Lib.hid hc
  clear hc
  go_wp2_with fail
  refine HC.out.mono ?_
  rintro e w8 ⟨G8, N8, e8, rfl, g1, g2, ex, ho⟩
  have LW_8 := Lib.hid (LW_7.out.op g1 g2 ho.wf)
  have HG_8 : Hid (G8.h = G.h) := g2.h.trans HG_7.out
  have X_8 := Lib.hid (X_7.out.op g2 ho)
  have Y_8 := Lib.hid (Y_7.out.op g2 ho)
  have Z_8 := Lib.hid (Z_7.out.op g2 ho)
  have E0_8 := Lib.hid (E0_7.out.op ho)
  have MO_8 := Lib.hid (MO_7.out.fr g2)
  clear X_7 Y_7 Z_7 E0_7 MO_7
  have LE_8 : Hid (N8.length ≤ 192) := by have h1 := ho.lenle; have h2 := LE_7.out; show _ ≤ _; omega
  have E1_8 := Lib.hid ex
  clear g1 g2 ex ho HC LW_7 HG_7 LE_7
  have hc := same_ex (P := False) LW_8.out.rep LW_8.out.wf X_8.out Y_8.out (by omega) (by omega) (by have := LE_8.out; omega) 6 6
  rw [HG_8.out] at hc
  have HC := Lib.hid hc
  clear hc
  go_wp2_with fail
  refine HC.out.mono ?_
  rintro e w9 ⟨G9, N9, e9, rfl, g1, g2, ex, ho⟩
  have LW_9 := Lib.hid (LW_8.out.op g1 g2 ho.wf)
  have HG_9 : Hid (G9.h = G.h) := g2.h.trans HG_8.out
  have X_9 := Lib.hid (X_8.out.op g2 ho)
  have Y_9 := Lib.hid (Y_8.out.op g2 ho)
  have Z_9 := Lib.hid (Z_8.out.op g2 ho)
  have E0_9 := Lib.hid (E0_8.out.op ho)
  have E1_9 := Lib.hid (E1_8.out.op ho)
  have MO_9 := Lib.hid (MO_8.out.fr g2)
  clear X_8 Y_8 Z_8 E0_8 E1_8 MO_8
  have LE_9 : Hid (N9.length ≤ 256) := by have h1 := ho.lenle; have h2 := LE_8.out; show _ ≤ _; omega
  have E2_9 := Lib.hid ex
  clear g1 g2 ex ho HC LW_8 HG_8 LE_8
  have hc := add_vx (P := False) LW_9.out.rep LW_9.out.wf X_9.out Z_9.out (by omega) (by omega) (by have := LE_9.out; omega) 6 6
  rw [HG_9.out] at hc
  have HC := Lib.hid hc
  clear hc
  go_wp2_with fail
  refine HC.out.mono ?_
  rintro e w10 ⟨b10, c10, G10, N10, es10, rfl, g1, g2, vx, ho⟩
  have LW_10 := Lib.hid (LW_9.out.op g1 g2 ho.wf)
  have HG_10 : Hid (G10.h = G.h) := g2.h.trans HG_9.out
  have X_10 := Lib.hid (X_9.out.op g2 ho)
  have Y_10 := Lib.hid (Y_9.out.op g2 ho)
  have Z_10 := Lib.hid (Z_9.out.op g2 ho)
  have E0_10 := Lib.hid (E0_9.out.op ho)
  have E1_10 := Lib.hid (E1_9.out.op ho)
  have E2_10 := Lib.hid (E2_9.out.op ho)
  have MO_10 := Lib.hid (MO_9.out.fr g2)
  clear X_9 Y_9 Z_9 E0_9 E1_9 E2_9 MO_9
  have LE_10 : Hid (N10.length ≤ 4456) := by have h1 := ho.lenle; have h2 := LE_9.out; show _ ≤ _; omega
  have P_10 := Lib.hid vx
  clear g1 g2 vx ho HC LW_9 HG_9 LE_9
  have hc := add_vx (P := False) LW_10.out.rep LW_10.out.wf Y_10.out Z_10.out (by omega) (by omega) (by have := LE_10.out; omega) 6 6
  rw [HG_10.out] at hc
  have HC := Lib.hid hc
  clear hc
  go_wp2_with fail
  refine HC.out.mono ?_
  rintro e w11 ⟨b11, c11, G11, N11, es11, rfl, g1, g2, vx, ho⟩
  have LW_11 := Lib.hid (LW_10.out.op g1 g2 ho.wf)
  have HG_11 : Hid (G11.h = G.h) := g2.h.trans HG_10.out
  have X_11 := Lib.hid (X_10.out.op g2 ho)
  have Y_11 := Lib.hid (Y_10.out.op g2 ho)
  have Z_11 := Lib.hid (Z_10.out.op g2 ho)
  have P_11 := Lib.hid (P_10.out.op g2 ho)
  have E0_11 := Lib.hid (E0_10.out.op ho)
  have E1_11 := Lib.hid (E1_10.out.op ho)
  have E2_11 := Lib.hid (E2_10.out.op ho)
  have MO_11 := Lib.hid (MO_10.out.fr g2)
  clear X_10 Y_10 Z_10 P_10 E0_10 E1_10 E2_10 MO_10
  have LE_11 : Hid (N11.length ≤ 8656) := by have h1 := ho.lenle; have h2 := LE_10.out; show _ ≤ _; omega
  have Q_11 := Lib.hid vx
  clear g1 g2 vx ho HC LW_10 HG_10 LE_10
  have hc := same_ex (P := False) LW_11.out.rep LW_11.out.wf P_11.out Q_11.out (by omega) (by omega) (by have := LE_11.out; omega) c10 c11
  rw [HG_11.out] at hc
  have HC := Lib.hid hc
  clear hc
  go_wp2_with fail
  refine HC.out.mono ?_
  rintro e w12 ⟨G12, N12, e12, rfl, g1, g2, ex, ho⟩
  have LW_12 := Lib.hid (LW_11.out.op g1 g2 ho.wf)
  have HG_12 : Hid (G12.h = G.h) := g2.h.trans HG_11.out
  have X_12 := Lib.hid (X_11.out.op g2 ho)
  have Y_12 := Lib.hid (Y_11.out.op g2 ho)
  have Z_12 := Lib.hid (Z_11.out.op g2 ho)
  have P_12 := Lib.hid (P_11.out.op g2 ho)
  have Q_12 := Lib.hid (Q_11.out.op g2 ho)
  have E0_12 := Lib.hid (E0_11.out.op ho)
  have E1_12 := Lib.hid (E1_11.out.op ho)
  have E2_12 := Lib.hid (E2_11.out.op ho)
  have MO_12 := Lib.hid (MO_11.out.fr g2)
  clear X_11 Y_11 Z_11 P_11 Q_11 E0_11 E1_11 E2_11 MO_11
  have LE_12 : Hid (N12.length ≤ 8720) := by have h1 := ho.lenle; have h2 := LE_11.out; show _ ≤ _; omega
  have E3_12 := Lib.hid ex
  clear g1 g2 ex ho HC LW_11 HG_11 LE_11
  obtain ⟨wa, hwa⟩ : ∃ wa, wa = w12.alloc (.cells #[.int .i64 (e7 : Int), .int .i64 (e8 : Int), .int .i64 (e9 : Int), .int .i64 (e12 : Int)] 3) := ⟨_, rfl⟩
  have hba : Below w12.heap.size w12 wa := by rw [hwa]; exact (Below.refl _ _).alloc (Nat.le_refl _) _
  have hve : Vec wa G12 (some ⟨w12.heap.size, 0, none⟩) [e7, e8, e9, e12] := by
    refine Or.inr ⟨w12.heap.size, 0, rfl, by rw [hwa]; simp, fun q => Nat.lt_irrefl _ (LW_12.out.rep.lt _ q), fun j hj => ?_⟩
    have hj' : j < 4 := hj
    rw [Nat.zero_add, hwa]
    simp only [World.cell?, heap_alloc_new]
    match j, hj' with
    | 0, _ => rfl
    | 1, _ => rfl
    | 2, _ => rfl
    | 3, _ => rfl
  have hma := (MO_12.out.fr (Fr.ofBelow hba)).arg
  have hml : (bitsL a 6 ++ bitsL b 6 ++ bitsL c 6).length = 6 + 6 + 6 := by simp [bitsL_len]
  rw [hml] at hma
  have hE := Eval_vec ((LW_12.out.after hba).rep) LW_12.out.wf (some ⟨g, 0, none⟩) (6 + 6 + 6) cap _ hma (by omega) (some ⟨w12.heap.size, 0, none⟩) [e7, e8, e9, e12] 4 4 hve rfl (by omega) (fun e he => by
    simp only [List.mem_cons, List.not_mem_nil, or_false] at he
    rcases he with rfl | rfl | rfl | rfl
    · exact E0_12.out.own
    · exact E1_12.out.own
    · exact E2_12.out.own
    · exact E3_12.out.own
    ) (by have := LE_12.out; omega)
  rw [HG_12.out] at hE
  have HE := Lib.hid hE
  have LA := Lib.hid (LW_12.out.after hba)
  have HWA := Lib.hid hwa
  clear hba hve hma hE hwa
  go_wp2_with fail
  rw [← HWA.out]
  refine HE.out.mono ?_
  rintro e wz ⟨bz, rfl, hz0, hz1, hz2⟩
  have LZ := Lib.hid (LA.out.after hz2)
  have cz0 : wz.cell? ⟨bz, 0, none⟩ = some (.bool (Gr.val (mdlL (bitsL a 6 ++ bitsL b 6 ++ bitsL c 6)) N12 e7)) := by have := hz1.cell (i := 0) (by omega); unfold mdlL; rw [hml]; exact this
  have cz1 : wz.cell? ⟨bz, 1, none⟩ = some (.bool (Gr.val (mdlL (bitsL a 6 ++ bitsL b 6 ++ bitsL c 6)) N12 e8)) := by have := hz1.cell (i := 1) (by omega); unfold mdlL; rw [hml]; exact this
  have cz2 : wz.cell? ⟨bz, 2, none⟩ = some (.bool (Gr.val (mdlL (bitsL a 6 ++ bitsL b 6 ++ bitsL c 6)) N12 e9)) := by have := hz1.cell (i := 2) (by omega); unfold mdlL; rw [hml]; exact this
  have cz3 : wz.cell? ⟨bz, 3, none⟩ = some (.bool (Gr.val (mdlL (bitsL a 6 ++ bitsL b 6 ++ bitsL c 6)) N12 e12)) := by have := hz1.cell (i := 3) (by omega); unfold mdlL; rw [hml]; exact this
  rw [E0_12.out.val] at cz0
  rw [E1_12.out.val] at cz1
  rw [E2_12.out.val] at cz2
  rw [E3_12.out.val] at cz3
  clear hz0 hz1 hz2 HE LA HWA
  rw [HX.out, HY.out, lessS_sg _ _ (by rw [bitsL_len, bitsL_len]) (by intro e; have := congrArg List.length e; rw [bitsL_len] at this; simp at this)] at cz0 cz1
  rw [HX.out, HY.out] at cz2
  rw [HX.out, HY.out, HZ.out, law_keep (bitsL_len a 6) (bitsL_len b 6) (bitsL_len c 6) (by omega)] at cz3
  obtain ⟨V, hV0, hV1⟩ : ∃ V : Nat → Bool, (∀ j, j < 4 → wz.cell? ⟨bz, j, none⟩ = some (.bool (V j))) ∧ (cntB V 3 = 1 ∧ V 2 = V 3) := by
    refine ⟨fun j => match j with | 0 => decide (sg (bitsL a 6) < sg (bitsL b 6)) | 1 => decide (sg (bitsL b 6) < sg (bitsL a 6)) | _ => decide (bitsL a 6 = bitsL b 6), fun j hj => ?_, ?_, rfl⟩
    · match j, hj with
      | 0, _ => exact cz0
      | 1, _ => exact cz1
      | 2, _ => exact cz2
      | 3, _ => exact cz3
    · have he : (bitsL a 6 = bitsL b 6) ↔ sg (bitsL a 6) = sg (bitsL b 6) := (sg_inj (by rw [bitsL_len, bitsL_len])).symm
      simp only [cntB, he]
      generalize sg (bitsL a 6) = p
      generalize sg (bitsL b 6) = q
      rcases Int.lt_trichotomy p q with h | h | h
      · simp [h, show ¬ q < p by omega, show ¬ p = q by omega]
      · simp [h]
      · simp [h, show ¬ p < q by omega, show ¬ p = q by omega]
  clear cz0 cz1 cz2 cz3
  have HV := Lib.hid (And.intro hV0 hV1)
  clear hV0 hV1
  have HS : SameW wz wz := rfl
  go_wp2_with fail
  go_loopw [13, 14] (fun nv iv wr => ∃ i : Nat, nv = .int .i64 (cntB V i : Int) ∧ iv = .int .i64 (i : Int) ∧ i ≤ 3 ∧ SameW wr wz) (fun _ iv _ => 3 - (RowKit.intOf iv).toNat)
  case atStart => exact ⟨0, rfl, rfl, by omega, rfl⟩
  case round =>
    obtain ⟨i, rfl, rfl, hi, HSw⟩ := hrel
    obtain rfl : wr = wz := HSw
    by_cases hlt : i < 3
    · have hlz : (i : Int) < 3 := by omega
      have i0 : (0 : Int) ≤ (i : Int) := by omega
      have i4 : (i : Int) < 4 := by omega
      have cc := HV.out.1 i (by omega)
      have HC := Lib.hid (cntB_succ V i)
      have hcb := cntB_le V i
      generalize cntB V i = n at *
      cases hv : V i
      · rw [hv] at cc HC
        clear hv
        go_wp2_with fail
        go_roundw
        case rel => exact ⟨i + 1, by rw [HC.out]; simp, by go_num, by omega, rfl⟩
        case measure => simp [RowKit.intOf]; omega
      · rw [hv] at cc HC
        clear hv
        go_wp2_with fail
        go_roundw
        case rel => exact ⟨i + 1, by rw [HC.out]; simp, by go_num, by omega, rfl⟩
        case measure => simp [RowKit.intOf]; omega
    · obtain rfl : i = 3 := by omega
      rw [HV.out.2.1]
      have c2 := HV.out.1 2 (by omega)
      have c3 := HV.out.1 3 (by omega)
      rw [HV.out.2.2] at c2
      have hee : (V 3 == V 3) = true := by simp
      generalize V 3 = v at *
      go_wp2_with fail
      go_region
      go_wp2_with fail
      go_ret
      exact ⟨rfl, LZ.out.below.trans ⟨rfl, rfl, rfl, Nat.le_refl _, fun _ _ => rfl⟩⟩
end Go.Proofs.Ytnkcdgpaphphaaa.Gr
