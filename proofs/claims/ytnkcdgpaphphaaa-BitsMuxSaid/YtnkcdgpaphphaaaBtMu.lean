/- The law BitsMux as a contract. -/
import Derived.Test.YtnkcdgpaphphaaaBtPa
namespace Go.Proofs.Ytnkcdgpaphphaaa.Gr
open Go Go.RowKit Go.Lib Go.Maps

theorem val_two (m : Nat → Bool) : Gr.val m [none] 2 = m 0 := by
  have := val_in m []
  simpa [run] using this

/-- What the law holds beside its graph: the two constants, its list of choices. -/
def MuI (W w2 wr : World) (bl k : Nat) : Prop := Below w2.heap.size w2 wr ∧ ∃ f, RowAt wr bl 3 17 f ∧ ∀ i, i < k → f i = .int .i64 1

set_option maxRecDepth 100000 in
set_option maxHeartbeats 2000000 in
theorem BitsMux_law (a b : Int) (c : Bool) (W : World) (ha : -9223372036854775808 ≤ a ∧ a ≤ 9223372036854775807) (hb : -9223372036854775808 ≤ b ∧ b ≤ 9223372036854775807) :
    Calls Try.prog 8 #[.int .i64 a, .int .i64 b, .bool c] W fun e w' => e = .returned (.bool true) ∧ Below W.heap.size W w' := by
  have HAW := Lib.hid (awake_bits W)
  have HAB := Lib.hid (And.intro ha hb)
  have HRB := Lib.hid (fun V => RTrim_any b 7 V hb)
  have HRA := Lib.hid (fun V => RTrim_any a 9 V ha)
  rw [show lim 7 = 7 by decide] at HRB
  rw [show lim 9 = 9 by decide] at HRA
  have hm : ∀ V, (Instr.makeSlice 31 (.int .i64 17) (.int .i64 17)).run Try.prog V = .ok (.slice (some ⟨V.heap.size, 0, none⟩) 17 17) (V.alloc (.cells (madeCells #[.int .i64 0] 17) 3)) := fun V => run_make_row' (P := Try.prog) 31 3 (.int .i64 0) 8 Try.underlying31 infoInt rfl .i64 .i64 17 (by omega) (by omega) V
  clear ha hb
  go_enter Try.func8, Try.ntmps8
  go_wp2_with fail
  refine HAW.out.mono ?_
  rintro e w1 ⟨rfl, hb1⟩
  have HB1 := Lib.hid hb1
  have HN := Lib.hid (New_any w1)
  clear hb1 HAW
  go_wp2_with fail
  refine HN.out.mono ?_
  rintro e w2 ⟨G, rfl, r1, r2, r3⟩
  have L2 : Hid (BLaw W w2 G []) := ⟨r1, Wf.nil, HB1.out.trans (r2.mono HB1.out.size), fun k hk => Nat.le_trans HB1.out.size (r3 k hk)⟩
  have HI := Lib.hid (Input_any r1 (by decide))
  clear r1 r2 r3 HN HB1
  go_wp2_with fail
  refine HI.out.mono ?_
  rintro e w3 ⟨rfl, G3, g1, g2⟩
  have L3 : Hid (BLaw W w3 G3 [none]) := L2.out.op g1 g2 Wf.nil.input
  have HG3 : Hid (G3.h = G.h) := g2.h
  have hC := Const_any (L := [none]) g1 a 9 HAB.out.1
  rw [show lim 9 = 9 by decide] at hC
  have HC := Lib.hid hC
  clear g1 g2 hC HI L2
  go_wp2_with fail
  refine HC.out.mono ?_
  rintro e w4 ⟨bx, rfl, hb4, f4⟩
  have L4 := Lib.hid (L3.out.after hb4)
  have X4 := Lib.hid (f4.vec (by rw [cstE_len, List.length_replicate]))
  have hC := Const_any L4.out.rep b 7 HAB.out.2
  rw [show lim 7 = 7 by decide] at hC
  have HC2 := Lib.hid hC
  clear hb4 f4 hC HC L3
  go_wp2_with fail
  refine HC2.out.mono ?_
  rintro e w5 ⟨by5, rfl, hb5, f5⟩
  have L5 := Lib.hid (L4.out.after hb5)
  have X5 := Lib.hid (X4.out.below hb5)
  have Y5 := Lib.hid (f5.vec (by rw [cstE_len, List.length_replicate]))
  clear hb5 f5 HC2 L4 X4
  go_wp2_with fail
  refine (HRB.out _).mono ?_
  rintro e w' ⟨rfl, rfl⟩
  have hw9 : wid (cstE a 9) (cstE b 7) = 9 := by unfold wid; rw [vecE_of (by rw [cstE_len]; omega) (by rw [cstE_len]; omega), vecE_of (by rw [cstE_len]; omega) (by rw [cstE_len]; omega), cstE_len, cstE_len]; omega
  have hx9 : wdE (cstE a 9) (cstE b 7) (cstE a 9) = cstE a 9 := by
    unfold wdE; rw [hw9, vecE_of (by rw [cstE_len]; omega) (by rw [cstE_len]; omega)]
    have := wideL_same 0 (cstE a 9); rwa [cstE_len] at this
  have hy9 : wdE (cstE a 9) (cstE b 7) (cstE b 7) = wideL 0 (cstE b 7) 9 := by
    unfold wdE; rw [hw9, vecE_of (by rw [cstE_len]; omega) (by rw [cstE_len]; omega)]
  have hM := BMux_any (P := False) 2 (some ⟨bx, 0, none⟩) (cstE a 9) 9 (some ⟨by5, 0, none⟩) (cstE b 7) 7 ⟨L5.out.rep, L5.out.wf, X5.out, Y5.out, by rw [cstE_len]; omega, by rw [cstE_len]; omega, cst_lt, cst_lt, fun p => p.elim⟩ (by decide) (fun p => p.elim) (by decide)
  rw [hw9, hx9, hy9, cstE_len, cstE_len, HG3.out] at hM
  have HM := Lib.hid hM
  have HVA : Hid (∀ m : Nat → Bool, (if Gr.val m [none] 2 then (cstE a 9).map (Gr.val m [none]) else (wideL 0 (cstE b 7) 9).map (Gr.val m [none])) = if m 0 then bitsL a 9 else wideL false (bitsL b 7) 9) := fun m => by rw [val_two, cstE_val, wide_val]
  have HSB : Hid (sg (wideL false (bitsL b 7) 9) = trimZ b 7) := by show _ = _; rw [wide_cst b (by omega), trimZ_wide b (by omega) (by omega)]
  have HSA : Hid (sg (bitsL a 9) = trimZ a 9) := bits_sg a 9
  clear hw9 hx9 hy9 hM X5 Y5 HRB
  obtain ⟨TA, hTA⟩ : ∃ TA, TA = trimZ a 9 := ⟨_, rfl⟩
  obtain ⟨TB, hTB⟩ : ∃ TB, TB = trimZ b 7 := ⟨_, rfl⟩
  rw [← hTA] at HRA HSA
  rw [← hTB] at HSB ⊢
  clear hTA hTB
  obtain ⟨TW, HTW, hcase⟩ : ∃ TW, Hid (sg (if c then bitsL a 9 else wideL false (bitsL b 7) 9) = TW) ∧ ((c = true ∧ TW = TA) ∨ (c = false ∧ TW = TB)) := by
    cases c
    · exact ⟨TB, by show sg (if false then _ else _) = _; exact HSB.out, Or.inr ⟨rfl, rfl⟩⟩
    · exact ⟨TA, by show sg (if true then _ else _) = _; exact HSA.out, Or.inl ⟨rfl, rfl⟩⟩
  rcases hcase with ⟨rfl, hT⟩ | ⟨rfl, hT⟩
  · rw [← hT] at HRA
    clear hT HSA HSB
    go_wp2_with fail
    refine (HRA.out _).mono ?_
    rintro e w' ⟨rfl, rfl⟩
    clear HRA
    go_wp2_with fail
    refine HM.out.mono ?_
    rintro e w6 ⟨b6, G6, L6, es6, rfl, hes6, f6, o6⟩
    have LW6 := Lib.hid (L5.out.op f6.rep f6.fr o6.wf)
    have V6 := Lib.hid (f6.vec (by rw [hes6, List.length_replicate]))
    have HG6 : Hid (G6.h = G.h) := f6.fr.h.trans HG3.out
    have HO6 := Lib.hid (And.intro o6 hes6)
    have hl6 := o6.lenle
    have HL6 : Hid (L6.length ≤ 100) := by show _ ≤ _; simp at hl6; omega
    have START : Hid (Fil w6 (w6.alloc (.cells (madeCells #[.int .i64 0] 17) 3)) G6 G6 L6 w6.heap.size 17 (List.replicate 0 1) (List.replicate 17 0)) := Fil.made f6.rep (Fr.refl _ _) 17
    clear f6 o6 hes6 hl6 HM L5
    go_wp2_with fail
    go_loopw [14] (fun iv wr => ∃ i : Nat, iv = .int .i64 (i : Int) ∧ i ≤ 17 ∧ Hid (Fil w6 wr G6 G6 L6 w6.heap.size 17 (List.replicate i 1) (List.replicate 17 0))) (fun iv _ => 17 - (RowKit.intOf iv).toNat)
    case atStart => exact ⟨0, rfl, by omega, START⟩
    case round =>
      obtain ⟨i, rfl, hi, HF⟩ := hrel
      by_cases hlt : i < 17
      · have hlz : (i : Int) < 17 := by omega
        have i0 : (0 : Int) ≤ (i : Int) := by omega
        have f0 := HF.out.free i
        have hl2 : i < (List.replicate 17 0).length := by rw [List.length_replicate]; exact hlt
        have c0 := HF.out.next (i := i) hl2 (by rw [List.length_replicate]; exact Nat.le_refl _)
        have HP : Hid (Fil w6 (wr.setCell ⟨w6.heap.size, i, none⟩ (.int .i64 ((1 : Nat) : Int))) G6 G6 L6 w6.heap.size 17 (List.replicate (i + 1) 1) (List.replicate 17 0)) := by
          have := HF.out.put (k := i) (by rw [List.length_replicate]) hl2 1
          rwa [← List.replicate_succ'] at this
        generalize ((List.replicate 17 0).getD i 0 : Int) = y at *
        clear HF hl2
        go_wp2_with fail
        go_roundw
        case rel => exact ⟨i + 1, by go_num, by omega, HP⟩
        case measure => simp [RowKit.intOf]; omega
      · obtain rfl : i = 17 := by omega
        have hlz : ¬ (17 : Int) < 17 := by omega
        have LWr := Lib.hid (LW6.out.op HF.out.rep HF.out.fr LW6.out.wf)
        have Vr := V6.out.fr HF.out.fr
        have VL := Lib.hid (HF.out.vec (by rw [List.length_replicate, List.length_replicate]))
        obtain ⟨wa, hwa⟩ : ∃ wa, wa = wr.alloc (.cells #[.bool true] 4) := ⟨_, rfl⟩
        have hba : Below wr.heap.size wr wa := by rw [hwa]; exact (Below.refl _ _).alloc (Nat.le_refl _) _
        have hma : ArgV (fun j => .bool ((fun _ => true) j)) wa (some ⟨wr.heap.size, 0, none⟩) 1 := by
          refine Or.inr ⟨wr.heap.size, 0, rfl, by rw [hwa]; simp, fun j hj => ?_⟩
          obtain rfl : j = 0 := by omega
          rw [hwa]; simp only [World.cell?, heap_alloc_new]; rfl
        have LWa := Lib.hid (LWr.out.after hba)
        have VLa := Lib.hid (VL.out.below hba)
        have hE := Eval_vec LWa.out.rep LWa.out.wf (some ⟨wr.heap.size, 0, none⟩) 1 1 (fun _ => true) hma (by omega) (some ⟨b6, 0, none⟩) es6 9 9 (Vr.below hba) HO6.out.2 (by omega) HO6.out.1.own (by have := HL6.out; omega)
        rw [HG6.out] at hE
        have HE := Lib.hid hE
        have HWA := Lib.hid hwa
        have vT : (TW == TW) = true := by simp
        clear hba hma Vr hE hwa HF LWr VL V6 LW6 START
        go_wp2_with fail
        rw [← HWA.out]
        refine HE.out.mono ?_
        rintro e w8 ⟨b8, rfl, _, r8, hb8⟩
        have hV := Value_ev r8 HO6.out.2 (by omega) (by omega) 9
        have hval : sg (es6.map (Gr.val (mdl (fun _ => true) 1) L6)) = TW := by
          rw [HO6.out.1.val, HVA.out]
          exact HTW.out
        rw [hval] at hV
        have HV := Lib.hid hV
        have LW8 := Lib.hid (LWa.out.after hb8)
        have VL8 := Lib.hid (VLa.out.below hb8)
        have hw1 : wid [] (List.replicate 17 1) = 1 := by decide
        have hx1 : wdE [] (List.replicate 17 1) [] = [0] := by decide
        have hy1 : wdE [] (List.replicate 17 1) (List.replicate 17 1) = [0] := by decide
        have hA := Add_any (P := False) none [] 0 (some ⟨w6.heap.size, 0, none⟩) (List.replicate 17 1) 17 ⟨LW8.out.rep, LW8.out.wf, Or.inl rfl, VL8.out, by simp, by simp, by simp, fun e he => by rw [(List.mem_replicate.1 he).2]; omega, fun p => p.elim⟩ (by have := HL6.out; omega)
        rw [hw1, hx1, hy1, List.length_replicate, HG6.out] at hA
        have HA : Hid (Calls Try.prog 45 #[.pointer (some ⟨G.h, 0, none⟩), .slice none 0 0, .slice (some ⟨w6.heap.size, 0, none⟩) 17 17] w8 (RowE w8 G6 False L6 9 1 (fun m => (addL ([0].map (Gr.val m L6)) ([0].map (Gr.val m L6)) false).1))) := hA
        clear hV hval r8 hb8 HE LWa VLa HWA hA hw1 hx1 hy1
        go_wp2_with fail
        refine HV.out.mono ?_
        rintro e w' ⟨rfl, rfl⟩
        clear HV
        go_wp2_with fail
        refine HA.out.mono ?_
        rintro e w9 ⟨b9, G9, L9, es9, rfl, hes9, f9, o9⟩
        have LW9 := Lib.hid (LW8.out.op f9.rep f9.fr o9.wf)
        have VL9 := Lib.hid (VL8.out.fr f9.fr)
        have HG9 : Hid (G9.h = G.h) := f9.fr.h.trans HG6.out
        have hl9 := o9.lenle
        have HL9 : Hid (L9.length ≤ 200) := by have := HL6.out; show _ ≤ _; omega
        have hE := Eval_vec f9.rep o9.wf none 0 0 (fun _ => false) (Or.inl rfl) (by omega) (some ⟨b9, 0, none⟩) es9 1 1 (f9.vec (by rw [hes9, List.length_replicate])) hes9 (by omega) o9.own (by have := HL9.out; omega)
        rw [HG9.out] at hE
        have HE := Lib.hid hE
        have HV9 : Hid (es9.length = 1 ∧ ∀ m, sg (es9.map (Gr.val m L9)) = 0) := ⟨hes9, fun m => by
          rw [o9.val]; simp only [List.map_cons, List.map_nil, val_zero]; decide⟩
        clear hE f9 o9 hes9 hl9 HA LW8 VL8
        go_wp2_with fail
        refine HE.out.mono ?_
        rintro e w10 ⟨b10, rfl, _, r10, hb10⟩
        have hV := Value_ev r10 HV9.out.1 (by omega) (by omega) 1
        rw [HV9.out.2] at hV
        have HV := Lib.hid hV
        have LW10 := Lib.hid (LW9.out.after hb10)
        have VL10 := Lib.hid (VL9.out.below hb10)
        clear hV r10 hb10 HE LW9 VL9
        go_wp2_with fail
        refine HV.out.mono ?_
        rintro e w' ⟨rfl, rfl⟩
        clear HV
        have hS := Some_any (P := True) LW10.out.rep LW10.out.wf (some ⟨w6.heap.size, 0, none⟩) (List.replicate 17 1) 17 VL10.out (by simp) (fun e he => by rw [(List.mem_replicate.1 he).2]; omega) (fun _ e he => by rw [(List.mem_replicate.1 he).2]; omega) (by have := HL9.out; omega)
        rw [HG9.out, List.length_replicate, show vecE (List.replicate 17 1) = [0] by decide] at hS
        have HS := Lib.hid hS
        clear hS
        go_wp2_with fail
        refine HS.out.mono ?_
        rintro e w11 ⟨G11, L11, c11, rfl, g1, g2, o11⟩
        have hc : c11 = 0 := by
          have h1 := (o11.con trivial).2 c11 (by simp)
          have h2 := o11.val (fun _ => false)
          simp [val_zero] at h2
          rcases Nat.lt_or_ge c11 1 with q | q
          · omega
          · have : c11 = 1 := by omega
            rw [this, val_one] at h2; cases h2
        subst hc
        have LW11 := Lib.hid (LW10.out.op g1 g2 o11.wf)
        have hV0 := Value_any w11 none 0 0 (fun _ => false) (Or.inl rfl) (by omega)
        have hz : trimZ (mUn (fun _ => false) (min 0 16) : Int) (lim (min 0 16 : Nat)) = 0 := by decide
        rw [hz] at hV0
        have HV0 := Lib.hid hV0
        clear g1 g2 o11 HS hV0 hz
        go_wp2_with fail
        refine HV0.out.mono ?_
        rintro e w' ⟨rfl, rfl⟩
        go_wp2_with fail
        go_ret
        exact ⟨rfl, LW11.out.below⟩
  · rw [← hT]
    clear hT HSA HSB HRA
    go_wp2_with fail
    refine HM.out.mono ?_
    rintro e w6 ⟨b6, G6, L6, es6, rfl, hes6, f6, o6⟩
    have LW6 := Lib.hid (L5.out.op f6.rep f6.fr o6.wf)
    have V6 := Lib.hid (f6.vec (by rw [hes6, List.length_replicate]))
    have HG6 : Hid (G6.h = G.h) := f6.fr.h.trans HG3.out
    have HO6 := Lib.hid (And.intro o6 hes6)
    have hl6 := o6.lenle
    have HL6 : Hid (L6.length ≤ 100) := by show _ ≤ _; simp at hl6; omega
    have START : Hid (Fil w6 (w6.alloc (.cells (madeCells #[.int .i64 0] 17) 3)) G6 G6 L6 w6.heap.size 17 (List.replicate 0 1) (List.replicate 17 0)) := Fil.made f6.rep (Fr.refl _ _) 17
    clear f6 o6 hes6 hl6 HM L5
    go_wp2_with fail
    go_loopw [14] (fun iv wr => ∃ i : Nat, iv = .int .i64 (i : Int) ∧ i ≤ 17 ∧ Hid (Fil w6 wr G6 G6 L6 w6.heap.size 17 (List.replicate i 1) (List.replicate 17 0))) (fun iv _ => 17 - (RowKit.intOf iv).toNat)
    case atStart => exact ⟨0, rfl, by omega, START⟩
    case round =>
      obtain ⟨i, rfl, hi, HF⟩ := hrel
      by_cases hlt : i < 17
      · have hlz : (i : Int) < 17 := by omega
        have i0 : (0 : Int) ≤ (i : Int) := by omega
        have f0 := HF.out.free i
        have hl2 : i < (List.replicate 17 0).length := by rw [List.length_replicate]; exact hlt
        have c0 := HF.out.next (i := i) hl2 (by rw [List.length_replicate]; exact Nat.le_refl _)
        have HP : Hid (Fil w6 (wr.setCell ⟨w6.heap.size, i, none⟩ (.int .i64 ((1 : Nat) : Int))) G6 G6 L6 w6.heap.size 17 (List.replicate (i + 1) 1) (List.replicate 17 0)) := by
          have := HF.out.put (k := i) (by rw [List.length_replicate]) hl2 1
          rwa [← List.replicate_succ'] at this
        generalize ((List.replicate 17 0).getD i 0 : Int) = y at *
        clear HF hl2
        go_wp2_with fail
        go_roundw
        case rel => exact ⟨i + 1, by go_num, by omega, HP⟩
        case measure => simp [RowKit.intOf]; omega
      · obtain rfl : i = 17 := by omega
        have hlz : ¬ (17 : Int) < 17 := by omega
        have LWr := Lib.hid (LW6.out.op HF.out.rep HF.out.fr LW6.out.wf)
        have Vr := V6.out.fr HF.out.fr
        have VL := Lib.hid (HF.out.vec (by rw [List.length_replicate, List.length_replicate]))
        obtain ⟨wa, hwa⟩ : ∃ wa, wa = wr.alloc (.cells #[.bool false] 4) := ⟨_, rfl⟩
        have hba : Below wr.heap.size wr wa := by rw [hwa]; exact (Below.refl _ _).alloc (Nat.le_refl _) _
        have hma : ArgV (fun j => .bool ((fun _ => false) j)) wa (some ⟨wr.heap.size, 0, none⟩) 1 := by
          refine Or.inr ⟨wr.heap.size, 0, rfl, by rw [hwa]; simp, fun j hj => ?_⟩
          obtain rfl : j = 0 := by omega
          rw [hwa]; simp only [World.cell?, heap_alloc_new]; rfl
        have LWa := Lib.hid (LWr.out.after hba)
        have VLa := Lib.hid (VL.out.below hba)
        have hE := Eval_vec LWa.out.rep LWa.out.wf (some ⟨wr.heap.size, 0, none⟩) 1 1 (fun _ => false) hma (by omega) (some ⟨b6, 0, none⟩) es6 9 9 (Vr.below hba) HO6.out.2 (by omega) HO6.out.1.own (by have := HL6.out; omega)
        rw [HG6.out] at hE
        have HE := Lib.hid hE
        have HWA := Lib.hid hwa
        have vT : (TW == TW) = true := by simp
        clear hba hma Vr hE hwa HF LWr VL V6 LW6 START
        go_wp2_with fail
        rw [← HWA.out]
        refine HE.out.mono ?_
        rintro e w8 ⟨b8, rfl, _, r8, hb8⟩
        have hV := Value_ev r8 HO6.out.2 (by omega) (by omega) 9
        have hval : sg (es6.map (Gr.val (mdl (fun _ => false) 1) L6)) = TW := by
          rw [HO6.out.1.val, HVA.out]
          exact HTW.out
        rw [hval] at hV
        have HV := Lib.hid hV
        have LW8 := Lib.hid (LWa.out.after hb8)
        have VL8 := Lib.hid (VLa.out.below hb8)
        have hw1 : wid [] (List.replicate 17 1) = 1 := by decide
        have hx1 : wdE [] (List.replicate 17 1) [] = [0] := by decide
        have hy1 : wdE [] (List.replicate 17 1) (List.replicate 17 1) = [0] := by decide
        have hA := Add_any (P := False) none [] 0 (some ⟨w6.heap.size, 0, none⟩) (List.replicate 17 1) 17 ⟨LW8.out.rep, LW8.out.wf, Or.inl rfl, VL8.out, by simp, by simp, by simp, fun e he => by rw [(List.mem_replicate.1 he).2]; omega, fun p => p.elim⟩ (by have := HL6.out; omega)
        rw [hw1, hx1, hy1, List.length_replicate, HG6.out] at hA
        have HA : Hid (Calls Try.prog 45 #[.pointer (some ⟨G.h, 0, none⟩), .slice none 0 0, .slice (some ⟨w6.heap.size, 0, none⟩) 17 17] w8 (RowE w8 G6 False L6 9 1 (fun m => (addL ([0].map (Gr.val m L6)) ([0].map (Gr.val m L6)) false).1))) := hA
        clear hV hval r8 hb8 HE LWa VLa HWA hA hw1 hx1 hy1
        go_wp2_with fail
        refine HV.out.mono ?_
        rintro e w' ⟨rfl, rfl⟩
        clear HV
        go_wp2_with fail
        refine HA.out.mono ?_
        rintro e w9 ⟨b9, G9, L9, es9, rfl, hes9, f9, o9⟩
        have LW9 := Lib.hid (LW8.out.op f9.rep f9.fr o9.wf)
        have VL9 := Lib.hid (VL8.out.fr f9.fr)
        have HG9 : Hid (G9.h = G.h) := f9.fr.h.trans HG6.out
        have hl9 := o9.lenle
        have HL9 : Hid (L9.length ≤ 200) := by have := HL6.out; show _ ≤ _; omega
        have hE := Eval_vec f9.rep o9.wf none 0 0 (fun _ => false) (Or.inl rfl) (by omega) (some ⟨b9, 0, none⟩) es9 1 1 (f9.vec (by rw [hes9, List.length_replicate])) hes9 (by omega) o9.own (by have := HL9.out; omega)
        rw [HG9.out] at hE
        have HE := Lib.hid hE
        have HV9 : Hid (es9.length = 1 ∧ ∀ m, sg (es9.map (Gr.val m L9)) = 0) := ⟨hes9, fun m => by
          rw [o9.val]; simp only [List.map_cons, List.map_nil, val_zero]; decide⟩
        clear hE f9 o9 hes9 hl9 HA LW8 VL8
        go_wp2_with fail
        refine HE.out.mono ?_
        rintro e w10 ⟨b10, rfl, _, r10, hb10⟩
        have hV := Value_ev r10 HV9.out.1 (by omega) (by omega) 1
        rw [HV9.out.2] at hV
        have HV := Lib.hid hV
        have LW10 := Lib.hid (LW9.out.after hb10)
        have VL10 := Lib.hid (VL9.out.below hb10)
        clear hV r10 hb10 HE LW9 VL9
        go_wp2_with fail
        refine HV.out.mono ?_
        rintro e w' ⟨rfl, rfl⟩
        clear HV
        have hS := Some_any (P := True) LW10.out.rep LW10.out.wf (some ⟨w6.heap.size, 0, none⟩) (List.replicate 17 1) 17 VL10.out (by simp) (fun e he => by rw [(List.mem_replicate.1 he).2]; omega) (fun _ e he => by rw [(List.mem_replicate.1 he).2]; omega) (by have := HL9.out; omega)
        rw [HG9.out, List.length_replicate, show vecE (List.replicate 17 1) = [0] by decide] at hS
        have HS := Lib.hid hS
        clear hS
        go_wp2_with fail
        refine HS.out.mono ?_
        rintro e w11 ⟨G11, L11, c11, rfl, g1, g2, o11⟩
        have hc : c11 = 0 := by
          have h1 := (o11.con trivial).2 c11 (by simp)
          have h2 := o11.val (fun _ => false)
          simp [val_zero] at h2
          rcases Nat.lt_or_ge c11 1 with q | q
          · omega
          · have : c11 = 1 := by omega
            rw [this, val_one] at h2; cases h2
        subst hc
        have LW11 := Lib.hid (LW10.out.op g1 g2 o11.wf)
        have hV0 := Value_any w11 none 0 0 (fun _ => false) (Or.inl rfl) (by omega)
        have hz : trimZ (mUn (fun _ => false) (min 0 16) : Int) (lim (min 0 16 : Nat)) = 0 := by decide
        rw [hz] at hV0
        have HV0 := Lib.hid hV0
        clear g1 g2 o11 HS hV0 hz
        go_wp2_with fail
        refine HV0.out.mono ?_
        rintro e w' ⟨rfl, rfl⟩
        go_wp2_with fail
        go_ret
        exact ⟨rfl, LW11.out.below⟩
end Go.Proofs.Ytnkcdgpaphphaaa.Gr
