/- The law BitsConst as a contract. -/
import Derived.Test.YtnkcdgpaphphaaaBtDo2
namespace Go.Proofs.Ytnkcdgpaphphaaa.Gr
open Go Go.RowKit Go.Lib Go.Maps

/-- What the law's loop holds: the graph has no node, the two constants lie beside it. -/
def CstI (W wr : World) (h : Nat) (bx by1 : Nat) (a b : Int) (k : Nat) : Prop :=
  ∃ G : Loc, G.h = h ∧ BLaw W wr G [] ∧ VX True wr G [] (some ⟨bx, 0, none⟩) (cstE a k) k (fun _ => bitsL a k) ∧ VX True wr G [] (some ⟨by1, 0, none⟩) (cstE b k) k (fun _ => bitsL b k)
theorem cst_vx {P : Prop} {w wr : World} {G : Loc} {L : List Nd} {n : Int} {b k : Nat} (h : Fil w wr G G L b k (cstE n k) (List.replicate k 0)) : VX P wr G L (some ⟨b, 0, none⟩) (cstE n k) k (fun _ => bitsL n k) :=
  ⟨h.vec (by rw [cstE_len, List.length_replicate]), cstE_len _ _, cst_lt, fun m => cstE_val n k m _, fun _ => cstE_le n k⟩

set_option maxRecDepth 100000 in
set_option maxHeartbeats 2000000 in
theorem BitsConst_law (a b : Int) (t : Nat) (W : World) (ha : -9223372036854775808 ≤ a ∧ a ≤ 9223372036854775807) (hb : -9223372036854775808 ≤ b ∧ b ≤ 9223372036854775807) (ht : t < 256) :
    Calls Try.prog 6 #[.int .i64 a, .int .i64 b, .int .u8 (t : Int)] W fun e w' => e = .returned (.bool true) ∧ Below W.heap.size W w' := by
  have HAW := Lib.hid (awake_bits W)
  obtain ⟨k0, hk0⟩ : ∃ k0, k0 = t % 16 := ⟨_, rfl⟩
  obtain ⟨k, hk⟩ : ∃ k, k = k0 + 1 := ⟨_, rfl⟩
  have e1 : (t : Int).tmod 16 = (k0 : Int) := by rw [Int.tmod_eq_emod_of_nonneg (by omega), hk0]; omega
  have e2 : (1 : Int) + (k0 : Int) = (k : Int) := by omega
  have hk9 : k ≤ 16 := by omega
  have hk1 : 1 ≤ k := by omega
  have HK := Lib.hid (And.intro hk1 hk9)
  have k09 : (k0 : Int) < 16 := by omega
  have HL : Hid (lim (k : Int) = k) := lim_of hk1 (by omega)
  have HAB := Lib.hid (And.intro ha hb)
  clear hk hk0
  have hp16 : 2 ^ (k - 1) ≤ 2 ^ 15 := Nat.pow_le_pow_right (by omega) (by omega)
  have HTA : Hid (-32768 ≤ trimZ a k ∧ trimZ a k ≤ 32768) := by
    have := trimZ_lt a (show 0 < k by omega)
    generalize 2 ^ (k - 1) = p at *
    show _ ∧ _
    omega
  have HTB : Hid (-32768 ≤ trimZ b k ∧ trimZ b k ≤ 32768) := by
    have := trimZ_lt b (show 0 < k by omega)
    generalize 2 ^ (k - 1) = p at *
    show _ ∧ _
    omega
  have hRA := fun V => RTrim_any a (k : Int) V ha
  have hRB := fun V => RTrim_any b (k : Int) V hb
  rw [HL.out] at hRA hRB
  have HRA := Lib.hid hRA
  have HRB := Lib.hid hRB
  have HSG := Lib.hid (And.intro (bits_sg a k) (bits_sg b k))
  have HNE : Hid (bitsL a k ≠ []) := fun e => by have := bitsL_len a k; rw [e] at this; simp at this; omega
  clear ha hb hp16 hRA hRB
  go_enter Try.func6, Try.ntmps6
  go_wp2_with fail
  refine HAW.out.mono ?_
  rintro e w1 ⟨rfl, hb1⟩
  have HB1 := Lib.hid hb1
  have HN := Lib.hid (New_any w1)
  clear hb1 HAW
  go_wp2_with fail
  refine HN.out.mono ?_
  rintro e w2 ⟨G, rfl, r1, r2, r3⟩
  have L2 : Hid (BLaw W w2 G []) := ⟨r1, Wf.nil, HB1.out.trans (r2.mono HB1.out.size), fun k hk => Nat.le_trans HB1.out.size (r3 k hk)⟩
  have hC := Const_any r1 a (k : Int) HAB.out.1
  rw [HL.out] at hC
  have HC := Lib.hid hC
  clear r1 r2 r3 hC HN HB1
  go_wp2_with fail
  refine HC.out.mono ?_
  rintro e w3 ⟨bx, rfl, hb3, f3⟩
  have L3 := Lib.hid (L2.out.after hb3)
  have X3 : Hid (VX True w3 G [] (some ⟨bx, 0, none⟩) (cstE a k) k (fun _ => bitsL a k)) := cst_vx f3
  have hC := Const_any L3.out.rep b (k : Int) HAB.out.2
  rw [HL.out] at hC
  have HC2 := Lib.hid hC
  clear hb3 f3 hC HC L2
  go_wp2_with fail
  refine HC2.out.mono ?_
  rintro e w4 ⟨by1, rfl, hb4, f4⟩
  have ST : Hid (CstI W w4 G.h bx by1 a b k) := ⟨G, rfl, L3.out.after hb4, X3.out.after hb4, cst_vx f4⟩
  clear hb4 f4 HC2 L3 X3
  generalize G.h = gh at *
  go_wp2_with fail
  refine (HRA.out _).mono ?_
  rintro e w' ⟨rfl, rfl⟩
  go_wp2_with fail
  refine (HRB.out _).mono ?_
  rintro e w' ⟨rfl, rfl⟩
  clear HRA HRB
  obtain ⟨TA, hTA⟩ : ∃ TA, TA = trimZ a k := ⟨_, rfl⟩
  obtain ⟨TB, hTB⟩ : ∃ TB, TB = trimZ b k := ⟨_, rfl⟩
  rw [← hTA] at HTA HSG ⊢
  rw [← hTB] at HTB HSG ⊢
  clear hTA hTB
  go_wp2_with fail
  go_loopw [11] (fun iv wr => ∃ op : Nat, iv = .int .i64 (op : Int) ∧ op ≤ 5 ∧ Hid (CstI W wr gh bx by1 a b k)) (fun iv _ => 5 - (RowKit.intOf iv).toNat)
  case atStart => exact ⟨0, rfl, by omega, ST⟩
  case round =>
    obtain ⟨op, rfl, hop, HI⟩ := hrel
    by_cases hlt : op < 5
    · have hlz : (op : Int) < 5 := by omega
      have o0 : (0 : Int) ≤ (op : Int) := by omega
      obtain ⟨G1, hG1, q1, q2, q3⟩ := HI.out
      have hD := do_vx op hlt q1.rep q1.wf q2 q3 HK.out.1 HK.out.2 (by decide) k k
      rw [hG1] at hD
      have HD := Lib.hid hD
      have HQ := Lib.hid (And.intro q1 (And.intro q2 (And.intro q3 hG1)))
      have HDO := Lib.hid (RDo_any op hlt TA TB (k : Int))
      have HLT := Lib.hid hlt
      clear q1 q2 q3 hG1 hD
      by_cases h3 : 3 ≤ op
      · have h3z : (3 : Int) ≤ (op : Int) := by omega
        by_cases h12 : 12 < k
        · have h12z : (12 : Int) < (k : Int) := by omega
          go_wp2_with fail
          go_roundw
          case rel => exact ⟨op + 1, by go_num, by omega, HI⟩
          case measure => simp [RowKit.intOf]; omega
        · have h12z : ¬ (12 : Int) < (k : Int) := by omega
          go_wp2_with fail
          refine HD.out.mono ?_
          rintro e w6 ⟨b6, c6, G6, L6, es6, rfl, g1, g2, vx, ho⟩
          obtain ⟨rfl, _⟩ := ho.con trivial
          have LW6 := Lib.hid (HQ.out.1.op g1 g2 ho.wf)
          have ST6 : Hid (CstI W w6 gh bx by1 a b k) := ⟨G6, g2.h.trans HQ.out.2.2.2, LW6.out, HQ.out.2.1.op g2 ho, HQ.out.2.2.1.op g2 ho⟩
          have hE := Eval_vec g1 ho.wf none 0 0 (fun _ => false) (Or.inl rfl) (by omega) (some ⟨b6, 0, none⟩) es6 c6 k vx.vec vx.len (by have := HK.out; omega) vx.own (by decide)
          rw [g2.h, HQ.out.2.2.2] at hE
          have HE := Lib.hid hE
          have VX6 := Lib.hid vx
          clear hE g1 g2 vx ho HD
          go_wp2_with fail
          refine HE.out.mono ?_
          rintro e w7 ⟨b7, rfl, _, r7, hb7⟩
          have hV := Value_ev r7 VX6.out.len HK.out.1 HK.out.2 k
          rw [VX6.out.val, do_sg op _ _ (by rw [bitsL_len, bitsL_len]) HNE.out, HSG.out.1, HSG.out.2, bitsL_len] at hV
          have HV := Lib.hid hV
          have ST7 : Hid (CstI W w7 gh bx by1 a b k) := by
            obtain ⟨G', h1, h2, h3, h4⟩ := ST6.out
            have hbb : Below w6.heap.size w6 w7 := hb7
            exact ⟨G', h1, h2.after hbb, h3.after hbb, h4.after hbb⟩
          have hDD := HDO.out w7 HTA.out HTB.out
          rw [HL.out] at hDD
          have HDD := Lib.hid hDD
          clear hV r7 hb7 HE hDD ST6
          have hne : (doZ op TA TB k != doZ op TA TB k) = false := by simp
          generalize doZ op TA TB k = z at *
          go_wp2_with fail
          refine HV.out.mono ?_
          rintro e w' ⟨rfl, rfl⟩
          go_wp2_with fail
          refine HDD.out.mono ?_
          rintro e w' ⟨rfl, rfl⟩
          go_wp2_with fail
          go_roundw
          case rel => exact ⟨op + 1, by go_num, by have := HLT.out; omega, ST7⟩
          case measure => have := HLT.out; simp [RowKit.intOf]; omega
      · have h3z : ¬ (3 : Int) ≤ (op : Int) := by omega
        go_wp2_with fail
        refine HD.out.mono ?_
        rintro e w6 ⟨b6, c6, G6, L6, es6, rfl, g1, g2, vx, ho⟩
        obtain ⟨rfl, _⟩ := ho.con trivial
        have LW6 := Lib.hid (HQ.out.1.op g1 g2 ho.wf)
        have ST6 : Hid (CstI W w6 gh bx by1 a b k) := ⟨G6, g2.h.trans HQ.out.2.2.2, LW6.out, HQ.out.2.1.op g2 ho, HQ.out.2.2.1.op g2 ho⟩
        have hE := Eval_vec g1 ho.wf none 0 0 (fun _ => false) (Or.inl rfl) (by omega) (some ⟨b6, 0, none⟩) es6 c6 k vx.vec vx.len (by have := HK.out; omega) vx.own (by decide)
        rw [g2.h, HQ.out.2.2.2] at hE
        have HE := Lib.hid hE
        have VX6 := Lib.hid vx
        clear hE g1 g2 vx ho HD
        go_wp2_with fail
        refine HE.out.mono ?_
        rintro e w7 ⟨b7, rfl, _, r7, hb7⟩
        have hV := Value_ev r7 VX6.out.len HK.out.1 HK.out.2 k
        rw [VX6.out.val, do_sg op _ _ (by rw [bitsL_len, bitsL_len]) HNE.out, HSG.out.1, HSG.out.2, bitsL_len] at hV
        have HV := Lib.hid hV
        have ST7 : Hid (CstI W w7 gh bx by1 a b k) := by
          obtain ⟨G', h1, h2, h3, h4⟩ := ST6.out
          have hbb : Below w6.heap.size w6 w7 := hb7
          exact ⟨G', h1, h2.after hbb, h3.after hbb, h4.after hbb⟩
        have hDD := HDO.out w7 HTA.out HTB.out
        rw [HL.out] at hDD
        have HDD := Lib.hid hDD
        clear hV r7 hb7 HE hDD ST6
        have hne : (doZ op TA TB k != doZ op TA TB k) = false := by simp
        generalize doZ op TA TB k = z at *
        go_wp2_with fail
        refine HV.out.mono ?_
        rintro e w' ⟨rfl, rfl⟩
        go_wp2_with fail
        refine HDD.out.mono ?_
        rintro e w' ⟨rfl, rfl⟩
        go_wp2_with fail
        go_roundw
        case rel => exact ⟨op + 1, by go_num, by have := HLT.out; omega, ST7⟩
        case measure => have := HLT.out; simp [RowKit.intOf]; omega
    · obtain rfl : op = 5 := by omega
      obtain ⟨G1, hG1, q1, q2, q3⟩ := HI.out
      have hN := Nodes_any q1.rep 1 rfl
      rw [hG1] at hN
      have HN := Lib.hid hN
      have hE := Eval_vec q1.rep q1.wf none 0 0 (fun _ => false) (Or.inl rfl) (by omega) (some ⟨bx, 0, none⟩) (cstE a k) k k q2.vec q2.len (by have := HK.out; omega) q2.own (by decide)
      rw [hG1] at hE
      have HE := Lib.hid hE
      have HQ := Lib.hid (And.intro q1 q2)
      have vT : (TA == TA) = true := by simp
      clear q1 q2 q3 hG1 hN hE HI
      go_wp2_with fail
      refine HN.out.mono ?_
      rintro e w' ⟨rfl, rfl⟩
      go_wp2_with fail
      refine HE.out.mono ?_
      rintro e w6 ⟨b6, rfl, _, r6, hb6⟩
      have hV := Value_ev r6 HQ.out.2.len HK.out.1 HK.out.2 k
      rw [HQ.out.2.val, HSG.out.1] at hV
      have HV := Lib.hid hV
      have LZ := Lib.hid (HQ.out.1.after hb6)
      clear hV r6 hb6 HE
      go_wp2_with fail
      refine HV.out.mono ?_
      rintro e w' ⟨rfl, rfl⟩
      go_wp2_with fail
      go_ret
      exact ⟨rfl, LZ.out.below⟩
end Go.Proofs.Ytnkcdgpaphphaaa.Gr
