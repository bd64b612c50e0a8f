/- The law BitsParts as a contract. -/
import Derived.Test.YtnkcdgpaphphaaaBtZ
namespace Go.Proofs.Ytnkcdgpaphphaaa.Gr
open Go Go.RowKit Go.Lib Go.Maps

theorem trimZ_wide (n : Int) {K M : Nat} (hK : 1 ≤ K) (h : K ≤ M) : trimZ (trimZ n K) M = trimZ n K := by
  have h1 := trimZ_lt n (show 0 < K by omega)
  have h2 : 2 ^ (K - 1) ≤ 2 ^ (M - 1) := Nat.pow_le_pow_right (by omega) (by omega)
  generalize 2 ^ (K - 1) = p at *
  exact trimZ_of (by omega) (by omega) (by omega)
theorem wide_cst (n : Int) {K M : Nat} (hK : 1 ≤ K) : sg (wideL false (bitsL n K) M) = trimZ (trimZ n K) M := by
  have hl := bitsL_len n K
  have hne : bitsL n K ≠ [] := fun e => by rw [e] at hl; simp at hl; omega
  rcases Nat.lt_or_ge M K with q | q
  · rw [wide_sg_less _ _ (by omega), bits_sg]
  · obtain ⟨d, rfl⟩ : ∃ d, M = K + d := ⟨M - K, by omega⟩
    have := wide_sg_more (bitsL n K) hne d
    rw [hl] at this
    rw [this, bits_sg, trimZ_wide n hK (by omega)]
theorem wide_val (n : Int) (K M : Nat) (m : Nat → Bool) (L : List Nd) : (wideL 0 (cstE n K) M).map (Gr.val m L) = wideL false (bitsL n K) M := by
  rw [wideL_map, cstE_val, val_zero]
theorem wide_le {n : Int} {K M : Nat} : ∀ e ∈ wideL 0 (cstE n K) M, e ≤ 1 := fun e he => (wideL_mem he).elim (fun q => cstE_le _ _ e q) (fun q => by omega)
theorem Value_bits {W : World} {b K : Nat} {n : Int} (h : RowAt W b 4 K (fun i => .bool (bitI n i))) (h1 : 1 ≤ K) (h2 : K ≤ 16) :
    Calls Try.prog 36 #[.slice (some ⟨b, 0, none⟩) K K] W fun e w' => e = .returned (.int .i64 (trimZ n K)) ∧ W = w' := by
  have H := Value_any W (some ⟨b, 0, none⟩) K K _ (row_arg h) (by omega)
  have e : trimZ (mUn (bitI n) (min K 16) : Int) (lim (min K 16 : Nat)) = trimZ n K := by
    rw [show min K 16 = K by omega, lim_of h1 h2]
    have : mUn (bitI n) K = un (bitsL n K) := rfl
    rw [this, ← bits_sg n K]; unfold sg; rw [bitsL_len]
  rwa [e] at H

set_option maxRecDepth 100000 in
set_option maxHeartbeats 2000000 in
theorem BitsParts_law (n v t : Int) (W : World) (hn : -9223372036854775808 ≤ n ∧ n ≤ 9223372036854775807) :
    Calls Try.prog 7 #[.int .i64 n, .int .i64 v, .int .i64 t] W fun e w' => e = .returned (.bool true) ∧ Below W.heap.size W w' := by
  have HAW := Lib.hid (awake_bits W)
  have HTR := fun V => Lib.hid (RTrim_any n v V hn)
  have HTP := fun V => Lib.hid (Trim_any n v V)
  have HBI := fun V => Lib.hid (Bits_any n v V hn)
  have HCO := Lib.hid (fun (V : World) (G : Loc) (L : List Nd) (h : Rep V G L) => Const_any h n v hn)
  have HIN := Lib.hid (fun (V : World) (G : Loc) (L : List Nd) (h : Rep V G L) (hl : L.length < 140000) => Inputs_bits h v hl)
  obtain ⟨x, hx⟩ : ∃ x, max v 1 = x := ⟨_, rfl⟩
  obtain ⟨y, hy⟩ : ∃ y, max t 1 = y := ⟨_, rfl⟩
  have hk : min x 16 = (lim v : Int) := by rw [← hx]; exact lim_int v
  have hm : min y 16 = (lim t : Int) := by rw [← hy]; exact lim_int t
  have HLT : Hid (lim t = lim t) := rfl
  have h1 := lim_pos v
  have h2 := lim_le v
  have h3 := lim_pos t
  have h4 := lim_le t
  have HWD := Lib.hid (fun (V : World) (G : Loc) (L : List Nd) (h : Rep V G L) (a : Option Addr) (es : List Nat) (c : Nat) => Wide_row h a es c t)
  have hTb := trimZ_lt n (show 0 < lim v by omega)
  have hTb2 : (2 ^ (lim v - 1) : Nat) ≤ 2 ^ 16 := Nat.pow_le_pow_right (by omega) (by omega)
  have HTR2 := fun V => Lib.hid (RTrim_any (trimZ n (lim v)) t V (by generalize 2 ^ (lim v - 1) = p at *; omega))
  clear hTb hTb2
  generalize lim v = K at *
  generalize lim t = M at *
  have HWC : Hid (sg (wideL false (bitsL n K) M) = trimZ (trimZ n K) M) := wide_cst n h1
  obtain ⟨T, hT⟩ : ∃ T, T = trimZ n K := ⟨_, rfl⟩
  have HTE := Lib.hid hT
  rw [← hT] at HTR HTP HTR2 HWC
  clear hT HLT
  obtain ⟨U, hU⟩ : ∃ U, U = trimZ T M := ⟨_, rfl⟩
  rw [← hU] at HTR2 HWC
  clear hU
  go_enter Try.func7, Try.ntmps7
  go_wp2_with fail
  refine HAW.out.mono ?_
  rintro e w1 ⟨rfl, hb1⟩
  have HB1 := Lib.hid hb1
  clear hb1 HAW
  have HKM := Lib.hid (And.intro h1 (And.intro h2 (And.intro h3 h4)))
  have vT : (T != T) = false := by simp
  have vU : (U == U) = true := by simp
  go_wp2_with fail
  refine (HTR _).out.mono ?_
  rintro e w' ⟨rfl, rfl⟩
  go_wp2_with fail
  refine (HTP _).out.mono ?_
  rintro e w' ⟨rfl, rfl⟩
  go_wp2_with fail
  refine (HBI _).out.mono ?_
  rintro e w2 ⟨rfl, hb2, hr2⟩
  have hV := Value_bits hr2 HKM.out.1 HKM.out.2.1
  rw [← HTE.out] at hV
  have HV := Lib.hid hV
  have HB2 := Lib.hid (HB1.out.trans (hb2.mono HB1.out.size))
  clear hV hb2 hr2 HB1
  go_wp2_with fail
  refine HV.out.mono ?_
  rintro e w' ⟨rfl, rfl⟩
  clear HV
  go_wp2_with fail
  refine (HBI _).out.mono ?_
  rintro e w3 ⟨rfl, hb3, _⟩
  have HB3 := Lib.hid (HB2.out.trans (hb3.mono HB2.out.size))
  have HN := Lib.hid (New_any w3)
  clear hb3 HB2
  go_wp2_with fail
  refine HN.out.mono ?_
  rintro e w4 ⟨G, rfl, r1, r2, r3⟩
  have LW_4 : Hid (BLaw W w4 G []) := ⟨r1, Wf.nil, HB3.out.trans (r2.mono HB3.out.size), fun k hk => Nat.le_trans HB3.out.size (r3 k hk)⟩
  have HC := Lib.hid (HCO.out w4 G [] r1)
  clear r1 r2 r3 HN HB3
  go_wp2_with fail
  refine HC.out.mono ?_
  rintro e w5 ⟨b5, rfl, hb5, f5⟩
  have LW_5 := Lib.hid (LW_4.out.after hb5)
  have hW := HWD.out w5 G [] LW_5.out.rep (some ⟨b5, 0, none⟩) (cstE n K) K (f5.vec (by rw [cstE_len, List.length_replicate])) (by rw [cstE_len]; have := HKM.out; omega)
  rw [vecE_of (by rw [cstE_len]; exact HKM.out.1) (by rw [cstE_len]; exact HKM.out.2.1), cstE_len] at hW
  have HW := Lib.hid hW
  clear hW f5 hb5 HC LW_4
  go_wp2_with fail
  refine HW.out.mono ?_
  rintro e w6 ⟨b6, rfl, f6⟩
  have LW_6 := Lib.hid (LW_5.out.op f6.rep f6.fr Wf.nil)
  have hwl : (wideL 0 (cstE n K) M).length = M := wideL_len _ _ _
  have hE := Eval_vec f6.rep Wf.nil none 0 0 (fun _ => false) (Or.inl rfl) (by omega) (some ⟨b6, 0, none⟩) (wideL 0 (cstE n K) M) M M (f6.vec (by rw [hwl, List.length_replicate])) hwl (by have := HKM.out; omega) (fun e he => by have := wide_le e he; omega) (by decide)
  have HE := Lib.hid hE
  clear hE f6 hwl HW LW_5
  go_wp2_with fail
  refine (HTR2 _).out.mono ?_
  rintro e w' ⟨rfl, rfl⟩
  go_wp2_with fail
  refine HE.out.mono ?_
  rintro e w7 ⟨b7, rfl, _, r7, hb7⟩
  have hV := Value_ev r7 (wideL_len _ _ _) HKM.out.2.2.1 HKM.out.2.2.2 M
  rw [wide_val, HWC.out] at hV
  have HV := Lib.hid hV
  have LW_7 := Lib.hid (LW_6.out.after hb7)
  clear hV r7 hb7 HE LW_6
  go_wp2_with fail
  refine HV.out.mono ?_
  rintro e w' ⟨rfl, rfl⟩
  have HI := Lib.hid (HIN.out w7 G [] LW_7.out.rep (by decide))
  clear HV
  go_wp2_with fail
  refine HI.out.mono ?_
  rintro e w8 ⟨b8, G8, rfl, f8⟩
  have LW_8 := Lib.hid (LW_7.out.op f8.rep f8.fr (wf_ins Wf.nil K))
  clear f8 HI LW_7
  go_wp2_with fail
  go_ret
  exact ⟨rfl, LW_8.out.below⟩
end Go.Proofs.Ytnkcdgpaphphaaa.Gr
