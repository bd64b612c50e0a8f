/- The law BitsWide as a contract. -/
import Derived.Test.YtnkcdgpaphphaaaBtPa
namespace Go.Proofs.Ytnkcdgpaphphaaa.Gr
open Go Go.RowKit Go.Lib Go.Maps

theorem trimZ_less (n : Int) {K M : Nat} (h : M ≤ K) : trimZ (trimZ n K) M = trimZ n M := by
  unfold trimZ
  exact Int.bmod_bmod_of_dvd (Nat.pow_dvd_pow 2 h)

set_option maxRecDepth 100000 in
set_option maxHeartbeats 2000000 in
theorem BitsWide_law (n : Int) (p q : Nat) (W : World) (hn : -9223372036854775808 ≤ n ∧ n ≤ 9223372036854775807) (hp : p < 256) (hq : q < 256) :
    Calls Try.prog 10 #[.int .i64 n, .agg #[.int .u8 (p : Int), .int .u8 (q : Int)]] W fun e w' => e = .returned (.bool true) ∧ Below W.heap.size W w' := by
  have HAW := fun V => Lib.hid (awake_bits V)
  obtain ⟨a0, ha0⟩ : ∃ a0, a0 = p % 16 := ⟨_, rfl⟩
  obtain ⟨b0, hb0⟩ : ∃ b0, b0 = q % 16 := ⟨_, rfl⟩
  have e1 : (p : Int).tmod 16 = (a0 : Int) := by rw [Int.tmod_eq_emod_of_nonneg (by omega), ha0]; omega
  have e2 : (q : Int).tmod 16 = (b0 : Int) := by rw [Int.tmod_eq_emod_of_nonneg (by omega), hb0]; omega
  have ha16 : (a0 : Int) < 16 := by omega
  have hb16 : (b0 : Int) < 16 := by omega
  obtain ⟨K, hK⟩ : ∃ K, K = a0 + 1 := ⟨_, rfl⟩
  obtain ⟨M, hM⟩ : ∃ M, M = b0 + 1 := ⟨_, rfl⟩
  have e3 : (1 : Int) + (a0 : Int) = (K : Int) := by omega
  have e4 : (1 : Int) + (b0 : Int) = (M : Int) := by omega
  have h1 : 1 ≤ K := by omega
  have h2 : K ≤ 16 := by omega
  have h3 : 1 ≤ M := by omega
  have h4 : M ≤ 16 := by omega
  have HKM := Lib.hid (And.intro h1 (And.intro h2 (And.intro h3 h4)))
  have HN0 := Lib.hid hn
  have HLK : Hid (lim (K : Int) = K) := lim_of h1 h2
  have HLM : Hid (lim (M : Int) = M) := lim_of h3 h4
  have HCELL : Hid (∀ w', Below (W.alloc (.cells #[.int .u8 (p : Int), .int .u8 (q : Int)] 48)).heap.size (W.alloc (.cells #[.int .u8 (p : Int), .int .u8 (q : Int)] 48)) w' → w'.cell? ⟨W.heap.size, 0, none⟩ = some (.int .u8 (p : Int)) ∧ w'.cell? ⟨W.heap.size, 1, none⟩ = some (.int .u8 (q : Int))) := by
    intro w' hb
    refine ⟨(hb.cell (p := ⟨W.heap.size, 0, none⟩) (by simp)).trans ?_, (hb.cell (p := ⟨W.heap.size, 1, none⟩) (by simp)).trans ?_⟩
    · simp only [World.cell?, heap_alloc_new]; rfl
    · simp only [World.cell?, heap_alloc_new]; rfl
  have WW : Hid (IntKind.i64.wrap (p : Int) = (p : Int) ∧ IntKind.i64.wrap (q : Int) = (q : Int) ∧ IntKind.i64.wrap (K : Int) = (K : Int) ∧ IntKind.i64.wrap (M : Int) = (M : Int)) := ⟨wrap_i64 (by omega) (by omega), wrap_i64 (by omega) (by omega), wrap_i64 (by omega) (by omega), wrap_i64 (by omega) (by omega)⟩
  clear ha0 hb0 hK hM hn hp hq h1 h2 h3 h4
  go_enter Try.func10, Try.ntmps10
  go_wp2_with fail
  refine (HAW _).out.mono ?_
  rintro e w1 ⟨rfl, hb1⟩
  obtain ⟨cc0, cc1⟩ := HCELL.out w1 hb1
  have HB1 : Hid (Below W.heap.size W w1) := ((Below.refl _ _).alloc (Nat.le_refl _) _).trans (hb1.mono (by simp))
  clear hb1 HAW HCELL
  go_wp2_with fail
  refine wp_region_H (S := fun w' => w'.cell? ⟨W.heap.size, 0, none⟩ = some (.int .u8 (p : Int)) ∧ w'.cell? ⟨W.heap.size, 1, none⟩ = some (.int .u8 (q : Int))) 12 (by kernel_rfl) (⟨cc0, cc1⟩) (fun hSx => ?_)
  refine wpAnyH_takeB (i := 0) (v := ?vya_0) rfl (by kernel_rfl) (fun _ _ _ h => h) rfl ?ya_0 hSx ?_
  case ya_0 => (intro w' hSw; (try dsimp only at hSw); go_split_ands; go_simp; try with_reducible rfl)
  try simp only [Act.put, List.getElem_toArray, List.getElem_cons_zero, List.setIfInBounds_toArray, List.set_cons_zero, List.set_cons_succ]
  refine wpAnyH_takeB (i := 1) (v := ?vya_1) rfl (by kernel_rfl) (fun _ _ _ h => h) rfl ?ya_1 hSx ?_
  case ya_1 => (intro w' hSw; (try dsimp only at hSw); go_split_ands; go_simp; try with_reducible rfl)
  try simp only [Act.put, List.getElem_toArray, List.getElem_cons_succ, List.getElem_cons_zero, List.setIfInBounds_toArray, List.set_cons_zero, List.set_cons_succ]
  refine wpAnyH_takeB (i := 2) (v := ?vya_2) rfl (by kernel_rfl) (fun _ _ _ h => h) rfl ?ya_2 hSx ?_
  case ya_2 => (intro w' hSw; (try dsimp only at hSw); go_split_ands; go_simp; try with_reducible rfl)
  try simp only [Act.put, List.getElem_toArray, List.getElem_cons_succ, List.getElem_cons_zero, List.setIfInBounds_toArray, List.set_cons_zero, List.set_cons_succ]
  refine wpAnyH_takeB (i := 3) (v := ?vya_3) rfl (by kernel_rfl) (fun _ _ _ h => h) rfl ?ya_3 hSx ?_
  case ya_3 => (intro w' hSw; (try dsimp only at hSw); go_split_ands; go_simp; try with_reducible rfl)
  try simp only [Act.put, List.getElem_toArray, List.getElem_cons_succ, List.getElem_cons_zero, List.setIfInBounds_toArray, List.set_cons_zero, List.set_cons_succ]
  refine wpAnyH_takeB (i := 4) (v := ?vya_4) rfl (by kernel_rfl) (fun _ _ _ h => h) rfl ?ya_4 hSx ?_
  case ya_4 => (intro w' hSw; (try dsimp only at hSw); go_split_ands; go_simp; try with_reducible rfl)
  try simp only [Act.put, List.getElem_toArray, List.getElem_cons_succ, List.getElem_cons_zero, List.setIfInBounds_toArray, List.set_cons_zero, List.set_cons_succ]
  refine wpAnyH_takeB (i := 5) (v := ?vya_5) rfl (by kernel_rfl) (fun _ _ _ h => h) rfl ?ya_5 hSx ?_
  case ya_5 => (intro w' hSw; (try dsimp only at hSw); go_split_ands; go_simp; try with_reducible rfl)
  try simp only [Act.put, List.getElem_toArray, List.getElem_cons_succ, List.getElem_cons_zero, List.setIfInBounds_toArray, List.set_cons_zero, List.set_cons_succ]
  refine wpAnyH_takeB (i := 6) (v := ?vya_6) rfl (by kernel_rfl) (fun _ _ _ h => h) rfl ?ya_6 hSx ?_
  case ya_6 => (intro w' hSw; (try dsimp only at hSw); go_split_ands; go_simp; try with_reducible rfl)
  try simp only [Act.put, List.getElem_toArray, List.getElem_cons_succ, List.getElem_cons_zero, List.setIfInBounds_toArray, List.set_cons_zero, List.set_cons_succ]
  refine wpAnyH_takeB (i := 7) (v := ?vya_7) rfl (by kernel_rfl) (fun _ _ _ h => h) rfl ?ya_7 hSx ?_
  case ya_7 => (intro w' hSw; (try dsimp only at hSw); go_split_ands; go_simp; try with_reducible rfl)
  try simp only [Act.put, List.getElem_toArray, List.getElem_cons_succ, List.getElem_cons_zero, List.setIfInBounds_toArray, List.set_cons_zero, List.set_cons_succ]
  refine wpAnyH_takeB (i := 8) (v := ?vya_8) rfl (by kernel_rfl) (fun _ _ _ h => h) rfl ?ya_8 hSx ?_
  case ya_8 => (intro w' hSw; (try dsimp only at hSw); go_split_ands; go_simp; try with_reducible rfl)
  try simp only [Act.put, List.getElem_toArray, List.getElem_cons_succ, List.getElem_cons_zero, List.setIfInBounds_toArray, List.set_cons_zero, List.set_cons_succ]
  refine wpAnyH_takeB (i := 9) (v := ?vya_9) rfl (by kernel_rfl) (fun _ _ _ h => h) rfl ?ya_9 hSx ?_
  case ya_9 => (intro w' hSw; (try dsimp only at hSw); go_split_ands; go_simp; try with_reducible rfl)
  try simp only [Act.put, List.getElem_toArray, List.getElem_cons_succ, List.getElem_cons_zero, List.setIfInBounds_toArray, List.set_cons_zero, List.set_cons_succ]
  refine wpAnyH_takeB (i := 10) (v := ?vya_10) rfl (by kernel_rfl) (fun _ _ _ h => h) rfl ?ya_10 hSx ?_
  case ya_10 => (intro w' hSw; (try dsimp only at hSw); go_split_ands; go_simp; try with_reducible rfl)
  try simp only [Act.put, List.getElem_toArray, List.getElem_cons_succ, List.getElem_cons_zero, List.setIfInBounds_toArray, List.set_cons_zero, List.set_cons_succ]
  refine wpAnyH_takeB (i := 11) (v := ?vya_11) rfl (by kernel_rfl) (fun _ _ _ h => h) rfl ?ya_11 hSx ?_
  case ya_11 => (intro w' hSw; (try dsimp only at hSw); go_split_ands; go_simp; try with_reducible rfl)
  try simp only [Act.put, List.getElem_toArray, List.getElem_cons_succ, List.getElem_cons_zero, List.setIfInBounds_toArray, List.set_cons_zero, List.set_cons_succ]
  refine wpAnyH_done (by kernel_rfl) ?_ _
  clear hSx
  simp only [WW.out.1, WW.out.2.1, e1, e2, e3, e4, WW.out.2.2.1, WW.out.2.2.2]
  have HB2 : Hid (Below W.heap.size W w1.drew) := HB1.out.trans ⟨rfl, rfl, rfl, Nat.le_refl _, fun _ _ => rfl⟩
  clear cc0 cc1 HB1
  generalize w1.drew = w2 at *
  have HN := Lib.hid (New_any w2)
  go_wp2_with fail
  refine HN.out.mono ?_
  rintro e w3 ⟨G, rfl, r1, r2, r3⟩
  have LW3 : Hid (BLaw W w3 G []) := ⟨r1, Wf.nil, HB2.out.trans (r2.mono HB2.out.size), fun k hk => Nat.le_trans HB2.out.size (r3 k hk)⟩
  have hC := Const_any r1 n (K : Int) HN0.out
  rw [HLK.out] at hC
  have HC := Lib.hid hC
  clear r1 r2 r3 hC HN HB2
  go_wp2_with fail
  refine HC.out.mono ?_
  rintro e w5 ⟨b5, rfl, hb5, f5⟩
  have LW5 := Lib.hid (LW3.out.after hb5)
  have hW := Wide_row LW5.out.rep (some ⟨b5, 0, none⟩) (cstE n K) K (M : Int) (f5.vec (by rw [cstE_len, List.length_replicate])) (by rw [cstE_len]; have := HKM.out; omega)
  rw [vecE_of (by rw [cstE_len]; exact HKM.out.1) (by rw [cstE_len]; exact HKM.out.2.1), cstE_len, HLM.out] at hW
  have HW := Lib.hid hW
  clear hW f5 hb5 HC LW3
  go_wp2_with fail
  refine HW.out.mono ?_
  rintro e w6 ⟨b6, rfl, f6⟩
  have LW6 := Lib.hid (LW5.out.op f6.rep f6.fr Wf.nil)
  have hwl : (wideL 0 (cstE n K) M).length = M := wideL_len _ _ _
  have hE := Eval_vec f6.rep Wf.nil none 0 0 (fun _ => false) (Or.inl rfl) (by omega) (some ⟨b6, 0, none⟩) (wideL 0 (cstE n K) M) M M (f6.vec (by rw [hwl, List.length_replicate])) hwl (by have := HKM.out; omega) (fun e he => by have := wide_le e he; omega) (by decide)
  have HE := Lib.hid hE
  clear hE f6 hwl HW LW5
  go_wp2_with fail
  refine HE.out.mono ?_
  rintro e w7 ⟨b7, rfl, _, r7, hb7⟩
  have hV := Value_ev r7 (wideL_len _ _ _) HKM.out.2.2.1 HKM.out.2.2.2 M
  rw [wide_val, wide_cst n HKM.out.1] at hV
  have LW7 := Lib.hid (LW6.out.after hb7)
  rcases Nat.lt_or_ge M K with hMK | hMK
  · have hlz : ¬ (K : Int) ≤ (M : Int) := by omega
    rw [trimZ_less n (by omega)] at hV
    have HV := Lib.hid hV
    have hR := RTrim_any n (M : Int) w7 HN0.out
    rw [HLM.out] at hR
    have HR := Lib.hid hR
    clear hV hR r7 hb7 HE LW6
    have hTT : (trimZ n M == trimZ n M) = true := by simp
    generalize trimZ n M = T at *
    go_wp2_with fail
    refine HV.out.mono ?_
    rintro e w' ⟨rfl, rfl⟩
    go_wp2_with fail
    refine HR.out.mono ?_
    rintro e w' ⟨rfl, rfl⟩
    go_wp2_with fail
    go_ret
    exact ⟨rfl, LW7.out.below⟩
  · have hlz : (K : Int) ≤ (M : Int) := by omega
    rw [trimZ_wide n HKM.out.1 hMK] at hV
    have HV := Lib.hid hV
    have hR := RTrim_any n (K : Int) w7 HN0.out
    rw [HLK.out] at hR
    have HR := Lib.hid hR
    clear hV hR r7 hb7 HE LW6
    have hTT : (trimZ n K == trimZ n K) = true := by simp
    generalize trimZ n K = T at *
    go_wp2_with fail
    refine HV.out.mono ?_
    rintro e w' ⟨rfl, rfl⟩
    go_wp2_with fail
    refine HR.out.mono ?_
    rintro e w' ⟨rfl, rfl⟩
    go_wp2_with fail
    go_ret
    exact ⟨rfl, LW7.out.below⟩
end Go.Proofs.Ytnkcdgpaphphaaa.Gr
