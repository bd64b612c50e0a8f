/- The law BitsDo as a contract. -/
import Derived.Test.YtnkcdgpaphphaaaBtPa
import Derived.Test.YtnkcdgpaphphaaaBtDw
import Derived.Test.YtnkcdgpaphphaaaBtDo2
import Derived.Test.YtnkcdgpaphphaaaBtR
namespace Go.Proofs.Ytnkcdgpaphphaaa.Gr
open Go Go.RowKit Go.Lib Go.Maps

/-- What the loop over the acts keeps. -/
def DoS (W : World) (h : Nat) (xa ya ga : Option Addr) (xs ys : List Nat) (K M : Nat) (F H : (Nat → Bool) → List Bool) (bs : List Bool) (op : Nat) (wr : World) : Prop :=
  ∃ (G : Loc) (N : List Nd), BLaw W wr G N ∧ G.h = h ∧ N.length ≤ 100 + 4200 * op ∧ VX False wr G N xa xs K F ∧ VX False wr G N ya ys M H ∧ ModV wr G ga bs

set_option maxRecDepth 100000 in
set_option maxHeartbeats 4000000 in
theorem BitsDo_law (a b : Int) (p q : Nat) (W : World) (ha : -9223372036854775808 ≤ a ∧ a ≤ 9223372036854775807) (hb : -9223372036854775808 ≤ b ∧ b ≤ 9223372036854775807) (hp : p < 256) (hq : q < 256) :
    Calls Try.prog 5 #[.int .i64 a, .int .i64 b, .agg #[.int .u8 (p : Int), .int .u8 (q : Int)]] W fun e w' => e = .returned (.bool true) ∧ Below W.heap.size W w' := by
  have HAW := fun V => Lib.hid (awake_bits V)
  obtain ⟨ib, hib, hzb0, hzb1, hzb2⟩ := info_parts infoBool
  obtain ⟨a0, ha0⟩ : ∃ a0, a0 = p % 10 := ⟨_, rfl⟩
  obtain ⟨b0, hb0⟩ : ∃ b0, b0 = q % 10 := ⟨_, rfl⟩
  have e1 : (p : Int).tmod 10 = (a0 : Int) := by rw [Int.tmod_eq_emod_of_nonneg (by omega), ha0]; omega
  have e2 : (q : Int).tmod 10 = (b0 : Int) := by rw [Int.tmod_eq_emod_of_nonneg (by omega), hb0]; omega
  have ha16 : (a0 : Int) < 10 := by omega
  have hb16 : (b0 : Int) < 10 := by omega
  obtain ⟨K, hK⟩ : ∃ K, K = a0 + 1 := ⟨_, rfl⟩
  obtain ⟨M, hM⟩ : ∃ M, M = b0 + 1 := ⟨_, rfl⟩
  have e3 : (1 : Int) + (a0 : Int) = (K : Int) := by omega
  have e4 : (1 : Int) + (b0 : Int) = (M : Int) := by omega
  have h1 : 1 ≤ K := by omega
  have h2 : K ≤ 10 := by omega
  have h3 : 1 ≤ M := by omega
  have h4 : M ≤ 10 := by omega
  have HKM := Lib.hid (And.intro h1 (And.intro h2 (And.intro h3 h4)))
  have HAB := Lib.hid (And.intro ha hb)
  have HLK : Hid (lim (K : Int) = K) := lim_of h1 (by omega)
  have HLM : Hid (lim (M : Int) = M) := lim_of h3 (by omega)
  have HCELL : Hid (∀ w', Below (W.alloc (.cells #[.int .u8 (p : Int), .int .u8 (q : Int)] 48)).heap.size (W.alloc (.cells #[.int .u8 (p : Int), .int .u8 (q : Int)] 48)) w' → w'.cell? ⟨W.heap.size, 0, none⟩ = some (.int .u8 (p : Int)) ∧ w'.cell? ⟨W.heap.size, 1, none⟩ = some (.int .u8 (q : Int))) := by
    intro w' hb
    refine ⟨(hb.cell (p := ⟨W.heap.size, 0, none⟩) (by simp)).trans ?_, (hb.cell (p := ⟨W.heap.size, 1, none⟩) (by simp)).trans ?_⟩
    · simp only [World.cell?, heap_alloc_new]; rfl
    · simp only [World.cell?, heap_alloc_new]; rfl
  have WW : Hid (IntKind.i64.wrap (p : Int) = (p : Int) ∧ IntKind.i64.wrap (q : Int) = (q : Int) ∧ IntKind.i64.wrap (K : Int) = (K : Int) ∧ IntKind.i64.wrap (M : Int) = (M : Int)) := ⟨wrap_i64 (by omega) (by omega), wrap_i64 (by omega) (by omega), wrap_i64 (by omega) (by omega), wrap_i64 (by omega) (by omega)⟩
  clear ha0 hb0 hK hM ha hb hp hq h1 h2 h3 h4
  go_enter Try.func5, Try.ntmps5
  go_wp2_with fail
  refine (HAW _).out.mono ?_
  rintro e w1 ⟨rfl, hb1⟩
  obtain ⟨cc0, cc1⟩ := HCELL.out w1 hb1
  have HB1 : Hid (Below W.heap.size W w1) := ((Below.refl _ _).alloc (Nat.le_refl _) _).trans (hb1.mono (by simp))
  clear hb1 HAW HCELL
  go_wp2_with fail
  refine wp_region_H (S := fun w' => w'.cell? ⟨W.heap.size, 0, none⟩ = some (.int .u8 (p : Int)) ∧ w'.cell? ⟨W.heap.size, 1, none⟩ = some (.int .u8 (q : Int))) 12 (by kernel_rfl) (⟨cc0, cc1⟩) (fun hSx => ?_)
  refine wpAnyH_takeB (i := 0) (v := ?vya_0) rfl (by kernel_rfl) (fun _ _ _ h => h) rfl ?ya_0 hSx ?_
  case ya_0 => (intro w' hSw; (try dsimp only at hSw); go_split_ands; go_simp; try with_reducible rfl)
  try simp only [Act.put, List.getElem_toArray, List.getElem_cons_zero, List.setIfInBounds_toArray, List.set_cons_zero, List.set_cons_succ]
  refine wpAnyH_takeB (i := 1) (v := ?vya_1) rfl (by kernel_rfl) (fun _ _ _ h => h) rfl ?ya_1 hSx ?_
  case ya_1 => (intro w' hSw; (try dsimp only at hSw); go_split_ands; go_simp; try with_reducible rfl)
  try simp only [Act.put, List.getElem_toArray, List.getElem_cons_succ, List.getElem_cons_zero, List.setIfInBounds_toArray, List.set_cons_zero, List.set_cons_succ]
  refine wpAnyH_takeB (i := 2) (v := ?vya_2) rfl (by kernel_rfl) (fun _ _ _ h => h) rfl ?ya_2 hSx ?_
  case ya_2 => (intro w' hSw; (try dsimp only at hSw); go_split_ands; go_simp; try with_reducible rfl)
  try simp only [Act.put, List.getElem_toArray, List.getElem_cons_succ, List.getElem_cons_zero, List.setIfInBounds_toArray, List.set_cons_zero, List.set_cons_succ]
  refine wpAnyH_takeB (i := 3) (v := ?vya_3) rfl (by kernel_rfl) (fun _ _ _ h => h) rfl ?ya_3 hSx ?_
  case ya_3 => (intro w' hSw; (try dsimp only at hSw); go_split_ands; go_simp; try with_reducible rfl)
  try simp only [Act.put, List.getElem_toArray, List.getElem_cons_succ, List.getElem_cons_zero, List.setIfInBounds_toArray, List.set_cons_zero, List.set_cons_succ]
  refine wpAnyH_takeB (i := 4) (v := ?vya_4) rfl (by kernel_rfl) (fun _ _ _ h => h) rfl ?ya_4 hSx ?_
  case ya_4 => (intro w' hSw; (try dsimp only at hSw); go_split_ands; go_simp; try with_reducible rfl)
  try simp only [Act.put, List.getElem_toArray, List.getElem_cons_succ, List.getElem_cons_zero, List.setIfInBounds_toArray, List.set_cons_zero, List.set_cons_succ]
  refine wpAnyH_takeB (i := 5) (v := ?vya_5) rfl (by kernel_rfl) (fun _ _ _ h => h) rfl ?ya_5 hSx ?_
  case ya_5 => (intro w' hSw; (try dsimp only at hSw); go_split_ands; go_simp; try with_reducible rfl)
  try simp only [Act.put, List.getElem_toArray, List.getElem_cons_succ, List.getElem_cons_zero, List.setIfInBounds_toArray, List.set_cons_zero, List.set_cons_succ]
  refine wpAnyH_takeB (i := 6) (v := ?vya_6) rfl (by kernel_rfl) (fun _ _ _ h => h) rfl ?ya_6 hSx ?_
  case ya_6 => (intro w' hSw; (try dsimp only at hSw); go_split_ands; go_simp; try with_reducible rfl)
  try simp only [Act.put, List.getElem_toArray, List.getElem_cons_succ, List.getElem_cons_zero, List.setIfInBounds_toArray, List.set_cons_zero, List.set_cons_succ]
  refine wpAnyH_takeB (i := 7) (v := ?vya_7) rfl (by kernel_rfl) (fun _ _ _ h => h) rfl ?ya_7 hSx ?_
  case ya_7 => (intro w' hSw; (try dsimp only at hSw); go_split_ands; go_simp; try with_reducible rfl)
  try simp only [Act.put, List.getElem_toArray, List.getElem_cons_succ, List.getElem_cons_zero, List.setIfInBounds_toArray, List.set_cons_zero, List.set_cons_succ]
  refine wpAnyH_takeB (i := 8) (v := ?vya_8) rfl (by kernel_rfl) (fun _ _ _ h => h) rfl ?ya_8 hSx ?_
  case ya_8 => (intro w' hSw; (try dsimp only at hSw); go_split_ands; go_simp; try with_reducible rfl)
  try simp only [Act.put, List.getElem_toArray, List.getElem_cons_succ, List.getElem_cons_zero, List.setIfInBounds_toArray, List.set_cons_zero, List.set_cons_succ]
  refine wpAnyH_takeB (i := 9) (v := ?vya_9) rfl (by kernel_rfl) (fun _ _ _ h => h) rfl ?ya_9 hSx ?_
  case ya_9 => (intro w' hSw; (try dsimp only at hSw); go_split_ands; go_simp; try with_reducible rfl)
  try simp only [Act.put, List.getElem_toArray, List.getElem_cons_succ, List.getElem_cons_zero, List.setIfInBounds_toArray, List.set_cons_zero, List.set_cons_succ]
  refine wpAnyH_takeB (i := 10) (v := ?vya_10) rfl (by kernel_rfl) (fun _ _ _ h => h) rfl ?ya_10 hSx ?_
  case ya_10 => (intro w' hSw; (try dsimp only at hSw); go_split_ands; go_simp; try with_reducible rfl)
  try simp only [Act.put, List.getElem_toArray, List.getElem_cons_succ, List.getElem_cons_zero, List.setIfInBounds_toArray, List.set_cons_zero, List.set_cons_succ]
  refine wpAnyH_takeB (i := 11) (v := ?vya_11) rfl (by kernel_rfl) (fun _ _ _ h => h) rfl ?ya_11 hSx ?_
  case ya_11 => (intro w' hSw; (try dsimp only at hSw); go_split_ands; go_simp; try with_reducible rfl)
  try simp only [Act.put, List.getElem_toArray, List.getElem_cons_succ, List.getElem_cons_zero, List.setIfInBounds_toArray, List.set_cons_zero, List.set_cons_succ]
  refine wpAnyH_done (by kernel_rfl) ?_ _
  clear hSx
  simp only [WW.out.1, WW.out.2.1, e1, e2, e3, e4, WW.out.2.2.1, WW.out.2.2.2]
  have HB2 : Hid (Below W.heap.size W w1.drew) := HB1.out.trans ⟨rfl, rfl, rfl, Nat.le_refl _, fun _ _ => rfl⟩
  clear cc0 cc1 HB1 e1 e2 e3 e4 ha16 hb16
  generalize w1.drew = w1d at *
  have HN := Lib.hid (New_any w1d)
  go_wp2_with fail
  refine HN.out.mono ?_
  rintro e w2 ⟨G, rfl, r1, r2, r3⟩
  have LW_2 : Hid (BLaw W w2 G []) := ⟨r1, Wf.nil, HB2.out.trans (r2.mono HB2.out.size), fun k hk => Nat.le_trans HB2.out.size (r3 k hk)⟩
  clear r1 r2 r3 HN HB2
  have hI := Inputs_bits LW_2.out.rep (K : Int) (by decide)
  rw [HLK.out] at hI
  have HI := Lib.hid hI
  clear hI
  go_wp2_with fail
  refine HI.out.mono ?_
  rintro e w3 ⟨b3, G3, rfl, f⟩
  have LW_3 := Lib.hid (LW_2.out.op f.rep f.fr (wf_ins LW_2.out.wf K))
  have HG_3 : Hid (G3.h = G.h) := f.fr.h
  have X_3 := Lib.hid (in_vx (P := False) f id)
  clear f HI LW_2
  have hI := Inputs_bits LW_3.out.rep (M : Int) (by have := HKM.out; simp; omega)
  rw [HLM.out, HG_3.out] at hI
  have HI := Lib.hid hI
  clear hI
  go_wp2_with fail
  refine HI.out.mono ?_
  rintro e w4 ⟨b4, G4, rfl, f⟩
  have LW_4 := Lib.hid (LW_3.out.op f.rep f.fr (wf_ins LW_3.out.wf M))
  have HG_4 : Hid (G4.h = G.h) := f.fr.h.trans HG_3.out
  have X_4 := Lib.hid (X_3.out.ins f)
  clear X_3
  have Y_4 := Lib.hid (in_vx (P := False) f id)
  clear f HI LW_3 HG_3
  have LE_4 : Hid (([] ++ List.replicate K none ++ List.replicate M none : List Nd).length ≤ 100) := by show _ ≤ _; have := HKM.out; simp; omega
  obtain ⟨TA, hTA⟩ : ∃ TA, TA = trimZ a K := ⟨_, rfl⟩
  obtain ⟨TB, hTB⟩ : ∃ TB, TB = trimZ b M := ⟨_, rfl⟩
  obtain ⟨Z, hZ⟩ : ∃ Z, Z = max K M := ⟨_, rfl⟩
  have HZ : Hid (1 ≤ Z ∧ Z ≤ 10 ∧ K ≤ Z ∧ M ≤ Z ∧ max K M = Z ∧ max M K = Z) := by have := HKM.out; show _ ∧ _; omega
  have hmx : max (K : Int) (M : Int) = (Z : Int) := by omega
  have HTZ : Hid (trimZ TA Z = TA ∧ trimZ TB Z = TB ∧ trimZ TA K = TA ∧ trimZ TB M = TB) := by
    rw [hTA, hTB]
    exact ⟨trimZ_wide a HKM.out.1 HZ.out.2.2.1, trimZ_wide b HKM.out.2.2.1 HZ.out.2.2.2.1, trimZ_wide a HKM.out.1 (Nat.le_refl _), trimZ_wide b HKM.out.2.2.1 (Nat.le_refl _)⟩
  have HTT : Hid ((-32768 ≤ TA ∧ TA ≤ 32768) ∧ (-32768 ≤ TB ∧ TB ≤ 32768)) := by
    have q1 := trimZ_lt a (show 0 < K from HKM.out.1)
    have q2 := trimZ_lt b (show 0 < M from HKM.out.2.2.1)
    have q3 : 2 ^ (K - 1) ≤ 2 ^ 9 := Nat.pow_le_pow_right (by omega) (by have := HKM.out; omega)
    have q4 : 2 ^ (M - 1) ≤ 2 ^ 9 := Nat.pow_le_pow_right (by omega) (by have := HKM.out; omega)
    rw [← hTA] at q1
    rw [← hTB] at q2
    generalize 2 ^ (K - 1) = r at *
    generalize 2 ^ (M - 1) = s at *
    show _ ∧ _
    omega
  have hR := RTrim_any a (K : Int) w4 HAB.out.1
  rw [HLK.out, ← hTA] at hR
  have HR := Lib.hid hR
  have hR2 := RTrim_any b (M : Int) w4 HAB.out.2
  rw [HLM.out, ← hTB] at hR2
  have HR2 := Lib.hid hR2
  clear hR hR2 hTA hTB hZ
  go_wp2_with fail
  refine HR.out.mono ?_
  rintro e w' ⟨rfl, rfl⟩
  go_wp2_with fail
  refine HR2.out.mono ?_
  rintro e w' ⟨rfl, rfl⟩
  clear HR HR2
  have HFX0 : ([] ++ bitsL TA K ++ bitsL TB M : List Bool) = bitsL TA K ++ bitsL TB M := by simp
  have HFX : Hid ((List.range K).map (fun i => mdlL (bitsL TA K ++ bitsL TB M) (ins ([] : List Nd) + i)) = bitsL TA K) := by
    have h := mdl_part [] (bitsL TA K) (bitsL TB M)
    rw [HFX0, bitsL_len] at h
    exact h
  have HFY : Hid ((List.range M).map (fun i => mdlL (bitsL TA K ++ bitsL TB M) (ins ([] ++ List.replicate K none : List Nd) + i)) = bitsL TB M) := by
    have h := mdl_part (bitsL TA K) (bitsL TB M) []
    rw [List.append_nil, bitsL_len, bitsL_len] at h
    have hi : ins ([] ++ List.replicate K none : List Nd) = K := by rw [ins_app]; show 0 + K = K; omega
    show _ = _
    rw [hi]; exact h
  obtain ⟨FX, hFX⟩ : ∃ FX : (Nat → Bool) → List Bool, FX = fun m => (List.range K).map fun i => m (ins ([] : List Nd) + i) := ⟨_, rfl⟩
  obtain ⟨FY, hFY⟩ : ∃ FY : (Nat → Bool) → List Bool, FY = fun m => (List.range M).map fun i => m (ins ([] ++ List.replicate K none : List Nd) + i) := ⟨_, rfl⟩
  rw [← hFX] at X_4
  rw [← hFY] at Y_4
  have HX : Hid (FX (mdlL (bitsL TA K ++ bitsL TB M)) = bitsL TA K) := by show _ = _; rw [hFX]; exact HFX.out
  have HY : Hid (FY (mdlL (bitsL TA K ++ bitsL TB M)) = bitsL TB M) := by show _ = _; rw [hFY]; exact HFY.out
  generalize hN : ([] ++ List.replicate K none ++ List.replicate M none : List Nd) = N4 at *
  generalize inE ([] : List Nd) K = xs at *
  generalize inE ([] ++ List.replicate K none : List Nd) M = ys at *
  clear HFX HFY HFX0 hFX hFY hN
  have hTb := HTT.out
  have hc := Bits_any TA (K : Int) w4 (by omega)
  rw [HLK.out] at hc
  have HC := Lib.hid hc
  clear hc
  have hc := fun v => Bits_any TB (M : Int) v (by omega)
  rw [HLM.out] at hc
  have HC2 := fun v => Lib.hid (hc v)
  clear hc hTb
  go_wp2_with fail
  refine HC.out.mono ?_
  rintro e v1 ⟨rfl, hb5, hr5⟩
  have HR5 := Lib.hid (And.intro hb5 hr5)
  clear hb5 hr5 HC
  go_wp2_with fail
  refine (HC2 v1).out.mono ?_
  rintro e v2 ⟨rfl, hb6, hr6⟩
  have h46 : W.heap.size ≤ w4.heap.size := LW_4.out.below.size
  have o5 := bits_own h46 HR5.out.2 (by have := HKM.out; omega)
  have HOW1 : Hid (v2.ownsRow W.heap.size 4 1 (.slice (some ⟨w4.heap.size, 0, none⟩) K K) K ((bitsL TA K).map Value.bool)) := owns_of_heap o5 fun g hg => hb6.block g (o5.lt g hg).2
  have o6 := bits_own (Nat.le_trans h46 HR5.out.1.size) hr6 (by have := HKM.out; omega)
  have HNL : Hid (((bitsL TB M).map Value.bool).length = M * 1) := by show _ = _; rw [List.length_map, bitsL_len, Nat.mul_one]
  have HNEWS : Hid (∀ j u, ((bitsL TB M).map Value.bool)[j]? = some u → v2.cell? ((⟨v1.heap.size, 0, none⟩ : Addr).add j) = some u) := fun j u hj => by rw [Addr.add_lit, Nat.zero_add]; exact own_cell o6 hj
  have HSZ : Hid (W.heap.size ≤ v2.heap.size) := Nat.le_trans h46 (Nat.le_trans HR5.out.1.size hb6.size)
  have HB46 : Hid (Below w4.heap.size w4 v2) := HR5.out.1.trans (hb6.mono HR5.out.1.size)
  clear o5 o6 hb6 hr6 HC2 h46
  go_wp2_with (at_builtin; refine wpList_append_lies _ rfl _ _ 23 rfl W.heap.size 4 ib _ 1 1 Try.underlying23 hib hzb0 hzb1 hzb2 rfl (by decide) _ K ((bitsL TA K).map Value.bool) rfl HOW1.out ⟨v1.heap.size, 0, none⟩ M M ((bitsL TB M).map Value.bool) rfl HNL.out HNEWS.out (by intro q hq; obtain ⟨z, _, rfl⟩ := List.mem_map.1 hq; rfl) (by have := HKM.out; omega) (by unfold maxLen; have := HKM.out; omega) (by have := HKM.out; omega) HSZ.out v2.heap.size rfl ?_; intro g cap w5 hown7 hgrow7 hat7 hlt7; refine Hid.out ?_)
  refine Lib.hid ?_
  have hb57 : Below w4.heap.size w4 w5 := grown_below HB46.out hgrow7 (Nat.le_refl _)
  have hgG : ¬ G4.has g := fun q => by
    have h1 := LW_4.out.rep.lt g q
    rcases hat7 with e | e
    · have : w4.heap.size = g := Option.some.inj (show (some w4.heap.size : Option Nat) = some g from e)
      omega
    · have := HB46.out.size; omega
  have MO_5 := Lib.hid (ModV.of_own (G := G4) (bs := bitsL TA K ++ bitsL TB M) (by rw [List.map_append]; exact hown7) (by rw [List.length_append, bitsL_len, bitsL_len]) (by have := HKM.out; omega) hgG)
  have LW_5 := Lib.hid (LW_4.out.after hb57)
  have HG_5 := HG_4
  have X_5 := Lib.hid (X_4.out.after hb57)
  have Y_5 := Lib.hid (Y_4.out.after hb57)
  clear hown7 hgrow7 hat7 hlt7 hb57 hgG HOW1 HNL HNEWS HSZ HB46 HR5 LW_4 X_4 Y_4
  have LE_5 := LE_4
  obtain ⟨N5, hN⟩ : ∃ N, N = N4 := ⟨_, rfl⟩
  rw [← hN] at LE_5 LW_5 X_5 Y_5
  obtain ⟨G5, hG⟩ : ∃ G, G = G4 := ⟨_, rfl⟩
  rw [← hG] at LW_5 X_5 Y_5 MO_5 HG_5
  clear hN hG
  have HS0 : Hid (DoS W G.h (some ⟨b3, 0, none⟩) (some ⟨b4, 0, none⟩) (some ⟨g, 0, none⟩) xs ys K M FX FY (bitsL TA K ++ bitsL TB M) 0 w5) := ⟨G5, N5, LW_5.out, HG_5.out, LE_5.out, X_5.out, Y_5.out, MO_5.out⟩
  clear LW_5 HG_5 LE_5 X_5 Y_5 MO_5
  try clear HG_3
  try clear HG_4
  try clear LE_4
  go_wp2_with fail
  go_loopw [13, 14] (fun nv rv wr => ∃ op : Nat, nv = .int .i64 (op : Int) ∧ op ≤ 5 ∧ DoS W G.h (some ⟨b3, 0, none⟩) (some ⟨b4, 0, none⟩) (some ⟨g, 0, none⟩) xs ys K M FX FY (bitsL TA K ++ bitsL TB M) op wr) (fun iv _ _ => 5 - (RowKit.intOf iv).toNat)
  case atStart => exact ⟨0, rfl, by omega, HS0.out⟩
  case round =>
    obtain ⟨op, rfl, hop, hs⟩ := hrel
    clear HS0
    obtain ⟨G', N, l1, l2, l3, x1, y1, m1⟩ := hs
    by_cases hlt : op < 5
    · have hlz : (op : Int) < 5 := by omega
      have o0 : (0 : Int) ≤ (op : Int) := by omega
      have hc := dow_vx (P := False) op hlt l1.rep l1.wf x1 y1 HKM.out.1 (by have := HKM.out; omega) HKM.out.2.2.1 (by have := HKM.out; omega) (by omega) K M
      rw [l2, HZ.out.2.2.2.2.1] at hc
      have HC := Lib.hid hc
      have HI := Lib.hid (And.intro l1 (And.intro l2 (And.intro l3 (And.intro x1 (And.intro y1 m1)))))
      have HOP := Lib.hid hlt
      clear hc l1 l2 l3 x1 y1 m1
      go_wp2_with fail
      refine HC.out.mono ?_
      rintro e wu ⟨bu, cu, GU, NU, eu, rfl, g1, g2, vx, ho⟩
      obtain ⟨l1, l2, l3, x1, y1, m1⟩ := HI.out
      have LU := l1.op g1 g2 ho.wf
      have hgu : GU.h = G.h := g2.h.trans l2
      have XU := x1.op g2 ho
      have YU := y1.op g2 ho
      have MU := m1.fr g2
      have hlu : NU.length ≤ 100 + 4200 * (op + 1) := by have h1 := ho.lenle; omega
      have hml : (bitsL TA K ++ bitsL TB M).length = K + M := by simp [bitsL_len]
      have hma := MU.arg
      rw [hml] at hma
      have hE := Eval_vec LU.rep LU.wf (some ⟨g, 0, none⟩) (K + M) cap _ hma (by have := HKM.out; omega) (some ⟨bu, 0, none⟩) eu cu Z vx.vec vx.len (by have := HZ.out; omega) vx.own (by omega)
      rw [hgu] at hE
      have HE := Lib.hid hE
      have HV0 : Hid (eu.map (Gr.val (mdlL (bitsL TA K ++ bitsL TB M)) NU) = doF op (wideL false (bitsL TA K) Z) (wideL false (bitsL TB M) Z)) := by show _ = _; rw [vx.val, HX.out, HY.out]
      have HU := Lib.hid (And.intro LU (And.intro hgu (And.intro hlu (And.intro XU (And.intro YU (And.intro MU vx.len))))))
      clear hE hma g1 g2 vx ho HC LU hgu XU YU MU hlu l1 l2 l3 x1 y1 m1 HI
      go_wp2_with fail
      refine HE.out.mono ?_
      rintro e wv ⟨bv, rfl, _, rv, hbv⟩
      have hV := Value_ev (m := mdlL (bitsL TA K ++ bitsL TB M)) (L := NU) (es := eu) (n := Z) (W := wv) (b := bv) (by unfold mdlL; rw [hml]; exact rv) HU.out.2.2.2.2.2.2 HZ.out.1 (by have := HZ.out; omega) Z
      rw [HV0.out, do_sg op _ _ (by rw [wideL_len, wideL_len]) (fun e => by have hl := congrArg List.length e; rw [wideL_len, List.length_nil] at hl; have := HZ.out; omega), wideL_len, wide_cst TA HKM.out.1, wide_cst TB HKM.out.2.2.1, HTZ.out.2.2.1, HTZ.out.2.2.2, HTZ.out.1, HTZ.out.2.1] at hV
      have HV := Lib.hid hV
      have hR := RDo_any op HOP.out TA TB (Z : Int) wv HTT.out.1 HTT.out.2
      rw [lim_of HZ.out.1 (by have := HZ.out; omega)] at hR
      have HR := Lib.hid hR
      have HS1 : Hid (DoS W G.h (some ⟨b3, 0, none⟩) (some ⟨b4, 0, none⟩) (some ⟨g, 0, none⟩) xs ys K M FX FY (bitsL TA K ++ bitsL TB M) (op + 1) wv) := ⟨GU, NU, HU.out.1.after hbv, HU.out.2.1, HU.out.2.2.1, HU.out.2.2.2.1.after hbv, HU.out.2.2.2.2.1.after hbv, HU.out.2.2.2.2.2.1.fr (Fr.ofBelow hbv)⟩
      clear hV hR rv hbv HE HU HV0 hml
      generalize doZ op TA TB Z = T at *
      go_wp2_with fail
      refine HV.out.mono ?_
      rintro e w' ⟨rfl, rfl⟩
      go_wp2_with fail
      refine HR.out.mono ?_
      rintro e w' ⟨rfl, rfl⟩
      go_wp2_with fail
      go_roundw
      case rel => exact ⟨op + 1, by go_num, by omega, HS1.out⟩
      case measure => simp [RowKit.intOf]; omega
    · obtain rfl : op = 5 := by omega
      clear hlt hop
      have LW_10 := Lib.hid l1
      have HG_10 : Hid (G'.h = G.h) := l2
      have LE_10 : Hid (N.length ≤ 21100) := l3
      have X_10 := Lib.hid x1
      have Y_10 := Lib.hid y1
      have MO_10 := Lib.hid m1
      clear l1 l2 l3 x1 y1 m1
      generalize G' = G10 at *
      generalize N = N10 at *
      generalize wr = w10 at *
      have hc := Same_wx (P := False) LW_10.out.rep LW_10.out.wf X_10.out Y_10.out HKM.out.1 (by have := HKM.out; omega) HKM.out.2.2.1 (by have := HKM.out; omega) (by have := LE_10.out; omega) K M
      rw [HG_10.out, HZ.out.2.2.2.2.1] at hc
      have HC := Lib.hid hc
      clear hc
      go_wp2_with fail
      refine HC.out.mono ?_
      rintro e w11 ⟨G11, N11, e11, rfl, g1, g2, ex, ho⟩
      have LW_11 := Lib.hid (LW_10.out.op g1 g2 ho.wf)
      have HG_11 : Hid (G11.h = G.h) := g2.h.trans HG_10.out
      have X_11 := Lib.hid (X_10.out.op g2 ho)
      have Y_11 := Lib.hid (Y_10.out.op g2 ho)
      have MO_11 := Lib.hid (MO_10.out.fr g2)
      clear X_10 Y_10 MO_10
      have LE_11 : Hid (N11.length ≤ 21164) := by have h1 := ho.lenle; have h2 := LE_10.out; show _ ≤ _; omega
      have E0_11 := Lib.hid ex
      clear g1 g2 ex ho HC LW_10 HG_10 LE_10
      have hc := Less_wx (P := False) LW_11.out.rep LW_11.out.wf X_11.out Y_11.out HKM.out.1 (by have := HKM.out; omega) HKM.out.2.2.1 (by have := HKM.out; omega) (by have := LE_11.out; omega) K M
      rw [HG_11.out, HZ.out.2.2.2.2.1] at hc
      have HC := Lib.hid hc
      clear hc
      go_wp2_with fail
      refine HC.out.mono ?_
      rintro e w12 ⟨G12, N12, e12, rfl, g1, g2, ex, ho⟩
      have LW_12 := Lib.hid (LW_11.out.op g1 g2 ho.wf)
      have HG_12 : Hid (G12.h = G.h) := g2.h.trans HG_11.out
      have X_12 := Lib.hid (X_11.out.op g2 ho)
      have Y_12 := Lib.hid (Y_11.out.op g2 ho)
      have E0_12 := Lib.hid (E0_11.out.op ho)
      have MO_12 := Lib.hid (MO_11.out.fr g2)
      clear X_11 Y_11 E0_11 MO_11
      have LE_12 : Hid (N12.length ≤ 21228) := by have h1 := ho.lenle; have h2 := LE_11.out; show _ ≤ _; omega
      have E1_12 := Lib.hid ex
      clear g1 g2 ex ho HC LW_11 HG_11 LE_11
      have hc := Less_wx (P := False) LW_12.out.rep LW_12.out.wf Y_12.out X_12.out HKM.out.2.2.1 (by have := HKM.out; omega) HKM.out.1 (by have := HKM.out; omega) (by have := LE_12.out; omega) M K
      rw [HG_12.out, HZ.out.2.2.2.2.2] at hc
      have HC := Lib.hid hc
      clear hc
      go_wp2_with fail
      refine HC.out.mono ?_
      rintro e w13 ⟨G13, N13, e13, rfl, g1, g2, ex, ho⟩
      have LW_13 := Lib.hid (LW_12.out.op g1 g2 ho.wf)
      have HG_13 : Hid (G13.h = G.h) := g2.h.trans HG_12.out
      have X_13 := Lib.hid (X_12.out.op g2 ho)
      have Y_13 := Lib.hid (Y_12.out.op g2 ho)
      have E0_13 := Lib.hid (E0_12.out.op ho)
      have E1_13 := Lib.hid (E1_12.out.op ho)
      have MO_13 := Lib.hid (MO_12.out.fr g2)
      clear X_12 Y_12 E0_12 E1_12 MO_12
      have LE_13 : Hid (N13.length ≤ 21292) := by have h1 := ho.lenle; have h2 := LE_12.out; show _ ≤ _; omega
      have E2_13 := Lib.hid ex
      clear g1 g2 ex ho HC LW_12 HG_12 LE_12
      have hc := some_ex (P := False) LW_13.out.rep LW_13.out.wf X_13.out HKM.out.1 (by have := HKM.out; omega) (by have := LE_13.out; omega) K
      rw [HG_13.out] at hc
      have HC := Lib.hid hc
      clear hc
      go_wp2_with fail
      refine HC.out.mono ?_
      rintro e w14 ⟨G14, N14, e14, rfl, g1, g2, ex, ho⟩
      have LW_14 := Lib.hid (LW_13.out.op g1 g2 ho.wf)
      have HG_14 : Hid (G14.h = G.h) := g2.h.trans HG_13.out
      have X_14 := Lib.hid (X_13.out.op g2 ho)
      have Y_14 := Lib.hid (Y_13.out.op g2 ho)
      have E0_14 := Lib.hid (E0_13.out.op ho)
      have E1_14 := Lib.hid (E1_13.out.op ho)
      have E2_14 := Lib.hid (E2_13.out.op ho)
      have MO_14 := Lib.hid (MO_13.out.fr g2)
      clear X_13 Y_13 E0_13 E1_13 E2_13 MO_13
      have LE_14 : Hid (N14.length ≤ 21356) := by have h1 := ho.lenle; have h2 := LE_13.out; show _ ≤ _; omega
      have E3_14 := Lib.hid ex
      clear g1 g2 ex ho HC LW_13 HG_13 LE_13
      obtain ⟨wa, hwa⟩ : ∃ wa, wa = w14.alloc (.cells #[.int .i64 (e11 : Int), .int .i64 (e12 : Int), .int .i64 (e13 : Int), .int .i64 (e14 : Int)] 3) := ⟨_, rfl⟩
      have hba : Below w14.heap.size w14 wa := by rw [hwa]; exact (Below.refl _ _).alloc (Nat.le_refl _) _
      have hve : Vec wa G14 (some ⟨w14.heap.size, 0, none⟩) [e11, e12, e13, e14] := by
        refine Or.inr ⟨w14.heap.size, 0, rfl, by rw [hwa]; simp, fun q => Nat.lt_irrefl _ (LW_14.out.rep.lt _ q), fun j hj => ?_⟩
        have hj' : j < 4 := hj
        rw [Nat.zero_add, hwa]
        simp only [World.cell?, heap_alloc_new]
        match j, hj' with
        | 0, _ => rfl
        | 1, _ => rfl
        | 2, _ => rfl
        | 3, _ => rfl
      have hma := (MO_14.out.fr (Fr.ofBelow hba)).arg
      have hml : (bitsL TA K ++ bitsL TB M).length = K + M := by simp [bitsL_len]
      rw [hml] at hma
      have hE := Eval_vec ((LW_14.out.after hba).rep) LW_14.out.wf (some ⟨g, 0, none⟩) (K + M) cap _ hma (by have := HKM.out; omega) (some ⟨w14.heap.size, 0, none⟩) [e11, e12, e13, e14] 4 4 hve rfl (by omega) (fun e he => by
        simp only [List.mem_cons, List.not_mem_nil, or_false] at he
        rcases he with rfl | rfl | rfl | rfl
        · exact E0_14.out.own
        · exact E1_14.out.own
        · exact E2_14.out.own
        · exact E3_14.out.own
        ) (by have := LE_14.out; omega)
      rw [HG_14.out] at hE
      have HE := Lib.hid hE
      have LA := Lib.hid (LW_14.out.after hba)
      have HWA := Lib.hid hwa
      clear hba hve hma hE hwa
      go_wp2_with fail
      rw [← HWA.out]
      refine HE.out.mono ?_
      rintro e wz ⟨bz, rfl, hz0, hz1, hz2⟩
      have LZ := Lib.hid (LA.out.after hz2)
      have cz0 : wz.cell? ⟨bz, 0, none⟩ = some (.bool (Gr.val (mdlL (bitsL TA K ++ bitsL TB M)) N14 e11)) := by have := hz1.cell (i := 0) (by omega); unfold mdlL; rw [hml]; exact this
      have cz1 : wz.cell? ⟨bz, 1, none⟩ = some (.bool (Gr.val (mdlL (bitsL TA K ++ bitsL TB M)) N14 e12)) := by have := hz1.cell (i := 1) (by omega); unfold mdlL; rw [hml]; exact this
      have cz2 : wz.cell? ⟨bz, 2, none⟩ = some (.bool (Gr.val (mdlL (bitsL TA K ++ bitsL TB M)) N14 e13)) := by have := hz1.cell (i := 2) (by omega); unfold mdlL; rw [hml]; exact this
      have cz3 : wz.cell? ⟨bz, 3, none⟩ = some (.bool (Gr.val (mdlL (bitsL TA K ++ bitsL TB M)) N14 e14)) := by have := hz1.cell (i := 3) (by omega); unfold mdlL; rw [hml]; exact this
      rw [E0_14.out.val] at cz0
      rw [E1_14.out.val] at cz1
      rw [E2_14.out.val] at cz2
      rw [E3_14.out.val] at cz3
      clear hz0 hz1 hz2 HE LA HWA
      have hne : ∀ v : List Bool, wideL false v Z ≠ [] := fun v e => by have hl := congrArg List.length e; rw [wideL_len, List.length_nil] at hl; have := HZ.out; omega
      have sA : sg (wideL false (bitsL TA K) Z) = TA := by rw [wide_cst TA HKM.out.1, HTZ.out.2.2.1, HTZ.out.1]
      have sB : sg (wideL false (bitsL TB M) Z) = TB := by rw [wide_cst TB HKM.out.2.2.1, HTZ.out.2.2.2, HTZ.out.2.1]
      have sC : (wideL false (bitsL TA K) Z = wideL false (bitsL TB M) Z) ↔ TA = TB := by rw [← sg_inj (by rw [wideL_len, wideL_len]), sA, sB]
      have sD : (bitsL TA K).any id = decide (TA ≠ 0) := by
        have h0 := HTZ.out.2.2.1
        rw [← bits_sg] at h0
        rw [any_sg _ (fun e => by have hl := congrArg List.length e; rw [bitsL_len, List.length_nil] at hl; have := HKM.out; omega), h0]
      rw [HX.out, HY.out, lessS_sg _ _ (by rw [wideL_len, wideL_len]) (hne _), sA, sB] at cz1
      rw [HX.out, HY.out, lessS_sg _ _ (by rw [wideL_len, wideL_len]) (hne _), sA, sB] at cz2
      rw [HX.out, HY.out] at cz0
      have cy0 : wz.cell? ⟨bz, 0, none⟩ = some (.bool (decide (TA = TB))) := by rw [cz0]; congr 2; exact decide_eq_decide.2 sC
      clear cz0
      have cz0 := cy0
      clear cy0
      rw [HX.out, sD] at cz3
      clear hne sA sB sC sD
      rcases Int.lt_trichotomy TA TB with h | h | h
      all_goals
        by_cases h0 : TA = 0
        all_goals
          skip
          first
          | have d0 : decide (TA = TB) = false := by simp; omega
          | have d0 : decide (TA = TB) = true := by simp; omega
          first
          | have d1 : decide (TA < TB) = false := by simp; omega
          | have d1 : decide (TA < TB) = true := by simp; omega
          first
          | have d2 : decide (TB < TA) = false := by simp; omega
          | have d2 : decide (TB < TA) = true := by simp; omega
          first
          | have d3 : decide (TA ≠ 0) = false := by simp; omega
          | have d3 : decide (TA ≠ 0) = true := by simp; omega
          rw [d0] at cz0
          rw [d1] at cz1
          rw [d2] at cz2
          rw [d3] at cz3
          try (have n0 : ¬ TA = TB := by omega)
          try (have n1 : ¬ TA < TB := by omega)
          try (have n2 : ¬ TB < TA := by omega)
          clear d0 d1 d2 d3
          try subst h
          try subst h0
          go_wp2_with fail
          go_ret
          refine ⟨?_, LZ.out.below⟩
          first
          | rfl
          | (show Ending.returned (Value.bool _) = Ending.returned (Value.bool true); refine congrArg (fun v => Ending.returned (Value.bool v)) ?_; simp <;> omega)
end Go.Proofs.Ytnkcdgpaphphaaa.Gr
