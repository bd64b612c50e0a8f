/- The law RupModels as a contract; what the program's Model answers comes in us a premise. -/
import Derived.Test.YthpamogomfleoaaDoorRpA
namespace Go.Proofs.YthpamogomfleoaaDoor.Cl
open Go Go.RowKit Go.Lib Go.Sort Go.Proofs.YthpamogomfleoaaDoor.Up

/-- What the document asks of Model. -/
def modelB (cs : List (List Int)) (m : List Bool) (us : List Int) : Bool := rightB us && allB cs m && cs.all rightB && us.all (litB m)

theorem holds_one (m : List Bool) (x : Int) : holdsB [x] m = litB m x := by simp [holdsB]

set_option maxHeartbeats 8000000 in
set_option maxRecDepth 100000 in
theorem RupModels_main (rs : List Row) (a : Option Addr) (c : Nat) (m : List Bool) (ma : Option Addr) (mc : Nat) (us : List Int) (f : Option Addr) (g : Nat) (w : World)
    (ht : Tab w) (hrs : RowsIn w a rs) (hlc : rs.length ≤ c) (hcm : c ≤ 9223372036854775807) (hs : smallB (rs.map Row.zs) 40 100000 = true)
    (hm : RowIn Value.bool w ma m) (hm60 : m.length ≤ 60) (hz : RowIn (Value.int .i64) w f us) (hg : us.length ≤ g) (hg2 : g ≤ 9223372036854775807) (hz20 : us.length ≤ 20)
    (hM : ∀ w2, Below w.heap.size w w2 → Calls Tryd.prog 16 #[.slice a rs.length c, .slice ma m.length mc, .slice f us.length g] w2 fun e w' => e = .returned (.bool (modelB (rs.map Row.zs) m us)) ∧ Below w2.heap.size w2 w') :
    Calls Tryd.prog 4 #[.slice a rs.length c, .slice ma m.length mc, .slice f us.length g] w fun e w' => e = .returned (.bool true) ∧ Below w.heap.size w w' := by
  have HS : Hid (∀ w2, Below w.heap.size w w2 → Calls Tryd.prog 8 #[.slice a rs.length c, .int .i64 40, .int .i64 100000] w2 fun e w' => e = .returned (.bool true) ∧ w2 = w') := fun w2 h => by
    have := Small_any a c rs 40 100000 w2 (hrs.below h) hlc hcm
    rwa [hs] at this
  have hl40 : rs.length ≤ 40 := by
    unfold smallB at hs
    rw [Bool.and_eq_true, decide_eq_true_eq, List.length_map] at hs
    omega
  have HRA : Hid (∀ w2, Below w.heap.size w w2 → Calls Tryd.prog 13 #[.slice f us.length g] w2 fun e w' => e = .returned (.bool (rightB us)) ∧ w2 = w') := fun w2 h => RefRight_any f g us w2 (hz.below h) (by omega)
  have HAL : Hid (∀ w2, Below w.heap.size w w2 → Calls Tryd.prog 14 #[.slice a rs.length c, .slice ma m.length mc] w2 fun e w' => e = .returned (.bool (allB (rs.map Row.zs) m)) ∧ w2 = w') := fun w2 h => RefAll_any a c rs ma mc m w2 (hrs.below h) (by omega) (hm.below h)
  have HRG : Hid (∀ w2 k, Below w.heap.size w w2 → k < rs.length → Calls Tryd.prog 13 #[.slice rs[k]!.a rs[k]!.zs.length rs[k]!.c] w2 fun e w' => e = .returned (.bool (rightB rs[k]!.zs)) ∧ w2 = w') := fun w2 k h hk =>
    RefRight_any rs[k]!.a rs[k]!.c rs[k]!.zs w2 ((hrs.each _ (getElem!_mem hk)).below h) (hrs.small _ (getElem!_mem hk))
  have HLD : Hid (∀ w2 k, Below w.heap.size w w2 → k < rs.length → ∃ ab aoff, a = some ⟨ab, aoff, none⟩ ∧ w2.cell? ⟨ab, aoff + k, none⟩ = some (.slice rs[k]!.a rs[k]!.zs.length rs[k]!.c)) := by
    intro w2 k h hk
    obtain ⟨ab, aoff, h1, _, h2⟩ := (hrs.row.below h).pos hk
    exact ⟨ab, aoff, h1, h2 k hk⟩
  have HHO : Hid (∀ w2 k, Below w.heap.size w w2 → k < us.length → ∃ fb foff, f = some ⟨fb, foff, none⟩ ∧ ∀ d, Calls Tryd.prog 15 #[.slice (some ⟨fb, foff + k, none⟩) 1 d, .slice ma m.length mc] w2 fun e w' => e = .returned (.bool (litB m us[k]!)) ∧ w2 = w') := by
    intro w2 k h hk
    obtain ⟨fb, foff, h1, h2, h3⟩ := (hz.below h).pos hk
    refine ⟨fb, foff, h1, fun d => ?_⟩
    have := RefHolds_any (some ⟨fb, foff + k, none⟩) d [us[k]!] ma mc m w2 (Or.inr ⟨fb, foff + k, rfl, h2, fun j hj => by
      have : j = 0 := by simpa using hj
      subst this
      exact h3 k hk⟩) (by simp) (hm.below h)
    rw [holds_one] at this
    exact this
  have HMD := Lib.hid hM
  have hd1 : decide ((60 : Int) < (m.length : Int)) = false := by rw [decide_eq_false_iff_not]; omega
  have hd2 : decide ((20 : Int) < (us.length : Int)) = false := by rw [decide_eq_false_iff_not]; omega
  have HWD : Hid (modelB (rs.map Row.zs) m us = (((rightB us && allB (rs.map Row.zs) m) && rs.all fun r => rightB r.zs) && us.all (litB m))) := by
    show _ = _; unfold modelB; rw [List.all_map]; rfl
  have HT := Lib.hid ht
  clear ht hrs hm hz hM hs
  go_enter Tryd.func4, Tryd.ntmps4
  go_wp2_with fail
  refine (rup_awake w HT.out).mono ?_
  rintro e w1 ⟨rfl, hb1⟩
  go_wp2_with fail
  refine (HS.out _ hb1).mono ?_
  rintro e w2 ⟨rfl, rfl⟩
  have HB1 := Lib.hid hb1
  clear hb1
  have HRA1 := Lib.hid (HRA.out w1 HB1.out)
  have HAL1 := Lib.hid (HAL.out w1 HB1.out)
  clear HRA HAL HS
  generalize modelB (rs.map Row.zs) m us = MB at *
  generalize rightB us = A1 at *
  generalize allB (rs.map Row.zs) m = A2 at *
  obtain ⟨AX, HX⟩ : ∃ AX, Hid (AX = (A1 && A2)) := ⟨_, rfl⟩
  have HWX : Hid (MB = ((AX && rs.all fun r => rightB r.zs) && us.all (litB m))) := by show _ = _; rw [HX.out]; exact HWD.out
  clear HWD
  have hq1 : A1 = false ∨ (A1 = true ∧ A2 = false) ∨ (A1 = true ∧ A2 = true) := by cases A1 <;> cases A2 <;> simp
  rcases hq1 with rfl | ⟨rfl, rfl⟩ | ⟨rfl, rfl⟩
  all_goals (
    go_wp2_with (first
      | (go_at_call 13; refine HRA1.out.mono ?_; rintro e w7 ⟨rfl, rfl⟩)
      | (go_at_call 14; refine HAL1.out.mono ?_; rintro e w7 ⟨rfl, rfl⟩))
    clear HRA1 HAL1
    go_loopw [7, 8] (fun bv iv wr => ∃ (k : Nat) (B : Bool), bv = .bool B ∧ iv = .int .i64 (k : Int) ∧ k ≤ rs.length ∧ Hid (B = (AX && (rs.take k).all fun r => rightB r.zs)) ∧ w1 = wr) (fun _ iv _ => rs.length - (intOf iv).toNat)
    case atStart => exact ⟨0, _, rfl, rfl, Nat.zero_le _, by show _ = _; rw [HX.out]; rfl, by first | rfl | trivial⟩
    case round =>
      clear HX
      obtain ⟨k, B, rfl, rfl, hk, HO, hw⟩ := hrel
      subst hw
      by_cases hlt : k < rs.length
      · have hltz : (k : Int) < (rs.length : Int) := by omega
        obtain ⟨ab, aoff, rfl, ci⟩ := HLD.out w1 k HB1.out hlt
        have HRT := Lib.hid (HRG.out w1 k HB1.out hlt)
        have HNX : Hid (∀ B2, B2 = (B && rightB rs[k]!.zs) → B2 = (AX && (rs.take (k + 1)).all fun r => rightB r.zs)) := fun B2 h => by
          rw [h, HO.out, take_succ! hlt, List.all_append, Bool.and_assoc]; simp
        generalize rightB rs[k]!.zs = R at *
        generalize rs[k]! = x at *
        have hB : B = true ∨ B = false := by cases B <;> simp
        rcases hB with rfl | rfl
        · go_wp2_with (go_at_call 13; refine HRT.out.mono ?_; rintro e w7 ⟨rfl, rfl⟩)
          have HO2 := Lib.hid (HNX.out R (by simp))
          go_roundw
          case rel => exact ⟨k + 1, R, rfl, by go_num, by omega, HO2, by first | rfl | trivial⟩
          case measure => simp [intOf]; omega
        · go_wp2_with fail
          have HO2 := Lib.hid (HNX.out false (by simp))
          go_roundw
          case rel => exact ⟨k + 1, false, rfl, by go_num, by omega, HO2, by first | rfl | trivial⟩
          case measure => simp [intOf]; omega
      · obtain rfl : k = rs.length := by omega
        have hltz : ¬ (rs.length : Int) < (rs.length : Int) := by omega
        rw [List.take_length] at HO
        have HO1 := Lib.hid HO.out
        clear HO HRG HLD
        go_wp2_with fail
        go_loopw [7, 9] (fun bv iv wr => ∃ (k : Nat) (B : Bool), bv = .bool B ∧ iv = .int .i64 (k : Int) ∧ k ≤ us.length ∧ Hid (B = ((AX && rs.all fun r => rightB r.zs) && (us.take k).all (litB m))) ∧ w1 = wr) (fun _ iv _ => us.length - (intOf iv).toNat)
        case atStart => exact ⟨0, B, rfl, rfl, Nat.zero_le _, by show _ = _; rw [HO1.out]; simp, by first | rfl | trivial⟩
        case round =>
          clear HO1
          obtain ⟨k, C, rfl, rfl, hk, HO, hw⟩ := hrel
          subst hw
          by_cases hlt : k < us.length
          · have hltz : (k : Int) < (us.length : Int) := by omega
            obtain ⟨fb, foff, rfl, hcl⟩ := HHO.out w1 k HB1.out hlt
            have HCL := Lib.hid hcl
            have HNX : Hid (∀ B2, B2 = (C && litB m us[k]!) → B2 = ((AX && rs.all fun r => rightB r.zs) && (us.take (k + 1)).all (litB m))) := fun B2 h => by
              rw [h, HO.out, take_succ! hlt, List.all_append, Bool.and_assoc]; simp
            clear hcl
            generalize litB m us[k]! = R at *
            have hB : C = true ∨ C = false := by cases C <;> simp
            rcases hB with rfl | rfl
            · go_wp2_with (go_at_call 15; refine (HCL.out _).mono ?_; rintro e w7 ⟨rfl, rfl⟩)
              have HO2 := Lib.hid (HNX.out R (by simp))
              go_roundw
              case rel => exact ⟨k + 1, R, rfl, by go_num, by omega, HO2, by first | rfl | trivial⟩
              case measure => simp [intOf]; omega
            · go_wp2_with fail
              have HO2 := Lib.hid (HNX.out false (by simp))
              go_roundw
              case rel => exact ⟨k + 1, false, rfl, by go_num, by omega, HO2, by first | rfl | trivial⟩
              case measure => simp [intOf]; omega
          · obtain rfl : k = us.length := by omega
            have hltz : ¬ (us.length : Int) < (us.length : Int) := by omega
            rw [List.take_length] at HO
            have hMC : MB = C := by rw [HO.out]; exact HWX.out
            subst hMC
            have HM1 := Lib.hid (HMD.out w1 HB1.out)
            clear HO HWX HHO HMD
            go_wp2_with fail
            refine HM1.out.mono ?_
            rintro e w8 ⟨rfl, hb8⟩
            go_wp2_with fail
            go_ret
            exact ⟨by simp, HB1.out.trans (hb8.mono HB1.out.size)⟩)

set_option maxHeartbeats 2000000 in
set_option maxRecDepth 100000 in
theorem RupModels_law (rs : List Row) (a : Option Addr) (c : Nat) (m : List Bool) (ma : Option Addr) (mc : Nat) (us : List Int) (f : Option Addr) (g : Nat) (w : World)
    (ht : Tab w) (hrs : RowsIn w a rs) (hlc : rs.length ≤ c) (hcm : c ≤ 9223372036854775807)
    (hm : RowIn Value.bool w ma m) (hml : m.length ≤ 9223372036854775807) (hz : RowIn (Value.int .i64) w f us) (hg : us.length ≤ g) (hg2 : g ≤ 9223372036854775807)
    (hM : ∀ w2, Below w.heap.size w w2 → rs.length ≤ 40 → m.length ≤ 60 → us.length ≤ 20 → Calls Tryd.prog 16 #[.slice a rs.length c, .slice ma m.length mc, .slice f us.length g] w2 fun e w' => e = .returned (.bool (modelB (rs.map Row.zs) m us)) ∧ Below w2.heap.size w2 w') :
    Calls Tryd.prog 4 #[.slice a rs.length c, .slice ma m.length mc, .slice f us.length g] w fun e w' => e = .returned (.bool true) ∧ Below w.heap.size w w' := by
  by_cases hs : smallB (rs.map Row.zs) 40 100000 = true
  · by_cases hm60 : m.length ≤ 60
    · by_cases hz20 : us.length ≤ 20
      · have hl40 : rs.length ≤ 40 := by
          have h := hs
          unfold smallB at h
          rw [Bool.and_eq_true, decide_eq_true_eq, List.length_map] at h
          omega
        exact RupModels_main rs a c m ma mc us f g w ht hrs hlc hcm hs hm hm60 hz hg hg2 hz20 (fun w2 h => hM w2 h hl40 hm60 hz20)
      · have hd1 : decide ((60 : Int) < (m.length : Int)) = false := by rw [decide_eq_false_iff_not]; omega
        have hd2 : (20 : Int) < (us.length : Int) := by omega
        have HS : Hid (∀ w2, Below w.heap.size w w2 → Calls Tryd.prog 8 #[.slice a rs.length c, .int .i64 40, .int .i64 100000] w2 fun e w' => e = .returned (.bool true) ∧ w2 = w') := fun w2 h => by
          have := Small_any a c rs 40 100000 w2 (hrs.below h) hlc hcm
          rwa [hs] at this
        have HT := Lib.hid ht
        clear ht hrs hm hz hM
        go_enter Tryd.func4, Tryd.ntmps4
        go_wp2_with fail
        refine (rup_awake w HT.out).mono ?_
        rintro e w1 ⟨rfl, hb1⟩
        go_wp2_with fail
        refine (HS.out _ hb1).mono ?_
        rintro e w2 ⟨rfl, rfl⟩
        go_wp2_with fail
        refine (rup_awake w1 (HT.out.below hb1)).mono ?_
        rintro e w3 ⟨rfl, hb3⟩
        go_wp2_with fail
        go_ret
        exact ⟨rfl, hb1.trans (hb3.mono hb1.size)⟩
    · have hd1 : (60 : Int) < (m.length : Int) := by omega
      have HS : Hid (∀ w2, Below w.heap.size w w2 → Calls Tryd.prog 8 #[.slice a rs.length c, .int .i64 40, .int .i64 100000] w2 fun e w' => e = .returned (.bool true) ∧ w2 = w') := fun w2 h => by
        have := Small_any a c rs 40 100000 w2 (hrs.below h) hlc hcm
        rwa [hs] at this
      have HT := Lib.hid ht
      clear ht hrs hm hz hM
      go_enter Tryd.func4, Tryd.ntmps4
      go_wp2_with fail
      refine (rup_awake w HT.out).mono ?_
      rintro e w1 ⟨rfl, hb1⟩
      go_wp2_with fail
      refine (HS.out _ hb1).mono ?_
      rintro e w2 ⟨rfl, rfl⟩
      go_wp2_with fail
      refine (rup_awake w1 (HT.out.below hb1)).mono ?_
      rintro e w3 ⟨rfl, hb3⟩
      go_wp2_with fail
      go_ret
      exact ⟨rfl, hb1.trans (hb3.mono hb1.size)⟩
  · have hs2 : smallB (rs.map Row.zs) 40 100000 = false := Bool.not_eq_true _ ▸ hs
    have HS : Hid (∀ w2, Below w.heap.size w w2 → Calls Tryd.prog 8 #[.slice a rs.length c, .int .i64 40, .int .i64 100000] w2 fun e w' => e = .returned (.bool false) ∧ w2 = w') := fun w2 h => by
      have := Small_any a c rs 40 100000 w2 (hrs.below h) hlc hcm
      rwa [hs2] at this
    have HT := Lib.hid ht
    clear ht hrs hm hz hM
    go_enter Tryd.func4, Tryd.ntmps4
    go_wp2_with fail
    refine (rup_awake w HT.out).mono ?_
    rintro e w1 ⟨rfl, hb1⟩
    go_wp2_with fail
    refine (HS.out _ hb1).mono ?_
    rintro e w2 ⟨rfl, rfl⟩
    go_wp2_with fail
    refine (rup_awake w1 (HT.out.below hb1)).mono ?_
    rintro e w3 ⟨rfl, hb3⟩
    go_wp2_with fail
    go_ret
    exact ⟨rfl, hb1.trans (hb3.mono hb1.size)⟩
end Go.Proofs.YthpamogomfleoaaDoor.Cl
