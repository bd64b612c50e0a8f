/- The laws ClauseNorms and ClauseForms as contracts, for whatever slices. -/
import Derived.Test.YtiimdehcfkoemaaDoorClQ
namespace Go.Proofs.YtiimdehcfkoemaaDoor.Cl
open Go Go.RowKit Go.Lib Go.Sort

theorem RefNorm_any (a : Option Addr) (c : Nat) (zs : List Int) (w : World) (hr : RowIn (Value.int .i64) w a zs) (hl : zs.length ≤ 1000) :
    Calls Tryd.prog 11 #[.slice a zs.length c] w (Normed w zs) := by
  cases h : rightB zs with
  | true => exact RefNorm_yes a c zs w hr hl h
  | false => exact RefNorm_no a c zs w hr hl h

theorem holdsB_nf (zs : List Int) (m : List Bool) : holdsB (nf zs) m = holdsB zs m := by
  unfold holdsB
  rw [Bool.eq_iff_iff, List.any_eq_true, List.any_eq_true]
  exact ⟨fun ⟨x, h1, h2⟩ => ⟨x, (mem_nf x zs).1 h1, h2⟩, fun ⟨x, h1, h2⟩ => ⟨x, (mem_nf x zs).2 h1, h2⟩⟩
/-- What is idle holds. -/
theorem holdsB_idle {zs : List Int} (hok : rightB zs = true) (h : oppB (nf zs) = true) (m : List Bool) : holdsB zs m = true := by
  unfold oppB at h
  obtain ⟨i, hi, h6⟩ := List.any_eq_true.1 h
  rw [List.mem_range] at hi
  rw [Bool.and_eq_true, decide_eq_true_eq, decide_eq_true_eq] at h6
  have m1 := getElem!_mem hi
  have m0 : (nf zs)[i - 1]! ∈ nf zs := getElem!_mem (by omega)
  rw [h6.2] at m1
  generalize (nf zs)[i - 1]! = x at *
  have z0 := (mem_nf _ _).1 m0
  have z1 := (mem_nf _ _).1 m1
  have l0 := List.all_eq_true.1 hok _ z0
  have l1 := List.all_eq_true.1 hok _ z1
  have hx := (isLit_iff x).1 l0
  have hvr : vr (-x) = vr x := by unfold vr; omega
  unfold holdsB
  rw [List.any_eq_true]
  cases hb : valB (vr x) m with
  | true =>
    by_cases hp : 0 < x
    · exact ⟨x, z0, by unfold litB; rw [l0, hb]; simpa using hp⟩
    · exact ⟨-x, z1, by unfold litB; rw [l1, hvr, hb]; simp; omega⟩
  | false =>
    by_cases hp : 0 < x
    · exact ⟨-x, z1, by unfold litB; rw [l1, hvr, hb]; simp; omega⟩
    · exact ⟨x, z0, by unfold litB; rw [l0, hb]; simp; omega⟩

set_option maxHeartbeats 4000000 in
set_option maxRecDepth 100000 in
theorem ClauseNorms_main (a : Option Addr) (c : Nat) (zs : List Int) (ma : Option Addr) (mc : Nat) (m : List Bool) (w : World) (ht : Tab w) (hr : RowIn (Value.int .i64) w a zs) (h40 : zs.length ≤ 40) (hm : RowIn Value.bool w ma m) (h60 : m.length ≤ 60) :
    Calls Tryd.prog 3 #[.slice a zs.length c, .slice ma m.length mc] w fun e w' => e = .returned (.bool true) ∧ Below w.heap.size w w' := by
  have HT := Lib.hid ht
  have HR := Lib.hid hr
  have HM := Lib.hid hm
  have HH : Hid (∀ w2, Below w.heap.size w w2 → Calls Tryd.prog 15 #[.slice a zs.length c, .slice ma m.length mc] w2 fun e w' => e = .returned (.bool (holdsB zs m)) ∧ Below w2.heap.size w2 w') := fun w2 h => Holds_any a c zs ma mc m w2 (hr.below h) (by omega) (hm.below h)
  have HRH : Hid (∀ w2, Below w.heap.size w w2 → Calls Tryd.prog 16 #[.slice a zs.length c, .slice ma m.length mc] w2 fun e w' => e = .returned (.bool (holdsB zs m)) ∧ w2 = w') := fun w2 h => RefHolds_any a c zs ma mc m w2 (hr.below h) (by omega) (hm.below h)
  have HRI : Hid (∀ w2, Below w.heap.size w w2 → Calls Tryd.prog 13 #[.slice a zs.length c] w2 fun e w' => e = .returned (.bool (rightB zs)) ∧ ∃ n, w' = w2.drewN n) := fun w2 h => Right_any a c zs w2 (hr.below h) (by omega)
  have HRR : Hid (∀ w2, Below w.heap.size w w2 → Calls Tryd.prog 14 #[.slice a zs.length c] w2 fun e w' => e = .returned (.bool (rightB zs)) ∧ w2 = w') := fun w2 h => RefRight_any a c zs w2 (hr.below h) (by omega)
  have HNL : Hid ((normL zs).length ≤ 40) := by
    show _ ≤ _; unfold normL; split
    · have := nf_length zs; omega
    · simp
  have HNH : Hid (rightB zs = true → holdsB (normL zs) m = holdsB zs m) := fun h => by rw [normL_yes h, holdsB_nf]
  have HNX : Hid (rightB zs = true → normX zs = true → holdsB zs m = true) := fun h hx => by rw [normX_yes h] at hx; exact holdsB_idle h hx m
  have hd1 : decide ((40 : Int) < (zs.length : Int)) = false := by rw [decide_eq_false_iff_not]; omega
  have hd2 : decide ((60 : Int) < (m.length : Int)) = false := by rw [decide_eq_false_iff_not]; omega
  clear ht hr hm
  generalize holdsB zs m = h at *
  generalize rightB zs = r at *
  have hhh : (h != h) = false := by simp
  have hhe : (h == h) = true := by simp
  have hrr : (r != r) = false := by simp
  go_enter Tryd.func3, Tryd.ntmps3
  go_wp2_with fail
  refine (awake_any _ HT.out).mono ?_
  rintro e w1 ⟨rfl, hb1⟩
  go_wp2_with fail
  refine (Norm_any a c zs w1 (HR.out.below hb1) (by omega)).mono ?_
  rintro e w3 ⟨a3, c3, rfl, hrow3, _, hb3⟩
  have hB3 := hb1.trans (hb3.mono hb1.size)
  have HR3 := Lib.hid hrow3
  clear hrow3
  go_wp2_with fail
  refine (RefNorm_any a c zs w3 (HR.out.below hB3) (by omega)).mono ?_
  rintro e w4 ⟨a4, c4, rfl, hrow4, _, hb4⟩
  have hB4 := hB3.trans (hb4.mono hB3.size)
  have HR4 := Lib.hid hrow4
  have HR34 := Lib.hid (HR3.out.below hb4)
  clear hrow4 HR3
  go_wp2_with fail
  refine (Ints_any a3 a4 c3 c4 (normL zs) (normL zs) w4 HR34.out HR4.out (by have := HNL.out; omega)).mono ?_
  rintro e w5 ⟨rfl, q5, rfl⟩
  rw [show decide (normL zs = normL zs) = true by simp]
  have hB5 := below_drewN' hB4 q5
  have HR5 := Lib.hid (HR34.out.below (below_drewN' (Below.refl _ _) q5))
  obtain ⟨w5, hw5⟩ : ∃ w5, w5 = w4.drewN q5 := ⟨_, rfl⟩
  rw [← hw5] at hB5 HR5
  rw [← hw5]
  clear HR4 HR34 hw5 hb4 hB4 hB3 hb3 hb1
  have HNHc : Hid (∀ w2, Below w5.heap.size w5 w2 → Calls Tryd.prog 15 #[.slice a3 (normL zs).length c3, .slice ma m.length mc] w2 fun e w' => e = .returned (.bool (holdsB (normL zs) m)) ∧ Below w2.heap.size w2 w') := fun w2 h' => Holds_any a3 c3 (normL zs) ma mc m w2 (HR5.out.below h') (by have := HNL.out; omega) (HM.out.below (hB5.trans (h'.mono hB5.size)))
  generalize normL zs = R at *
  generalize normX zs = x at *
  have hxx : (x != x) = false := by simp
  go_wp2_with fail
  refine (HRI.out _ hB5).mono ?_
  rintro e w6 ⟨rfl, q6, rfl⟩
  have hB6 := below_drewN' hB5 q6
  have hB56 := below_drewN' (Below.refl w5.heap.size w5) q6
  obtain ⟨w6, hw6⟩ : ∃ w6, w6 = w5.drewN q6 := ⟨_, rfl⟩
  rw [← hw6] at hB6 hB56
  rw [← hw6]
  clear hw6
  go_wp2_with fail
  refine (HRR.out _ hB6).mono ?_
  rintro e w7 ⟨rfl, rfl⟩
  go_wp2_with fail
  refine (HH.out _ hB6).mono ?_
  rintro e w8 ⟨rfl, hb8⟩
  have hB8 := hB6.trans (hb8.mono hB6.size)
  have hB58 := hB56.trans (hb8.mono hB56.size)
  go_wp2_with fail
  refine (HRH.out _ hB8).mono ?_
  rintro e w9 ⟨rfl, rfl⟩
  go_wp2_with fail
  refine (HRR.out _ hB8).mono ?_
  rintro e w10 ⟨rfl, rfl⟩
  cases r with
  | false =>
    go_wp2_with fail
    go_ret
    exact ⟨rfl, hB8⟩
  | true =>
    go_wp2_with fail
    refine (HNHc.out _ hB58).mono ?_
    rintro e w11 ⟨rfl, hb11⟩
    rw [HNH.out (by trivial)]
    have hB11 := hB8.trans (hb11.mono hB8.size)
    go_wp2_with fail
    refine (HH.out _ hB11).mono ?_
    rintro e w12 ⟨rfl, hb12⟩
    have hB12 := hB11.trans (hb12.mono hB11.size)
    cases x with
    | false =>
      go_wp2_with fail
      go_ret
      exact ⟨rfl, hB12⟩
    | true =>
      go_wp2_with fail
      refine (HH.out _ hB12).mono ?_
      rintro e w13 ⟨rfl, hb13⟩
      rw [HNX.out (by trivial) (by trivial)]
      go_wp2_with fail
      go_ret
      exact ⟨rfl, hB12.trans (hb13.mono hB12.size)⟩

set_option maxHeartbeats 2000000 in
theorem ClauseNorms_law (a : Option Addr) (c : Nat) (zs : List Int) (ma : Option Addr) (mc : Nat) (m : List Bool) (w : World) (ht : Tab w) (hr : RowIn (Value.int .i64) w a zs) (hl : zs.length ≤ 9223372036854775807) (hm : RowIn Value.bool w ma m) (hml : m.length ≤ 9223372036854775807) :
    Calls Tryd.prog 3 #[.slice a zs.length c, .slice ma m.length mc] w fun e w' => e = .returned (.bool true) ∧ Below w.heap.size w w' := by
  have HT := Lib.hid ht
  by_cases h40 : zs.length ≤ 40
  · by_cases h60 : m.length ≤ 60
    · exact ClauseNorms_main a c zs ma mc m w ht hr h40 hm h60
    · have hd1 : decide ((40 : Int) < (zs.length : Int)) = false := by rw [decide_eq_false_iff_not]; omega
      have hd2 : (60 : Int) < (m.length : Int) := by omega
      clear ht hr hm
      go_enter Tryd.func3, Tryd.ntmps3
      go_wp2_with fail
      refine (awake_any _ HT.out).mono ?_
      rintro e w1 ⟨rfl, hb1⟩
      go_wp2_with fail
      refine (awake_any _ (HT.out.below hb1)).mono ?_
      rintro e w2 ⟨rfl, hb2⟩
      go_wp2_with fail
      go_ret
      exact ⟨rfl, hb1.trans (hb2.mono hb1.size)⟩
  · have hd1 : (40 : Int) < (zs.length : Int) := by omega
    clear ht hr hm
    go_enter Tryd.func3, Tryd.ntmps3
    go_wp2_with fail
    refine (awake_any _ HT.out).mono ?_
    rintro e w1 ⟨rfl, hb1⟩
    go_wp2_with fail
    refine (awake_any _ (HT.out.below hb1)).mono ?_
    rintro e w2 ⟨rfl, hb2⟩
    go_wp2_with fail
    go_ret
    exact ⟨rfl, hb1.trans (hb2.mono hb1.size)⟩

set_option maxHeartbeats 2000000 in
theorem ClauseForms_law (a : Option Addr) (c : Nat) (zs : List Int) (w : World) (ht : Tab w) (hr : RowIn (Value.int .i64) w a zs) (hl : zs.length ≤ 9223372036854775807) :
    Calls Tryd.prog 7 #[.slice a zs.length c] w fun e w' => e = .returned (.bool true) ∧ Below w.heap.size w w' := by
  have HT := Lib.hid ht
  by_cases h40 : zs.length ≤ 40
  · cases hok : rightB zs with
    | true => exact ClauseForms_yes a c zs w ht hr h40 hok
    | false =>
      have HRR : Hid (∀ w2, Below w.heap.size w w2 → Calls Tryd.prog 14 #[.slice a zs.length c] w2 fun e w' => e = .returned (.bool false) ∧ w2 = w') := fun w2 h => by
        have := RefRight_any a c zs w2 (hr.below h) (by omega); rwa [hok] at this
      have hd1 : decide ((40 : Int) < (zs.length : Int)) = false := by rw [decide_eq_false_iff_not]; omega
      clear ht hr hok
      go_enter Tryd.func7, Tryd.ntmps7
      go_wp2_with fail
      refine (awake_any _ HT.out).mono ?_
      rintro e w1 ⟨rfl, hb1⟩
      go_wp2_with fail
      refine (HRR.out _ hb1).mono ?_
      rintro e w2 ⟨rfl, rfl⟩
      go_wp2_with fail
      refine (awake_any _ (HT.out.below hb1)).mono ?_
      rintro e w2 ⟨rfl, hb2⟩
      go_wp2_with fail
      go_ret
      exact ⟨rfl, hb1.trans (hb2.mono hb1.size)⟩
  · have hd1 : (40 : Int) < (zs.length : Int) := by omega
    clear ht hr
    go_enter Tryd.func7, Tryd.ntmps7
    go_wp2_with fail
    refine (awake_any _ HT.out).mono ?_
    rintro e w1 ⟨rfl, hb1⟩
    go_wp2_with fail
    refine (awake_any _ (HT.out.below hb1)).mono ?_
    rintro e w2 ⟨rfl, hb2⟩
    go_wp2_with fail
    go_ret
    exact ⟨rfl, hb1.trans (hb2.mono hb1.size)⟩
end Go.Proofs.YtiimdehcfkoemaaDoor.Cl
