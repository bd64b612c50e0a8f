/- Contract of the document's own Do. -/
import Derived.Test.YtnkcdgpaphphaaaBtW
namespace Go.Proofs.Ytnkcdgpaphphaaa.Gr
open Go Go.RowKit Go.Lib Go.Maps

set_option maxHeartbeats 1000000 in
theorem RDo_0 (a b v : Int) (W : World) (ha : -32768 ≤ a ∧ a ≤ 32768) (hb : -32768 ≤ b ∧ b ≤ 32768) : Calls Try.prog 37 #[.int .i64 0, .int .i64 a, .int .i64 b, .int .i64 v] W fun e w' => e = .returned (.int .i64 (doZ 0 a b (lim v))) ∧ W = w' := by
  obtain ⟨s, hs⟩ : ∃ s, s = a + b := ⟨_, rfl⟩
  have hsb : -9223372036854775808 ≤ s ∧ s ≤ 9223372036854775807 := by
    rw [hs]
    exact (by omega)
  have HT : Hid (Calls Try.prog 33 #[.int .i64 s, .int .i64 v] W fun e w' => e = .returned (.int .i64 (doZ 0 a b (lim v))) ∧ W = w') := by
    have := RTrim_any s v W hsb
    rw [hs] at this ⊢
    exact this
  have e1 : a + b = s := hs.symm
  obtain ⟨hs1, hs2⟩ := hsb
  clear hs ha hb
  go_enter Try.func37, Try.ntmps37
  go_wp2_with fail
  refine HT.out.mono ?_
  rintro e w' ⟨rfl, rfl⟩
  go_wp2_with fail
  go_ret
  exact ⟨rfl, rfl⟩

set_option maxHeartbeats 1000000 in
theorem RDo_1 (a b v : Int) (W : World) (ha : -32768 ≤ a ∧ a ≤ 32768) (hb : -32768 ≤ b ∧ b ≤ 32768) : Calls Try.prog 37 #[.int .i64 1, .int .i64 a, .int .i64 b, .int .i64 v] W fun e w' => e = .returned (.int .i64 (doZ 1 a b (lim v))) ∧ W = w' := by
  obtain ⟨s, hs⟩ : ∃ s, s = a - b := ⟨_, rfl⟩
  have hsb : -9223372036854775808 ≤ s ∧ s ≤ 9223372036854775807 := by
    rw [hs]
    exact (by omega)
  have HT : Hid (Calls Try.prog 33 #[.int .i64 s, .int .i64 v] W fun e w' => e = .returned (.int .i64 (doZ 1 a b (lim v))) ∧ W = w') := by
    have := RTrim_any s v W hsb
    rw [hs] at this ⊢
    exact this
  have e1 : a - b = s := hs.symm
  obtain ⟨hs1, hs2⟩ := hsb
  clear hs ha hb
  go_enter Try.func37, Try.ntmps37
  go_wp2_with fail
  refine HT.out.mono ?_
  rintro e w' ⟨rfl, rfl⟩
  go_wp2_with fail
  go_ret
  exact ⟨rfl, rfl⟩

set_option maxHeartbeats 1000000 in
theorem RDo_2 (a b v : Int) (W : World) (ha : -32768 ≤ a ∧ a ≤ 32768) (hb : -32768 ≤ b ∧ b ≤ 32768) : Calls Try.prog 37 #[.int .i64 2, .int .i64 a, .int .i64 b, .int .i64 v] W fun e w' => e = .returned (.int .i64 (doZ 2 a b (lim v))) ∧ W = w' := by
  obtain ⟨s, hs⟩ : ∃ s, s = a * b := ⟨_, rfl⟩
  have hsb : -9223372036854775808 ≤ s ∧ s ≤ 9223372036854775807 := by
    rw [hs]
    exact (by
      have h1 : -(32768 * 32768) ≤ a * b ∧ a * b ≤ 32768 * 32768 := by
        have ha' : a.natAbs ≤ 32768 := by omega
        have hb' : b.natAbs ≤ 32768 := by omega
        have h := Nat.mul_le_mul ha' hb'
        rw [← Int.natAbs_mul] at h
        omega
      omega)
  have HT : Hid (Calls Try.prog 33 #[.int .i64 s, .int .i64 v] W fun e w' => e = .returned (.int .i64 (doZ 2 a b (lim v))) ∧ W = w') := by
    have := RTrim_any s v W hsb
    rw [hs] at this ⊢
    exact this
  have e1 : a * b = s := hs.symm
  obtain ⟨hs1, hs2⟩ := hsb
  clear hs ha hb
  go_enter Try.func37, Try.ntmps37
  go_wp2_with fail
  refine HT.out.mono ?_
  rintro e w' ⟨rfl, rfl⟩
  go_wp2_with fail
  go_ret
  exact ⟨rfl, rfl⟩

set_option maxHeartbeats 1000000 in
theorem RDo_3 (a b v : Int) (W : World) (ha : -32768 ≤ a ∧ a ≤ 32768) (hb : -32768 ≤ b ∧ b ≤ 32768) : Calls Try.prog 37 #[.int .i64 3, .int .i64 a, .int .i64 b, .int .i64 v] W fun e w' => e = .returned (.int .i64 (doZ 3 a b (lim v))) ∧ W = w' := by
  have HT := fun (s : Int) (h : -32768 ≤ s ∧ s ≤ 32768) => RTrim_any s v W (by omega)
  by_cases hz : b = 0
  · subst hz
    have HE : Hid (doZ 3 a 0 (lim v) = 0) := by show _ = _; simp [doZ]
    clear HT ha hb
    go_enter Try.func37, Try.ntmps37
    go_wp2_with fail
    go_ret
    rw [HE.out]
    exact ⟨rfl, rfl⟩
  · obtain ⟨X, Y, hY, hX1, hY1, hc⟩ : ∃ X Y : Nat, 0 < Y ∧ X ≤ 32768 ∧ Y ≤ 32768 ∧ (((a = (X : Int) ∧ b = (Y : Int)) ∨ (a = (X : Int) ∧ b = -(Y : Int))) ∨ ((0 < X ∧ a = -(X : Int) ∧ b = (Y : Int)) ∨ (0 < X ∧ a = -(X : Int) ∧ b = -(Y : Int)))) := ⟨a.natAbs, b.natAbs, by omega, by omega, by omega, by omega⟩
    have HQ : Hid (∀ q r : Nat, X = q * Y + r → r < Y → X / Y = q ∧ X % Y = r) := fun q r h1 h2 => by
      have e : X = r + Y * q := by rw [h1, Nat.mul_comm]; omega
      rw [e, Nat.add_mul_div_left _ _ hY, Nat.add_mul_mod_self_left, Nat.div_eq_of_lt h2, Nat.mod_eq_of_lt h2]
      exact ⟨by omega, rfl⟩
    clear ha hb hz
    rcases hc with (⟨rfl, rfl⟩ | ⟨rfl, rfl⟩) | (⟨hX, rfl, rfl⟩ | ⟨hX, rfl, rfl⟩)
    · have HD : Hid (∀ q r : Nat, X = q * Y + r → r < Y → doZ 3 ((X : Int)) ((Y : Int)) (lim v) = trimZ ((q : Int)) (lim v)) := fun q r h1 h2 => by
        obtain ⟨d1, d2⟩ := HQ.out q r h1 h2
        have n1 : ((X : Int)).natAbs = X := by omega
        have n2 : ((Y : Int)).natAbs = Y := by omega
        simp only [doZ, n1, n2, d1, d2]
        rw [if_neg (by omega)]
        simp only [show decide ((X : Int) < 0) = false from decide_eq_false (by omega), show decide ((Y : Int) < 0) = false from decide_eq_false (by omega), if_true, if_false, Bool.false_eq_true, bne_self_eq_false, show (false != true) = true from rfl, show (true != false) = true from rfl]
      have a1 : ¬ (X : Int) < 0 := by omega
      have b1 : ¬ (Y : Int) < 0 := by omega
      have b2 : ((Y : Int) == 0) = false := by simp; omega
      have b3 : ¬ (Y : Int) = 0 := by omega
      have hy0 : (0 : Int) < (Y : Int) := by omega
      have HXB := Lib.hid hX1
      go_enter Try.func37, Try.ntmps37
      go_wp2_with fail
      go_loopw [11, 12] (fun qv rv wr => ∃ q r : Nat, qv = .int .i64 (q : Int) ∧ rv = .int .i64 (r : Int) ∧ q ≤ 32768 ∧ r ≤ 32768 ∧ Hid (X = q * Y + r) ∧ SameW wr W) (fun _ rv _ => (RowKit.intOf rv).toNat)
      case atStart => exact ⟨0, X, rfl, rfl, by omega, hX1, by show _ = _; omega, rfl⟩
      case round =>
        obtain ⟨q, r, rfl, rfl, hq1, hr1, hE, HS⟩ := hrel
        obtain rfl : wr = W := HS
        by_cases hlt : Y ≤ r
        · have hlz : (Y : Int) ≤ (r : Int) := by omega
          obtain ⟨s, hs⟩ : ∃ s, s = r - Y := ⟨_, rfl⟩
          have es : (r : Int) - (Y : Int) = (s : Int) := by omega
          have hE2 : Hid (X = (q + 1) * Y + s) := by
            have := hE.out
            show X = _
            rw [Nat.add_mul, Nat.one_mul]; omega
          have hq2 : q + 1 ≤ 32768 := by
            have h1 := hE2.out
            have h2 : q + 1 ≤ (q + 1) * Y := Nat.le_mul_of_pos_right _ hY
            have := HXB.out; omega
          have HSR : Hid (s < r ∧ s ≤ 32768) := ⟨by omega, by omega⟩
          clear hs
          go_wp2_with fail
          go_roundw
          case rel => exact ⟨q + 1, s, by go_num, rfl, hq2, HSR.out.2, hE2, rfl⟩
          case measure => have := HSR.out.1; simp [RowKit.intOf]; omega
        · have hlz : ¬ (Y : Int) ≤ (r : Int) := by omega
          have HT2 := Lib.hid (HT ((q : Int)) (by omega))
          rw [← HD.out q r hE.out (by omega)] at HT2
          clear HT
          go_wp2_with fail
          refine HT2.out.mono ?_
          rintro e w' ⟨rfl, rfl⟩
          go_wp2_with fail
          go_ret
          exact ⟨rfl, rfl⟩
    · have HD : Hid (∀ q r : Nat, X = q * Y + r → r < Y → doZ 3 ((X : Int)) (-(Y : Int)) (lim v) = trimZ (-(q : Int)) (lim v)) := fun q r h1 h2 => by
        obtain ⟨d1, d2⟩ := HQ.out q r h1 h2
        have n1 : ((X : Int)).natAbs = X := by omega
        have n2 : (-(Y : Int)).natAbs = Y := by omega
        simp only [doZ, n1, n2, d1, d2]
        rw [if_neg (by omega)]
        simp only [show decide ((X : Int) < 0) = false from decide_eq_false (by omega), show decide (-(Y : Int) < 0) = true from decide_eq_true (by omega), if_true, if_false, Bool.false_eq_true, bne_self_eq_false, show (false != true) = true from rfl, show (true != false) = true from rfl]
      have a1 : ¬ (X : Int) < 0 := by omega
      have b1 : -(Y : Int) < 0 := by omega
      have b0 : (0 : Int) < (Y : Int) := by omega
      have b2 : (-(Y : Int) == 0) = false := by simp; omega
      have b4 : ((Y : Int) == 0) = false := by simp; omega
      have b3 : ¬ (Y : Int) = 0 := by omega
      have hy0 : (0 : Int) < (Y : Int) := by omega
      have HXB := Lib.hid hX1
      go_enter Try.func37, Try.ntmps37
      go_wp2_with fail
      go_loopw [11, 12] (fun qv rv wr => ∃ q r : Nat, qv = .int .i64 (q : Int) ∧ rv = .int .i64 (r : Int) ∧ q ≤ 32768 ∧ r ≤ 32768 ∧ Hid (X = q * Y + r) ∧ SameW wr W) (fun _ rv _ => (RowKit.intOf rv).toNat)
      case atStart => exact ⟨0, X, rfl, rfl, by omega, hX1, by show _ = _; omega, rfl⟩
      case round =>
        obtain ⟨q, r, rfl, rfl, hq1, hr1, hE, HS⟩ := hrel
        obtain rfl : wr = W := HS
        by_cases hlt : Y ≤ r
        · have hlz : (Y : Int) ≤ (r : Int) := by omega
          obtain ⟨s, hs⟩ : ∃ s, s = r - Y := ⟨_, rfl⟩
          have es : (r : Int) - (Y : Int) = (s : Int) := by omega
          have hE2 : Hid (X = (q + 1) * Y + s) := by
            have := hE.out
            show X = _
            rw [Nat.add_mul, Nat.one_mul]; omega
          have hq2 : q + 1 ≤ 32768 := by
            have h1 := hE2.out
            have h2 : q + 1 ≤ (q + 1) * Y := Nat.le_mul_of_pos_right _ hY
            have := HXB.out; omega
          have HSR : Hid (s < r ∧ s ≤ 32768) := ⟨by omega, by omega⟩
          clear hs
          go_wp2_with fail
          go_roundw
          case rel => exact ⟨q + 1, s, by go_num, rfl, hq2, HSR.out.2, hE2, rfl⟩
          case measure => have := HSR.out.1; simp [RowKit.intOf]; omega
        · have hlz : ¬ (Y : Int) ≤ (r : Int) := by omega
          have HT2 := Lib.hid (HT (-(q : Int)) (by omega))
          rw [← HD.out q r hE.out (by omega)] at HT2
          clear HT
          go_wp2_with fail
          refine HT2.out.mono ?_
          rintro e w' ⟨rfl, rfl⟩
          go_wp2_with fail
          go_ret
          exact ⟨rfl, rfl⟩
    · have HD : Hid (∀ q r : Nat, X = q * Y + r → r < Y → doZ 3 (-(X : Int)) ((Y : Int)) (lim v) = trimZ (-(q : Int)) (lim v)) := fun q r h1 h2 => by
        obtain ⟨d1, d2⟩ := HQ.out q r h1 h2
        have n1 : (-(X : Int)).natAbs = X := by omega
        have n2 : ((Y : Int)).natAbs = Y := by omega
        simp only [doZ, n1, n2, d1, d2]
        rw [if_neg (by omega)]
        simp only [show decide (-(X : Int) < 0) = true from decide_eq_true (by omega), show decide ((Y : Int) < 0) = false from decide_eq_false (by omega), if_true, if_false, Bool.false_eq_true, bne_self_eq_false, show (false != true) = true from rfl, show (true != false) = true from rfl]
      have a1 : -(X : Int) < 0 := by omega
      have a2 : (0 : Int) < (X : Int) := by omega
      have b1 : ¬ (Y : Int) < 0 := by omega
      have b2 : ((Y : Int) == 0) = false := by simp; omega
      have b3 : ¬ (Y : Int) = 0 := by omega
      have hy0 : (0 : Int) < (Y : Int) := by omega
      have HXB := Lib.hid hX1
      go_enter Try.func37, Try.ntmps37
      go_wp2_with fail
      go_loopw [11, 12] (fun qv rv wr => ∃ q r : Nat, qv = .int .i64 (q : Int) ∧ rv = .int .i64 (r : Int) ∧ q ≤ 32768 ∧ r ≤ 32768 ∧ Hid (X = q * Y + r) ∧ SameW wr W) (fun _ rv _ => (RowKit.intOf rv).toNat)
      case atStart => exact ⟨0, X, rfl, rfl, by omega, hX1, by show _ = _; omega, rfl⟩
      case round =>
        obtain ⟨q, r, rfl, rfl, hq1, hr1, hE, HS⟩ := hrel
        obtain rfl : wr = W := HS
        by_cases hlt : Y ≤ r
        · have hlz : (Y : Int) ≤ (r : Int) := by omega
          obtain ⟨s, hs⟩ : ∃ s, s = r - Y := ⟨_, rfl⟩
          have es : (r : Int) - (Y : Int) = (s : Int) := by omega
          have hE2 : Hid (X = (q + 1) * Y + s) := by
            have := hE.out
            show X = _
            rw [Nat.add_mul, Nat.one_mul]; omega
          have hq2 : q + 1 ≤ 32768 := by
            have h1 := hE2.out
            have h2 : q + 1 ≤ (q + 1) * Y := Nat.le_mul_of_pos_right _ hY
            have := HXB.out; omega
          have HSR : Hid (s < r ∧ s ≤ 32768) := ⟨by omega, by omega⟩
          clear hs
          go_wp2_with fail
          go_roundw
          case rel => exact ⟨q + 1, s, by go_num, rfl, hq2, HSR.out.2, hE2, rfl⟩
          case measure => have := HSR.out.1; simp [RowKit.intOf]; omega
        · have hlz : ¬ (Y : Int) ≤ (r : Int) := by omega
          have HT2 := Lib.hid (HT (-(q : Int)) (by omega))
          rw [← HD.out q r hE.out (by omega)] at HT2
          clear HT
          go_wp2_with fail
          refine HT2.out.mono ?_
          rintro e w' ⟨rfl, rfl⟩
          go_wp2_with fail
          go_ret
          exact ⟨rfl, rfl⟩
    · have HD : Hid (∀ q r : Nat, X = q * Y + r → r < Y → doZ 3 (-(X : Int)) (-(Y : Int)) (lim v) = trimZ ((q : Int)) (lim v)) := fun q r h1 h2 => by
        obtain ⟨d1, d2⟩ := HQ.out q r h1 h2
        have n1 : (-(X : Int)).natAbs = X := by omega
        have n2 : (-(Y : Int)).natAbs = Y := by omega
        simp only [doZ, n1, n2, d1, d2]
        rw [if_neg (by omega)]
        simp only [show decide (-(X : Int) < 0) = true from decide_eq_true (by omega), show decide (-(Y : Int) < 0) = true from decide_eq_true (by omega), if_true, if_false, Bool.false_eq_true, bne_self_eq_false, show (false != true) = true from rfl, show (true != false) = true from rfl]
      have a1 : -(X : Int) < 0 := by omega
      have a2 : (0 : Int) < (X : Int) := by omega
      have b1 : -(Y : Int) < 0 := by omega
      have b0 : (0 : Int) < (Y : Int) := by omega
      have b2 : (-(Y : Int) == 0) = false := by simp; omega
      have b4 : ((Y : Int) == 0) = false := by simp; omega
      have b3 : ¬ (Y : Int) = 0 := by omega
      have hy0 : (0 : Int) < (Y : Int) := by omega
      have HXB := Lib.hid hX1
      go_enter Try.func37, Try.ntmps37
      go_wp2_with fail
      go_loopw [11, 12] (fun qv rv wr => ∃ q r : Nat, qv = .int .i64 (q : Int) ∧ rv = .int .i64 (r : Int) ∧ q ≤ 32768 ∧ r ≤ 32768 ∧ Hid (X = q * Y + r) ∧ SameW wr W) (fun _ rv _ => (RowKit.intOf rv).toNat)
      case atStart => exact ⟨0, X, rfl, rfl, by omega, hX1, by show _ = _; omega, rfl⟩
      case round =>
        obtain ⟨q, r, rfl, rfl, hq1, hr1, hE, HS⟩ := hrel
        obtain rfl : wr = W := HS
        by_cases hlt : Y ≤ r
        · have hlz : (Y : Int) ≤ (r : Int) := by omega
          obtain ⟨s, hs⟩ : ∃ s, s = r - Y := ⟨_, rfl⟩
          have es : (r : Int) - (Y : Int) = (s : Int) := by omega
          have hE2 : Hid (X = (q + 1) * Y + s) := by
            have := hE.out
            show X = _
            rw [Nat.add_mul, Nat.one_mul]; omega
          have hq2 : q + 1 ≤ 32768 := by
            have h1 := hE2.out
            have h2 : q + 1 ≤ (q + 1) * Y := Nat.le_mul_of_pos_right _ hY
            have := HXB.out; omega
          have HSR : Hid (s < r ∧ s ≤ 32768) := ⟨by omega, by omega⟩
          clear hs
          go_wp2_with fail
          go_roundw
          case rel => exact ⟨q + 1, s, by go_num, rfl, hq2, HSR.out.2, hE2, rfl⟩
          case measure => have := HSR.out.1; simp [RowKit.intOf]; omega
        · have hlz : ¬ (Y : Int) ≤ (r : Int) := by omega
          have HT2 := Lib.hid (HT ((q : Int)) (by omega))
          rw [← HD.out q r hE.out (by omega)] at HT2
          clear HT
          go_wp2_with fail
          refine HT2.out.mono ?_
          rintro e w' ⟨rfl, rfl⟩
          go_wp2_with fail
          go_ret
          exact ⟨rfl, rfl⟩

set_option maxHeartbeats 1000000 in
theorem RDo_4 (a b v : Int) (W : World) (ha : -32768 ≤ a ∧ a ≤ 32768) (hb : -32768 ≤ b ∧ b ≤ 32768) : Calls Try.prog 37 #[.int .i64 4, .int .i64 a, .int .i64 b, .int .i64 v] W fun e w' => e = .returned (.int .i64 (doZ 4 a b (lim v))) ∧ W = w' := by
  have HT := fun (s : Int) (h : -32768 ≤ s ∧ s ≤ 32768) => RTrim_any s v W (by omega)
  by_cases hz : b = 0
  · subst hz
    have HE : Hid (doZ 4 a 0 (lim v) = 0) := by show _ = _; simp [doZ]
    clear HT ha hb
    go_enter Try.func37, Try.ntmps37
    go_wp2_with fail
    go_ret
    rw [HE.out]
    exact ⟨rfl, rfl⟩
  · obtain ⟨X, Y, hY, hX1, hY1, hc⟩ : ∃ X Y : Nat, 0 < Y ∧ X ≤ 32768 ∧ Y ≤ 32768 ∧ (((a = (X : Int) ∧ b = (Y : Int)) ∨ (a = (X : Int) ∧ b = -(Y : Int))) ∨ ((0 < X ∧ a = -(X : Int) ∧ b = (Y : Int)) ∨ (0 < X ∧ a = -(X : Int) ∧ b = -(Y : Int)))) := ⟨a.natAbs, b.natAbs, by omega, by omega, by omega, by omega⟩
    have HQ : Hid (∀ q r : Nat, X = q * Y + r → r < Y → X / Y = q ∧ X % Y = r) := fun q r h1 h2 => by
      have e : X = r + Y * q := by rw [h1, Nat.mul_comm]; omega
      rw [e, Nat.add_mul_div_left _ _ hY, Nat.add_mul_mod_self_left, Nat.div_eq_of_lt h2, Nat.mod_eq_of_lt h2]
      exact ⟨by omega, rfl⟩
    clear ha hb hz
    rcases hc with (⟨rfl, rfl⟩ | ⟨rfl, rfl⟩) | (⟨hX, rfl, rfl⟩ | ⟨hX, rfl, rfl⟩)
    · have HD : Hid (∀ q r : Nat, X = q * Y + r → r < Y → doZ 4 ((X : Int)) ((Y : Int)) (lim v) = trimZ ((r : Int)) (lim v)) := fun q r h1 h2 => by
        obtain ⟨d1, d2⟩ := HQ.out q r h1 h2
        have n1 : ((X : Int)).natAbs = X := by omega
        have n2 : ((Y : Int)).natAbs = Y := by omega
        simp only [doZ, n1, n2, d1, d2]
        rw [if_neg (by omega)]
        simp only [show decide ((X : Int) < 0) = false from decide_eq_false (by omega), if_true, if_false, Bool.false_eq_true, bne_self_eq_false, show (false != true) = true from rfl, show (true != false) = true from rfl]
      have a1 : ¬ (X : Int) < 0 := by omega
      have b1 : ¬ (Y : Int) < 0 := by omega
      have b2 : ((Y : Int) == 0) = false := by simp; omega
      have b3 : ¬ (Y : Int) = 0 := by omega
      have hy0 : (0 : Int) < (Y : Int) := by omega
      have HXB := Lib.hid hX1
      go_enter Try.func37, Try.ntmps37
      go_wp2_with fail
      go_loopw [11, 12] (fun qv rv wr => ∃ q r : Nat, qv = .int .i64 (q : Int) ∧ rv = .int .i64 (r : Int) ∧ q ≤ 32768 ∧ r ≤ 32768 ∧ Hid (X = q * Y + r) ∧ SameW wr W) (fun _ rv _ => (RowKit.intOf rv).toNat)
      case atStart => exact ⟨0, X, rfl, rfl, by omega, hX1, by show _ = _; omega, rfl⟩
      case round =>
        obtain ⟨q, r, rfl, rfl, hq1, hr1, hE, HS⟩ := hrel
        obtain rfl : wr = W := HS
        by_cases hlt : Y ≤ r
        · have hlz : (Y : Int) ≤ (r : Int) := by omega
          obtain ⟨s, hs⟩ : ∃ s, s = r - Y := ⟨_, rfl⟩
          have es : (r : Int) - (Y : Int) = (s : Int) := by omega
          have hE2 : Hid (X = (q + 1) * Y + s) := by
            have := hE.out
            show X = _
            rw [Nat.add_mul, Nat.one_mul]; omega
          have hq2 : q + 1 ≤ 32768 := by
            have h1 := hE2.out
            have h2 : q + 1 ≤ (q + 1) * Y := Nat.le_mul_of_pos_right _ hY
            have := HXB.out; omega
          have HSR : Hid (s < r ∧ s ≤ 32768) := ⟨by omega, by omega⟩
          clear hs
          go_wp2_with fail
          go_roundw
          case rel => exact ⟨q + 1, s, by go_num, rfl, hq2, HSR.out.2, hE2, rfl⟩
          case measure => have := HSR.out.1; simp [RowKit.intOf]; omega
        · have hlz : ¬ (Y : Int) ≤ (r : Int) := by omega
          have HT2 := Lib.hid (HT ((r : Int)) (by omega))
          rw [← HD.out q r hE.out (by omega)] at HT2
          clear HT
          go_wp2_with fail
          refine HT2.out.mono ?_
          rintro e w' ⟨rfl, rfl⟩
          go_wp2_with fail
          go_ret
          exact ⟨rfl, rfl⟩
    · have HD : Hid (∀ q r : Nat, X = q * Y + r → r < Y → doZ 4 ((X : Int)) (-(Y : Int)) (lim v) = trimZ ((r : Int)) (lim v)) := fun q r h1 h2 => by
        obtain ⟨d1, d2⟩ := HQ.out q r h1 h2
        have n1 : ((X : Int)).natAbs = X := by omega
        have n2 : (-(Y : Int)).natAbs = Y := by omega
        simp only [doZ, n1, n2, d1, d2]
        rw [if_neg (by omega)]
        simp only [show decide ((X : Int) < 0) = false from decide_eq_false (by omega), if_true, if_false, Bool.false_eq_true, bne_self_eq_false, show (false != true) = true from rfl, show (true != false) = true from rfl]
      have a1 : ¬ (X : Int) < 0 := by omega
      have b1 : -(Y : Int) < 0 := by omega
      have b0 : (0 : Int) < (Y : Int) := by omega
      have b2 : (-(Y : Int) == 0) = false := by simp; omega
      have b4 : ((Y : Int) == 0) = false := by simp; omega
      have b3 : ¬ (Y : Int) = 0 := by omega
      have hy0 : (0 : Int) < (Y : Int) := by omega
      have HXB := Lib.hid hX1
      go_enter Try.func37, Try.ntmps37
      go_wp2_with fail
      go_loopw [11, 12] (fun qv rv wr => ∃ q r : Nat, qv = .int .i64 (q : Int) ∧ rv = .int .i64 (r : Int) ∧ q ≤ 32768 ∧ r ≤ 32768 ∧ Hid (X = q * Y + r) ∧ SameW wr W) (fun _ rv _ => (RowKit.intOf rv).toNat)
      case atStart => exact ⟨0, X, rfl, rfl, by omega, hX1, by show _ = _; omega, rfl⟩
      case round =>
        obtain ⟨q, r, rfl, rfl, hq1, hr1, hE, HS⟩ := hrel
        obtain rfl : wr = W := HS
        by_cases hlt : Y ≤ r
        · have hlz : (Y : Int) ≤ (r : Int) := by omega
          obtain ⟨s, hs⟩ : ∃ s, s = r - Y := ⟨_, rfl⟩
          have es : (r : Int) - (Y : Int) = (s : Int) := by omega
          have hE2 : Hid (X = (q + 1) * Y + s) := by
            have := hE.out
            show X = _
            rw [Nat.add_mul, Nat.one_mul]; omega
          have hq2 : q + 1 ≤ 32768 := by
            have h1 := hE2.out
            have h2 : q + 1 ≤ (q + 1) * Y := Nat.le_mul_of_pos_right _ hY
            have := HXB.out; omega
          have HSR : Hid (s < r ∧ s ≤ 32768) := ⟨by omega, by omega⟩
          clear hs
          go_wp2_with fail
          go_roundw
          case rel => exact ⟨q + 1, s, by go_num, rfl, hq2, HSR.out.2, hE2, rfl⟩
          case measure => have := HSR.out.1; simp [RowKit.intOf]; omega
        · have hlz : ¬ (Y : Int) ≤ (r : Int) := by omega
          have HT2 := Lib.hid (HT ((r : Int)) (by omega))
          rw [← HD.out q r hE.out (by omega)] at HT2
          clear HT
          go_wp2_with fail
          refine HT2.out.mono ?_
          rintro e w' ⟨rfl, rfl⟩
          go_wp2_with fail
          go_ret
          exact ⟨rfl, rfl⟩
    · have HD : Hid (∀ q r : Nat, X = q * Y + r → r < Y → doZ 4 (-(X : Int)) ((Y : Int)) (lim v) = trimZ (-(r : Int)) (lim v)) := fun q r h1 h2 => by
        obtain ⟨d1, d2⟩ := HQ.out q r h1 h2
        have n1 : (-(X : Int)).natAbs = X := by omega
        have n2 : ((Y : Int)).natAbs = Y := by omega
        simp only [doZ, n1, n2, d1, d2]
        rw [if_neg (by omega)]
        simp only [show decide (-(X : Int) < 0) = true from decide_eq_true (by omega), if_true, if_false, Bool.false_eq_true, bne_self_eq_false, show (false != true) = true from rfl, show (true != false) = true from rfl]
      have a1 : -(X : Int) < 0 := by omega
      have a2 : (0 : Int) < (X : Int) := by omega
      have b1 : ¬ (Y : Int) < 0 := by omega
      have b2 : ((Y : Int) == 0) = false := by simp; omega
      have b3 : ¬ (Y : Int) = 0 := by omega
      have hy0 : (0 : Int) < (Y : Int) := by omega
      have HXB := Lib.hid hX1
      go_enter Try.func37, Try.ntmps37
      go_wp2_with fail
      go_loopw [11, 12] (fun qv rv wr => ∃ q r : Nat, qv = .int .i64 (q : Int) ∧ rv = .int .i64 (r : Int) ∧ q ≤ 32768 ∧ r ≤ 32768 ∧ Hid (X = q * Y + r) ∧ SameW wr W) (fun _ rv _ => (RowKit.intOf rv).toNat)
      case atStart => exact ⟨0, X, rfl, rfl, by omega, hX1, by show _ = _; omega, rfl⟩
      case round =>
        obtain ⟨q, r, rfl, rfl, hq1, hr1, hE, HS⟩ := hrel
        obtain rfl : wr = W := HS
        by_cases hlt : Y ≤ r
        · have hlz : (Y : Int) ≤ (r : Int) := by omega
          obtain ⟨s, hs⟩ : ∃ s, s = r - Y := ⟨_, rfl⟩
          have es : (r : Int) - (Y : Int) = (s : Int) := by omega
          have hE2 : Hid (X = (q + 1) * Y + s) := by
            have := hE.out
            show X = _
            rw [Nat.add_mul, Nat.one_mul]; omega
          have hq2 : q + 1 ≤ 32768 := by
            have h1 := hE2.out
            have h2 : q + 1 ≤ (q + 1) * Y := Nat.le_mul_of_pos_right _ hY
            have := HXB.out; omega
          have HSR : Hid (s < r ∧ s ≤ 32768) := ⟨by omega, by omega⟩
          clear hs
          go_wp2_with fail
          go_roundw
          case rel => exact ⟨q + 1, s, by go_num, rfl, hq2, HSR.out.2, hE2, rfl⟩
          case measure => have := HSR.out.1; simp [RowKit.intOf]; omega
        · have hlz : ¬ (Y : Int) ≤ (r : Int) := by omega
          have HT2 := Lib.hid (HT (-(r : Int)) (by omega))
          rw [← HD.out q r hE.out (by omega)] at HT2
          clear HT
          go_wp2_with fail
          refine HT2.out.mono ?_
          rintro e w' ⟨rfl, rfl⟩
          go_wp2_with fail
          go_ret
          exact ⟨rfl, rfl⟩
    · have HD : Hid (∀ q r : Nat, X = q * Y + r → r < Y → doZ 4 (-(X : Int)) (-(Y : Int)) (lim v) = trimZ (-(r : Int)) (lim v)) := fun q r h1 h2 => by
        obtain ⟨d1, d2⟩ := HQ.out q r h1 h2
        have n1 : (-(X : Int)).natAbs = X := by omega
        have n2 : (-(Y : Int)).natAbs = Y := by omega
        simp only [doZ, n1, n2, d1, d2]
        rw [if_neg (by omega)]
        simp only [show decide (-(X : Int) < 0) = true from decide_eq_true (by omega), if_true, if_false, Bool.false_eq_true, bne_self_eq_false, show (false != true) = true from rfl, show (true != false) = true from rfl]
      have a1 : -(X : Int) < 0 := by omega
      have a2 : (0 : Int) < (X : Int) := by omega
      have b1 : -(Y : Int) < 0 := by omega
      have b0 : (0 : Int) < (Y : Int) := by omega
      have b2 : (-(Y : Int) == 0) = false := by simp; omega
      have b4 : ((Y : Int) == 0) = false := by simp; omega
      have b3 : ¬ (Y : Int) = 0 := by omega
      have hy0 : (0 : Int) < (Y : Int) := by omega
      have HXB := Lib.hid hX1
      go_enter Try.func37, Try.ntmps37
      go_wp2_with fail
      go_loopw [11, 12] (fun qv rv wr => ∃ q r : Nat, qv = .int .i64 (q : Int) ∧ rv = .int .i64 (r : Int) ∧ q ≤ 32768 ∧ r ≤ 32768 ∧ Hid (X = q * Y + r) ∧ SameW wr W) (fun _ rv _ => (RowKit.intOf rv).toNat)
      case atStart => exact ⟨0, X, rfl, rfl, by omega, hX1, by show _ = _; omega, rfl⟩
      case round =>
        obtain ⟨q, r, rfl, rfl, hq1, hr1, hE, HS⟩ := hrel
        obtain rfl : wr = W := HS
        by_cases hlt : Y ≤ r
        · have hlz : (Y : Int) ≤ (r : Int) := by omega
          obtain ⟨s, hs⟩ : ∃ s, s = r - Y := ⟨_, rfl⟩
          have es : (r : Int) - (Y : Int) = (s : Int) := by omega
          have hE2 : Hid (X = (q + 1) * Y + s) := by
            have := hE.out
            show X = _
            rw [Nat.add_mul, Nat.one_mul]; omega
          have hq2 : q + 1 ≤ 32768 := by
            have h1 := hE2.out
            have h2 : q + 1 ≤ (q + 1) * Y := Nat.le_mul_of_pos_right _ hY
            have := HXB.out; omega
          have HSR : Hid (s < r ∧ s ≤ 32768) := ⟨by omega, by omega⟩
          clear hs
          go_wp2_with fail
          go_roundw
          case rel => exact ⟨q + 1, s, by go_num, rfl, hq2, HSR.out.2, hE2, rfl⟩
          case measure => have := HSR.out.1; simp [RowKit.intOf]; omega
        · have hlz : ¬ (Y : Int) ≤ (r : Int) := by omega
          have HT2 := Lib.hid (HT (-(r : Int)) (by omega))
          rw [← HD.out q r hE.out (by omega)] at HT2
          clear HT
          go_wp2_with fail
          refine HT2.out.mono ?_
          rintro e w' ⟨rfl, rfl⟩
          go_wp2_with fail
          go_ret
          exact ⟨rfl, rfl⟩

theorem RDo_any (op : Nat) (hop : op < 5) (a b v : Int) (W : World) (ha : -32768 ≤ a ∧ a ≤ 32768) (hb : -32768 ≤ b ∧ b ≤ 32768) : Calls Try.prog 37 #[.int .i64 (op : Int), .int .i64 a, .int .i64 b, .int .i64 v] W fun e w' => e = .returned (.int .i64 (doZ op a b (lim v))) ∧ W = w' := by
  match op, hop with
  | 0, _ => exact RDo_0 a b v W ha hb
  | 1, _ => exact RDo_1 a b v W ha hb
  | 2, _ => exact RDo_2 a b v W ha hb
  | 3, _ => exact RDo_3 a b v W ha hb
  | 4, _ => exact RDo_4 a b v W ha hb
end Go.Proofs.Ytnkcdgpaphphaaa.Gr
