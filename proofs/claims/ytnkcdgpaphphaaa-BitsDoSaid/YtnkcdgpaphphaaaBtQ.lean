/- Contracts of the document's own Trim, Do. -/
import Derived.Test.YtnkcdgpaphphaaaBtO
namespace Go.Proofs.Ytnkcdgpaphphaaa.Gr
open Go Go.RowKit Go.Lib Go.Maps

theorem tmod_emod (n : Int) (m : Nat) (hm : 0 < m) : (-(m : Int) < n.tmod m ∧ n.tmod m < m) ∧ n % (m : Int) = if n.tmod m < 0 then n.tmod m + m else n.tmod m := by
  have h1 : n = (m : Int) * n.tdiv m + n.tmod m := (Int.mul_tdiv_add_tmod n m).symm
  have hb : -(m : Int) < n.tmod m ∧ n.tmod m < m := by
    have hp : (0 : Int) < m := by omega
    have l1 := Int.tmod_lt_of_pos n hp
    have l2 := Int.tmod_lt_of_pos (-n) hp
    rw [Int.neg_tmod] at l2
    omega
  refine ⟨hb, ?_⟩
  generalize n.tmod m = r at *
  rw [h1, Int.add_comm, Int.add_mul_emod_self_left]
  split
  · rw [← Int.add_emod_right, Int.emod_eq_of_lt (by omega) (by omega)]
  · rw [Int.emod_eq_of_lt (by omega) (by omega)]
/-- What the document's Trim does, in four ways. -/
theorem trim_ways (n : Int) {w m p : Nat} (hw : 0 < w) (hm : m = 2 ^ w) (hp : p = 2 ^ (w - 1)) : (m : Int) = 2 * (p : Int) ∧ 0 < p ∧ (-(m : Int) < n.tmod m ∧ n.tmod m < m) ∧
    (n.tmod m < 0 → (p : Int) ≤ n.tmod m + m → trimZ n w = n.tmod m + m - m) ∧ (n.tmod m < 0 → n.tmod m + m < (p : Int) → trimZ n w = n.tmod m + m) ∧
    (0 ≤ n.tmod m → (p : Int) ≤ n.tmod m → trimZ n w = n.tmod m - m) ∧ (0 ≤ n.tmod m → n.tmod m < (p : Int) → trimZ n w = n.tmod m) := by
  have h2 := pow_half hw
  have hpp := pow_pos' (w - 1)
  rw [← hm, ← hp] at h2
  rw [← hp] at hpp
  obtain ⟨hb, he⟩ := tmod_emod n m (by omega)
  have ht : trimZ n w = if n % (m : Int) < ((m : Int) + 1) / 2 then n % (m : Int) else n % (m : Int) - m := by rw [hm]; rfl
  rw [ht, he]
  generalize n.tmod m = r at *
  refine ⟨by omega, hpp, hb, fun a b => ?_, fun a b => ?_, fun a b => ?_, fun a b => ?_⟩
  · rw [if_pos a, if_neg (by omega)]
  · rw [if_pos a, if_pos (by omega)]
  · rw [if_neg (show ¬ r < 0 by omega), if_neg (by omega)]
  · rw [if_neg (show ¬ r < 0 by omega), if_pos (by omega)]

set_option maxRecDepth 100000 in
set_option maxHeartbeats 1000000 in
theorem RTrim_any (n v : Int) (W : World) (hn : -9223372036854775808 ≤ n ∧ n ≤ 9223372036854775807) : Calls Try.prog 33 #[.int .i64 n, .int .i64 v] W fun e w' => e = .returned (.int .i64 (trimZ n (lim v))) ∧ W = w' := by
  have h1 := lim_pos v
  have h2 := lim_le v
  obtain ⟨hn1, hn2⟩ := hn
  rcases Int.lt_or_le v 1 with q | q
  · have HM : Hid (lim v = 1) := by show lim v = 1; unfold lim; omega
    have z16 : ¬ (16 : Int) < 1 := by omega
    generalize lim v = M at *
    go_enter Try.func33, Try.ntmps33
    go_wp2_with fail
    go_loopw [5, 6] (fun mv iv wr => ∃ k : Nat, mv = .int .i64 ((2 ^ k : Nat) : Int) ∧ iv = .int .i64 (k : Int) ∧ k ≤ M ∧ SameW wr W) (fun _ iv _ => M - (RowKit.intOf iv).toNat)
    case atStart => exact ⟨0, rfl, rfl, Nat.zero_le _, rfl⟩
    case round =>
      obtain ⟨k, rfl, rfl, hk, HS⟩ := hrel
      obtain rfl : wr = W := HS
      by_cases hlt : k < M
      · have hlz : (k : Int) < 1 := by have := HM.out; omega
        have k0 : (0 : Int) ≤ (k : Int) := by omega
        have hpk : 2 ^ k ≤ 2 ^ 16 := Nat.pow_le_pow_right (by omega) (show k ≤ 16 by omega)
        have HS2 : Hid (((2 ^ (k + 1) : Nat) : Int) = ((2 ^ k : Nat) : Int) * 2) := by show _ = _; rw [Nat.pow_succ]; push_cast; rfl
        generalize 2 ^ k = t at *
        have ht : t ≤ 65536 := hpk
        clear hpk
        go_wp2_with fail
        go_roundw
        case rel => exact ⟨k + 1, by rw [HS2.out], by go_num, by omega, rfl⟩
        case measure => simp [RowKit.intOf]; omega
      · obtain rfl : k = M := by omega
        have hlz : ¬ (k : Int) < 1 := by have := HM.out; omega
        obtain ⟨m, hm⟩ : ∃ m, m = 2 ^ k := ⟨_, rfl⟩
        obtain ⟨p, hp⟩ : ∃ p, p = 2 ^ (k - 1) := ⟨_, rfl⟩
        obtain ⟨e1, hp0, hb, c1, c2, c3, c4⟩ := trim_ways n (w := k) (by omega) hm hp
        have hm16 : m ≤ 65536 := by rw [hm]; exact Nat.pow_le_pow_right (by omega) (show k ≤ 16 by omega)
        rw [← hm]
        have hm0 : ¬ (m : Int) = 0 := by omega
        have hq : (m : Int).tdiv 2 = (p : Int) := by rw [Int.tdiv_eq_ediv_of_nonneg (by omega)]; omega
        have hp16 : p ≤ 65536 := by omega
        have hb1 := hb.1
        have hb2 := hb.2
        have C := Lib.hid (And.intro c1 (And.intro c2 (And.intro c3 c4)))
        clear hm hp hb c1 c2 c3 c4
        obtain ⟨r, hr⟩ : ∃ r, n.tmod (m : Int) = r := ⟨_, rfl⟩
        rw [hr] at hb1 hb2 C
        rcases Int.lt_or_le r 0 with q | q
        · rcases Int.lt_or_le (r + m) p with s | s
          · have HE := Lib.hid (C.out.2.1 q s)
            have s' : ¬ (p : Int) ≤ r + m := by omega
            clear e1 C
            go_wp2_with fail
            go_ret
            rw [HE.out]
            exact ⟨rfl, rfl⟩
          · have HE := Lib.hid ((C.out.1 q s).trans (show r + (m : Int) - m = r by omega))
            clear e1 C
            go_wp2_with fail
            go_ret
            rw [HE.out]
            exact ⟨rfl, rfl⟩
        · have q' : ¬ r < 0 := by omega
          rcases Int.lt_or_le r p with s | s
          · have HE := Lib.hid (C.out.2.2.2 q s)
            have s' : ¬ (p : Int) ≤ r := by omega
            clear e1 C
            go_wp2_with fail
            go_ret
            rw [HE.out]
            exact ⟨rfl, rfl⟩
          · have HE := Lib.hid (C.out.2.2.1 q s)
            clear e1 C
            go_wp2_with fail
            go_ret
            rw [HE.out]
            exact ⟨rfl, rfl⟩
  · have q0 : ¬ v < 1 := by omega
    rcases Int.lt_or_le 16 v with r | r
    · have HM : Hid (lim v = 16) := by show lim v = 16; unfold lim; omega
      generalize lim v = M at *
      go_enter Try.func33, Try.ntmps33
      go_wp2_with fail
      go_loopw [5, 6] (fun mv iv wr => ∃ k : Nat, mv = .int .i64 ((2 ^ k : Nat) : Int) ∧ iv = .int .i64 (k : Int) ∧ k ≤ M ∧ SameW wr W) (fun _ iv _ => M - (RowKit.intOf iv).toNat)
      case atStart => exact ⟨0, rfl, rfl, Nat.zero_le _, rfl⟩
      case round =>
        obtain ⟨k, rfl, rfl, hk, HS⟩ := hrel
        obtain rfl : wr = W := HS
        by_cases hlt : k < M
        · have hlz : (k : Int) < 16 := by have := HM.out; omega
          have k0 : (0 : Int) ≤ (k : Int) := by omega
          have hpk : 2 ^ k ≤ 2 ^ 16 := Nat.pow_le_pow_right (by omega) (show k ≤ 16 by omega)
          have HS2 : Hid (((2 ^ (k + 1) : Nat) : Int) = ((2 ^ k : Nat) : Int) * 2) := by show _ = _; rw [Nat.pow_succ]; push_cast; rfl
          generalize 2 ^ k = t at *
          have ht : t ≤ 65536 := hpk
          clear hpk
          go_wp2_with fail
          go_roundw
          case rel => exact ⟨k + 1, by rw [HS2.out], by go_num, by omega, rfl⟩
          case measure => simp [RowKit.intOf]; omega
        · obtain rfl : k = M := by omega
          have hlz : ¬ (k : Int) < 16 := by have := HM.out; omega
          obtain ⟨m, hm⟩ : ∃ m, m = 2 ^ k := ⟨_, rfl⟩
          obtain ⟨p, hp⟩ : ∃ p, p = 2 ^ (k - 1) := ⟨_, rfl⟩
          obtain ⟨e1, hp0, hb, c1, c2, c3, c4⟩ := trim_ways n (w := k) (by omega) hm hp
          have hm16 : m ≤ 65536 := by rw [hm]; exact Nat.pow_le_pow_right (by omega) (show k ≤ 16 by omega)
          rw [← hm]
          have hm0 : ¬ (m : Int) = 0 := by omega
          have hq : (m : Int).tdiv 2 = (p : Int) := by rw [Int.tdiv_eq_ediv_of_nonneg (by omega)]; omega
          have hp16 : p ≤ 65536 := by omega
          have hb1 := hb.1
          have hb2 := hb.2
          have C := Lib.hid (And.intro c1 (And.intro c2 (And.intro c3 c4)))
          clear hm hp hb c1 c2 c3 c4
          obtain ⟨r, hr⟩ : ∃ r, n.tmod (m : Int) = r := ⟨_, rfl⟩
          rw [hr] at hb1 hb2 C
          rcases Int.lt_or_le r 0 with q | q
          · rcases Int.lt_or_le (r + m) p with s | s
            · have HE := Lib.hid (C.out.2.1 q s)
              have s' : ¬ (p : Int) ≤ r + m := by omega
              clear e1 C
              go_wp2_with fail
              go_ret
              rw [HE.out]
              exact ⟨rfl, rfl⟩
            · have HE := Lib.hid ((C.out.1 q s).trans (show r + (m : Int) - m = r by omega))
              clear e1 C
              go_wp2_with fail
              go_ret
              rw [HE.out]
              exact ⟨rfl, rfl⟩
          · have q' : ¬ r < 0 := by omega
            rcases Int.lt_or_le r p with s | s
            · have HE := Lib.hid (C.out.2.2.2 q s)
              have s' : ¬ (p : Int) ≤ r := by omega
              clear e1 C
              go_wp2_with fail
              go_ret
              rw [HE.out]
              exact ⟨rfl, rfl⟩
            · have HE := Lib.hid (C.out.2.2.1 q s)
              clear e1 C
              go_wp2_with fail
              go_ret
              rw [HE.out]
              exact ⟨rfl, rfl⟩
    · have HM : Hid ((lim v : Int) = v) := by show (lim v : Int) = v; unfold lim; omega
      have r0 : ¬ 16 < v := by omega
      generalize lim v = M at *
      go_enter Try.func33, Try.ntmps33
      go_wp2_with fail
      go_loopw [5, 6] (fun mv iv wr => ∃ k : Nat, mv = .int .i64 ((2 ^ k : Nat) : Int) ∧ iv = .int .i64 (k : Int) ∧ k ≤ M ∧ SameW wr W) (fun _ iv _ => M - (RowKit.intOf iv).toNat)
      case atStart => exact ⟨0, rfl, rfl, Nat.zero_le _, rfl⟩
      case round =>
        obtain ⟨k, rfl, rfl, hk, HS⟩ := hrel
        obtain rfl : wr = W := HS
        by_cases hlt : k < M
        · have hlz : (k : Int) < v := by have := HM.out; omega
          have k0 : (0 : Int) ≤ (k : Int) := by omega
          have hpk : 2 ^ k ≤ 2 ^ 16 := Nat.pow_le_pow_right (by omega) (show k ≤ 16 by omega)
          have HS2 : Hid (((2 ^ (k + 1) : Nat) : Int) = ((2 ^ k : Nat) : Int) * 2) := by show _ = _; rw [Nat.pow_succ]; push_cast; rfl
          generalize 2 ^ k = t at *
          have ht : t ≤ 65536 := hpk
          clear hpk
          go_wp2_with fail
          go_roundw
          case rel => exact ⟨k + 1, by rw [HS2.out], by go_num, by omega, rfl⟩
          case measure => simp [RowKit.intOf]; omega
        · obtain rfl : k = M := by omega
          have hlz : ¬ (k : Int) < v := by have := HM.out; omega
          obtain ⟨m, hm⟩ : ∃ m, m = 2 ^ k := ⟨_, rfl⟩
          obtain ⟨p, hp⟩ : ∃ p, p = 2 ^ (k - 1) := ⟨_, rfl⟩
          obtain ⟨e1, hp0, hb, c1, c2, c3, c4⟩ := trim_ways n (w := k) (by omega) hm hp
          have hm16 : m ≤ 65536 := by rw [hm]; exact Nat.pow_le_pow_right (by omega) (show k ≤ 16 by omega)
          rw [← hm]
          have hm0 : ¬ (m : Int) = 0 := by omega
          have hq : (m : Int).tdiv 2 = (p : Int) := by rw [Int.tdiv_eq_ediv_of_nonneg (by omega)]; omega
          have hp16 : p ≤ 65536 := by omega
          have hb1 := hb.1
          have hb2 := hb.2
          have C := Lib.hid (And.intro c1 (And.intro c2 (And.intro c3 c4)))
          clear hm hp hb c1 c2 c3 c4
          obtain ⟨r, hr⟩ : ∃ r, n.tmod (m : Int) = r := ⟨_, rfl⟩
          rw [hr] at hb1 hb2 C
          rcases Int.lt_or_le r 0 with q | q
          · rcases Int.lt_or_le (r + m) p with s | s
            · have HE := Lib.hid (C.out.2.1 q s)
              have s' : ¬ (p : Int) ≤ r + m := by omega
              clear e1 C
              go_wp2_with fail
              go_ret
              rw [HE.out]
              exact ⟨rfl, rfl⟩
            · have HE := Lib.hid ((C.out.1 q s).trans (show r + (m : Int) - m = r by omega))
              clear e1 C
              go_wp2_with fail
              go_ret
              rw [HE.out]
              exact ⟨rfl, rfl⟩
          · have q' : ¬ r < 0 := by omega
            rcases Int.lt_or_le r p with s | s
            · have HE := Lib.hid (C.out.2.2.2 q s)
              have s' : ¬ (p : Int) ≤ r := by omega
              clear e1 C
              go_wp2_with fail
              go_ret
              rw [HE.out]
              exact ⟨rfl, rfl⟩
            · have HE := Lib.hid (C.out.2.2.1 q s)
              clear e1 C
              go_wp2_with fail
              go_ret
              rw [HE.out]
              exact ⟨rfl, rfl⟩

end Go.Proofs.Ytnkcdgpaphphaaa.Gr
