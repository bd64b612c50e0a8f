/- Contracts of the small functions of package clause: isLiteral, variable, value, hasOpposites. -/
import Derived.Test.YthpamogomfleoaaDoorChecked
import Derived.Test.YthpamogomfleoaaDoorClPlain
import Derived.WalkKit
import Derived.Lib.Hide
import Derived.Deep.QuietTactic
import Derived.BigQuiet
import Derived.Deep.LoopGhost
namespace Go.Proofs.YthpamogomfleoaaDoor.Cl
open Go Go.RowKit Go.Lib

set_option maxHeartbeats 400000 in
theorem isLiteral_yes (n : Int) (w : World) (h0 : n ≠ 0) (h1 : -100000 ≤ n) (h2 : n ≤ 100000) :
    Calls Tryd.prog 36 #[.int .i64 n] w fun e w' => e = .returned (.bool true) ∧ w = w' := by
  have e0 : (n != 0) = true := by rw [bne_iff_ne]; exact h0
  go_enter Tryd.func36, Tryd.ntmps36
  go_wp2
  go_ret
  exact ⟨rfl, rfl⟩

theorem ret_int {k : IntKind} {a b : Int} (h : a = b) : Ending.returned (.int k a) = .returned (.int k b) := by rw [h]
theorem ret_bool {a b : Bool} (h : a = b) : Ending.returned (.bool a) = .returned (.bool b) := by rw [h]

set_option maxHeartbeats 400000 in
theorem isLiteral_no (n : Int) (w : World) (h : isLit n = false) :
    Calls Tryd.prog 36 #[.int .i64 n] w fun e w' => e = .returned (.bool false) ∧ w = w' := by
  rw [isLit_not] at h
  by_cases h0 : n = 0
  · subst h0
    go_enter Tryd.func36, Tryd.ntmps36
    go_wp2
    go_ret
    exact ⟨rfl, rfl⟩
  · have e0 : (n != 0) = true := by rw [bne_iff_ne]; exact h0
    have h' : n < -100000 ∨ 100000 < n := by omega
    clear h h0
    rcases h' with h | h
    · go_enter Tryd.func36, Tryd.ntmps36
      go_wp2
      go_ret
      exact ⟨rfl, rfl⟩
    · have h1 : -100000 ≤ n := by omega
      have hd : decide (n ≤ 100000) = false := by simpa using h
      go_enter Tryd.func36, Tryd.ntmps36
      go_wp2
      go_ret
      exact ⟨rfl, rfl⟩

theorem isLiteral_any (n : Int) (w : World) :
    Calls Tryd.prog 36 #[.int .i64 n] w fun e w' => e = .returned (.bool (isLit n)) ∧ w = w' := by
  cases h : isLit n with
  | false => exact isLiteral_no n w h
  | true => have h' := (isLit_iff n).1 h; exact isLiteral_yes n w h'.1 h'.2.1 h'.2.2

set_option maxHeartbeats 400000 in
theorem variable_any (n : Int) (w : World) (h1 : -9223372036854775808 < n) (h2 : n ≤ 9223372036854775807) :
    Calls Tryd.prog 50 #[.int .i64 n] w fun e w' => e = .returned (.int .i64 (vr n)) ∧ w = w' := by
  by_cases h : n < -n
  all_goals
    have e : vr n = if n < -n then -n else n := by unfold vr; omega
    simp only [h, if_true, if_false] at e
    have E := Lib.hid e
    clear e
    go_enter Tryd.func50, Tryd.ntmps50
    go_wp2
    all_goals
      go_ret
      rw [E.out]
      refine ⟨?_, rfl⟩
      first | rfl | (exfalso; omega)

set_option maxHeartbeats 400000 in
theorem value_any (v : Int) (a : Option Addr) (c : Nat) (m : List Bool) (w : World) (hb : RowIn Value.bool w a m) (h1 : 1 ≤ v) (h2 : v ≤ 100000) :
    Calls Tryd.prog 49 #[.int .i64 v, .slice a m.length c] w fun e w' => e = .returned (.bool (valB v m)) ∧ ∃ n, w' = w.drewN n := by
  obtain ⟨k, rfl⟩ : ∃ k : Nat, v = ((k + 1 : Nat) : Int) := ⟨v.toNat - 1, by omega⟩
  by_cases h : k < m.length
  · obtain ⟨b, off, rfl, hlt, hc0⟩ := hb.pos h
    have hc := hc0 k h
    clear hc0
    have hz : ((k + 1 : Nat) : Int) ≤ (m.length : Int) := by omega
    have e : valB ((k + 1 : Nat) : Int) m = m[k]! := by unfold valB; rw [show ((k + 1 : Nat) : Int).toNat - 1 = k by omega]
    rw [e]
    generalize m[k]! = r at *
    clear e hb
    push_cast at hz
    push_cast
    go_enter Tryd.func49, Tryd.ntmps49
    go_wp2
    go_ret
    exact ⟨rfl, 0, rfl⟩
  · have hz : ¬ ((k + 1 : Nat) : Int) ≤ (m.length : Int) := by omega
    have e : valB ((k + 1 : Nat) : Int) m = false := by
      unfold valB; rw [show ((k + 1 : Nat) : Int).toNat - 1 = k by omega]; simp [Nat.not_lt.1 h]
    rw [e]
    clear e hb
    push_cast at hz
    push_cast
    have hd : decide ((k : Int) + 1 ≤ (m.length : Int)) = false := by simpa using hz
    go_enter Tryd.func49, Tryd.ntmps49
    go_wp2
    go_ret
    exact ⟨rfl, 0, rfl⟩

theorem oppB_true {zs : List Int} {i : Nat} (h1 : 1 ≤ i) (h2 : i < zs.length) (h : zs[i]! = -zs[i - 1]!) : oppB zs = true := by
  unfold oppB; rw [List.any_eq_true]; exact ⟨i, by simpa using h2, by simp [h1, h]⟩
theorem oppB_false {zs : List Int} (h : ∀ i, 1 ≤ i → i < zs.length → zs[i]! ≠ -zs[i - 1]!) : oppB zs = false := by
  unfold oppB; rw [List.any_eq_false]; intro i hi; simp only [List.mem_range] at hi; simp only [Bool.and_eq_true, decide_eq_true_eq, not_and]; intro h1; exact h i h1 hi

set_option maxHeartbeats 1000000 in
theorem hasOpposites_any (a : Option Addr) (c : Nat) (zs : List Int) (w : World) (hr : RowIn (Value.int .i64) w a zs) (hl : zs.length ≤ 9223372036854775807) (hz : ∀ z ∈ zs, -100000 ≤ z ∧ z ≤ 100000) :
    Calls Tryd.prog 64 #[.slice a zs.length c] w fun e w' => e = .returned (.bool (oppB zs)) ∧ ∃ n, w' = w.drewN n := by
  go_enter Tryd.func64, Tryd.ntmps64
  go_wp2
  go_loopw [3] (fun i wr => ∃ k n : Nat, 1 ≤ k ∧ (k ≤ zs.length ∨ k = 1) ∧ i = .int .i64 k ∧ wr = w.drewN n ∧ Hid (∀ i, 1 ≤ i → i < k → zs[i]! ≠ -zs[i - 1]!)) (fun i _ => zs.length - (intOf i).toNat)
  case atStart => exact ⟨1, 0, by omega, Or.inr rfl, rfl, rfl, fun i h1 h2 => by omega⟩
  case round =>
    obtain ⟨k, n, hk1, hk, rfl, rfl, HA⟩ := hrel
    by_cases hlt : k < zs.length
    · have hltz : (k : Int) < (zs.length : Int) := by omega
      obtain ⟨b, off, rfl, hb, hc⟩ := hr.pos hlt
      have c1 := hc k hlt
      have c0 := hc (k - 1) (by omega)
      have z1 := hz zs[k]! (by rw [getElem!_pos zs k hlt]; exact List.getElem_mem _)
      have z0 := hz zs[k - 1]! (by rw [getElem!_pos zs (k - 1) (by omega)]; exact List.getElem_mem _)
      have hkz : (1 : Int) ≤ (k : Int) := by omega
      have HT : Hid (zs[k]! = -zs[k - 1]! → oppB zs = true) := oppB_true hk1 hlt
      clear hc hz hr hk
      obtain ⟨x, hx⟩ : ∃ x, x = zs[k]! := ⟨_, rfl⟩
      obtain ⟨y, hy⟩ : ∃ y, y = zs[k - 1]! := ⟨_, rfl⟩
      have HX : Hid (x = zs[k]! ∧ y = zs[k - 1]!) := ⟨hx, hy⟩
      rw [← hx] at c1 z1
      rw [← hy] at c0 z0
      clear hx hy
      by_cases heq : x = -y
      · have he : ((x : Int) == -y) = true := by simpa using heq
        have HO : Hid (oppB zs = true) := HT.out (by rw [← HX.out.1, ← HX.out.2]; exact heq)
        clear heq
        go_wp2
        go_quiet (fail)
        go_wp2
        go_ret
        exact ⟨ret_bool HO.out.symm, _, World.drewN_drewN _ _ _⟩
      · have he : ((x : Int) == -y) = false := by simpa using heq
        have HA2 : Hid (∀ i, 1 ≤ i → i < k + 1 → zs[i]! ≠ -zs[i - 1]!) := by
          intro i h1 h2
          by_cases e : i = k
          · subst e; rw [← HX.out.1, ← HX.out.2]; exact heq
          · exact HA.out i h1 (by omega)
        clear heq
        go_wp2
        go_quiet (fail)
        go_wp2
        go_roundw
        case rel => exact ⟨k + 1, _, by omega, Or.inl (by omega), by go_num, rfl, HA2⟩
        case measure => simp [intOf]; omega
    · have hltz : ¬ (k : Int) < (zs.length : Int) := by omega
      have HO : Hid (oppB zs = false) := oppB_false (fun i h1 h2 => HA.out i h1 (by omega))
      go_wp2
      go_ret
      exact ⟨ret_bool HO.out.symm, n, rfl⟩
end Go.Proofs.YthpamogomfleoaaDoor.Cl
