/- Contracts of the document's own answers for layer clause (weirgateref01): Abs, Literal, Right, In, Ints, Holds, All. -/
import Derived.Test.YthpamogomfleoaaDoorClI
namespace Go.Proofs.YthpamogomfleoaaDoor.Cl
open Go Go.RowKit Go.Lib Go.Sort

set_option maxHeartbeats 400000 in
theorem Abs_any (n : Int) (w : World) (h1 : -9223372036854775808 < n) (h2 : n ≤ 9223372036854775807) :
    Calls Tryd.prog 26 #[.int .i64 n] w fun e w' => e = .returned (.int .i64 (vr n)) ∧ w = w' := by
  by_cases h : n < 0
  all_goals
    have E : Hid (vr n = if n < 0 then -n else n) := by show _ = _; unfold vr; omega
    simp only [h, if_true, if_false] at E
    go_enter Tryd.func26, Tryd.ntmps26
    go_wp2
    go_ret
    rw [E.out]
    exact ⟨rfl, rfl⟩

set_option maxHeartbeats 400000 in
theorem Literal_any (n : Int) (w : World) :
    Calls Tryd.prog 25 #[.int .i64 n] w fun e w' => e = .returned (.bool (isLit n)) ∧ w = w' := by
  cases h : isLit n with
  | true =>
    obtain ⟨h0, h1, h2⟩ := (isLit_iff n).1 h
    have e0 : (n != 0) = true := by rw [bne_iff_ne]; exact h0
    clear h h0
    go_enter Tryd.func25, Tryd.ntmps25
    go_wp2
    go_ret
    exact ⟨rfl, rfl⟩
  | false =>
    rw [isLit_not] at h
    by_cases h0 : n = 0
    · subst h0
      go_enter Tryd.func25, Tryd.ntmps25
      go_wp2
      go_ret
      exact ⟨rfl, rfl⟩
    · have e0 : (n != 0) = true := by rw [bne_iff_ne]; exact h0
      have h' : n < -100000 ∨ 100000 < n := by omega
      clear h h0
      rcases h' with h | h
      · go_enter Tryd.func25, Tryd.ntmps25
        go_wp2
        go_ret
        exact ⟨rfl, rfl⟩
      · have h1 : -100000 ≤ n := by omega
        have hd : decide (n ≤ 100000) = false := by simpa using h
        go_enter Tryd.func25, Tryd.ntmps25
        go_wp2
        go_ret
        exact ⟨rfl, rfl⟩

theorem all_of {α : Type} [Inhabited α] {zs : List α} {p : α → Bool} (h : ∀ j, j < zs.length → p zs[j]! = true) : zs.all p = true := by
  rw [List.all_eq_true]; intro x hx
  obtain ⟨j, hj, rfl⟩ := List.mem_iff_getElem.1 hx
  have := h j hj; rwa [getElem!_pos zs j hj] at this
theorem all_not {α : Type} [Inhabited α] {zs : List α} {p : α → Bool} {j : Nat} (h : j < zs.length) (hp : p zs[j]! = false) : zs.all p = false := by
  rw [List.all_eq_false]; exact ⟨_, getElem!_mem h, by rw [hp]; simp⟩

set_option maxHeartbeats 1000000 in
theorem RefRight_any (a : Option Addr) (c : Nat) (zs : List Int) (w : World) (hr : RowIn (Value.int .i64) w a zs) (hl : zs.length ≤ 9223372036854775807) :
    Calls Tryd.prog 13 #[.slice a zs.length c] w fun e w' => e = .returned (.bool (rightB zs)) ∧ w = w' := by
  go_enter Tryd.func13, Tryd.ntmps13
  go_wp2
  go_loop [3] (fun i => ∃ k : Nat, k ≤ zs.length ∧ i = .int .i64 k ∧ Hid (∀ j, j < k → isLit zs[j]! = true)) (fun i => zs.length - (intOf i).toNat)
  case atStart => exact ⟨0, Nat.zero_le _, rfl, fun j hj => absurd hj (Nat.not_lt_zero _)⟩
  case round =>
    obtain ⟨k, hk, rfl, HA⟩ := hrel
    by_cases hlt : k < zs.length
    · have hltz : (k : Int) < (zs.length : Int) := by omega
      obtain ⟨b, off, rfl, hb, hc⟩ := hr.pos hlt
      have c1 := hc k hlt
      have hlit := Literal_any zs[k]! w
      clear hc hr
      cases hq : isLit zs[k]! with
      | true =>
        have HA2 : Hid (∀ j, j < k + 1 → isLit zs[j]! = true) := fun j hj => by
          by_cases e : j = k
          · subst e; exact hq
          · exact HA.out j (by omega)
        rw [hq] at hlit
        clear hq
        generalize zs[k]! = x at *
        go_wp2_with (go_at_call 25; refine hlit.mono ?_; rintro e w' ⟨rfl, rfl⟩)
        go_round
        case rel => exact ⟨k + 1, by omega, by go_num, HA2⟩
        case measure => simp [intOf]; omega
      | false =>
        have HO : Hid (rightB zs = false) := all_not hlt hq
        rw [hq] at hlit
        clear hq
        generalize zs[k]! = x at *
        go_wp2_with (go_at_call 25; refine hlit.mono ?_; rintro e w' ⟨rfl, rfl⟩)
        go_ret
        exact ⟨ret_bool HO.out.symm, rfl⟩
    · have hltz : ¬ (k : Int) < (zs.length : Int) := by omega
      have HO : Hid (rightB zs = true) := all_of (fun j hj => HA.out j (by omega))
      go_wp2
      go_ret
      exact ⟨ret_bool HO.out.symm, rfl⟩

def inB (x : Int) (zs : List Int) : Bool := zs.any fun y => decide (y = x)
theorem inB_iff (x : Int) (zs : List Int) : inB x zs = true ↔ x ∈ zs := by simp [inB]

set_option maxHeartbeats 1000000 in
theorem In_any (x : Int) (a : Option Addr) (c : Nat) (zs : List Int) (w : World) (hr : RowIn (Value.int .i64) w a zs) (hl : zs.length ≤ 9223372036854775807) :
    Calls Tryd.prog 72 #[.int .i64 x, .slice a zs.length c] w fun e w' => e = .returned (.bool (inB x zs)) ∧ w = w' := by
  go_enter Tryd.func72, Tryd.ntmps72
  go_wp2
  go_loop [5] (fun i => ∃ k : Nat, k ≤ zs.length ∧ i = .int .i64 k ∧ Hid (∀ j, j < k → decide (zs[j]! = x) = false)) (fun i => zs.length - (intOf i).toNat)
  case atStart => exact ⟨0, Nat.zero_le _, rfl, fun j hj => absurd hj (Nat.not_lt_zero _)⟩
  case round =>
    obtain ⟨k, hk, rfl, HA⟩ := hrel
    by_cases hlt : k < zs.length
    · have hltz : (k : Int) < (zs.length : Int) := by omega
      obtain ⟨b, off, rfl, hb, hc⟩ := hr.pos hlt
      have c1 := hc k hlt
      clear hc hr
      by_cases hq : zs[k]! = x
      · have HO : Hid (inB x zs = true) := any_at hlt (by simpa using hq)
        have hbq : (zs[k]! == x) = true := by simpa using hq
        clear hq
        generalize zs[k]! = y at *
        go_wp2
        go_ret
        exact ⟨ret_bool HO.out.symm, rfl⟩
      · have HA2 : Hid (∀ j, j < k + 1 → decide (zs[j]! = x) = false) := fun j hj => by
          by_cases e : j = k
          · subst e; simpa using hq
          · exact HA.out j (by omega)
        have hbq : (zs[k]! == x) = false := by simpa using hq
        clear hq
        generalize zs[k]! = y at *
        go_wp2
        go_round
        case rel => exact ⟨k + 1, by omega, by go_num, HA2⟩
        case measure => simp [intOf]; omega
    · have hltz : ¬ (k : Int) < (zs.length : Int) := by omega
      have HO : Hid (inB x zs = false) := any_none (fun j hj => HA.out j (by omega))
      go_wp2
      go_ret
      exact ⟨ret_bool HO.out.symm, rfl⟩

theorem eq_of_all {xs ys : List Int} (hl : xs.length = ys.length) (h : ∀ j, j < xs.length → xs[j]! = ys[j]!) : xs = ys := by
  refine List.ext_getElem hl fun j h1 h2 => ?_
  have := h j h1; rwa [getElem!_pos xs j h1, getElem!_pos ys j h2] at this

end Go.Proofs.YthpamogomfleoaaDoor.Cl
