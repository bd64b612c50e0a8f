/- Contracts of the document's own answers that layer 7 asks: Abs, Literal, Holds, All. -/
import Derived.Test.YtbggenilngpjcaaChecked
import Derived.Test.YtbggenilngpjcaaClPlain
import Derived.WalkKit
import Derived.Deep.QuietTactic
import Derived.BigQuiet
import Derived.Deep.LoopGhost
import Derived.Lib.Hide
namespace Go.Proofs.Ytbggenilngpjcaa.Cl
open Go Go.RowKit Go.Lib

theorem bdrewN {B : Nat} {a w : World} (h : Below B a w) (q : Nat) : Below B a (w.drewN q) := ⟨h.os, h.tape, h.output, h.size, h.block⟩
theorem ret_bool {a b : Bool} (h : a = b) : Ending.returned (.bool a) = .returned (.bool b) := by rw [h]

theorem all_of {α : Type} [Inhabited α] {zs : List α} {p : α → Bool} (h : ∀ j, j < zs.length → p zs[j]! = true) : zs.all p = true := by
  rw [List.all_eq_true]; intro x hx
  obtain ⟨j, hj, rfl⟩ := List.mem_iff_getElem.1 hx
  have := h j hj; rwa [getElem!_pos zs j hj] at this
theorem all_not {α : Type} [Inhabited α] {zs : List α} {p : α → Bool} {j : Nat} (h : j < zs.length) (hp : p zs[j]! = false) : zs.all p = false := by
  rw [List.all_eq_false]; exact ⟨_, getElem!_mem h, by rw [hp]; simp⟩


set_option maxHeartbeats 400000 in
theorem Abs_any (n : Int) (w : World) (h1 : -9223372036854775808 < n) (h2 : n ≤ 9223372036854775807) :
    Calls Try.prog 46 #[.int .i64 n] w fun e w' => e = .returned (.int .i64 (vr n)) ∧ w = w' := by
  by_cases h : n < 0
  all_goals
    have E : Hid (vr n = if n < 0 then -n else n) := by show _ = _; unfold vr; omega
    simp only [h, if_true, if_false] at E
    go_enter Try.func46, Try.ntmps46
    go_wp2
    go_ret
    rw [E.out]
    exact ⟨rfl, rfl⟩


set_option maxHeartbeats 400000 in
theorem Literal_any (n : Int) (w : World) :
    Calls Try.prog 45 #[.int .i64 n] w fun e w' => e = .returned (.bool (isLit n)) ∧ w = w' := by
  cases h : isLit n with
  | true =>
    obtain ⟨h0, h1, h2⟩ := (isLit_iff n).1 h
    have e0 : (n != 0) = true := by rw [bne_iff_ne]; exact h0
    clear h h0
    go_enter Try.func45, Try.ntmps45
    go_wp2
    go_ret
    exact ⟨rfl, rfl⟩
  | false =>
    rw [isLit_not] at h
    by_cases h0 : n = 0
    · subst h0
      go_enter Try.func45, Try.ntmps45
      go_wp2
      go_ret
      exact ⟨rfl, rfl⟩
    · have e0 : (n != 0) = true := by rw [bne_iff_ne]; exact h0
      have h' : n < -100000 ∨ 100000 < n := by omega
      clear h h0
      rcases h' with h | h
      · go_enter Try.func45, Try.ntmps45
        go_wp2
        go_ret
        exact ⟨rfl, rfl⟩
      · have h1 : -100000 ≤ n := by omega
        have hd : decide (n ≤ 100000) = false := by simpa using h
        go_enter Try.func45, Try.ntmps45
        go_wp2
        go_ret
        exact ⟨rfl, rfl⟩


set_option maxHeartbeats 4000000 in
theorem RefHolds_any (a : Option Addr) (c : Nat) (zs : List Int) (ma : Option Addr) (mc : Nat) (m : List Bool) (w : World) (hr : RowIn (Value.int .i64) w a zs) (hl : zs.length ≤ 9223372036854775807) (hm : RowIn Value.bool w ma m) :
    Calls Try.prog 38 #[.slice a zs.length c, .slice ma m.length mc] w fun e w' => e = .returned (.bool (holdsB zs m)) ∧ w = w' := by
  go_enter Try.func38, Try.ntmps38
  go_wp2
  go_loop [5, 6, 7] (fun i _ _ => ∃ k : Nat, k ≤ zs.length ∧ i = .int .i64 k ∧ Hid (∀ j, j < k → litB m zs[j]! = false)) (fun i _ _ => zs.length - (intOf i).toNat)
  case atStart => exact ⟨0, Nat.zero_le _, rfl, fun j hj => absurd hj (Nat.not_lt_zero _)⟩
  case round =>
    obtain ⟨k, hk, rfl, HA⟩ := hrel
    by_cases hlt : k < zs.length
    · have hltz : (k : Int) < (zs.length : Int) := by omega
      obtain ⟨b, off, rfl, hb, hc⟩ := hr.pos hlt
      have c1 := hc k hlt
      have hlit := Literal_any zs[k]! w
      have HNO : Hid (litB m zs[k]! = false → ∀ j, j < k + 1 → litB m zs[j]! = false) := fun hq j hj => by
        by_cases e : j = k
        · subst e; exact hq
        · exact HA.out j (by omega)
      have HYES : Hid (litB m zs[k]! = true → holdsB zs m = true) := fun hq => any_at hlt hq
      clear hc hr
      generalize zs[k]! = x at *
      cases hq : isLit x with
      | false =>
        have HA2 := Lib.hid (HNO.out (by simp [litB, hq]))
        rw [hq] at hlit
        clear hq HNO HYES
        go_wp2_with (go_at_call 45; refine hlit.mono ?_; rintro e w' ⟨rfl, rfl⟩)
        go_round
        case rel => exact ⟨k + 1, by omega, by go_num, HA2.out⟩
        case measure => simp [intOf]; omega
      | true =>
        have hx := (isLit_iff x).1 hq
        have habs := Abs_any x w (by omega) (by omega)
        have HL : Hid (litB m x = (valB (vr x) m == decide (0 < x))) := by show _ = _; simp [litB, hq]
        have hv1 : 1 ≤ vr x := by unfold vr; omega
        have hv2 : vr x ≤ 100000 := by unfold vr; omega
        rw [hq] at hlit
        clear hq
        generalize vr x = v at *
        obtain ⟨q, rfl⟩ : ∃ q : Nat, v = (q : Int) + 1 := ⟨v.toNat - 1, by omega⟩
        have HV : Hid (valB ((q : Int) + 1) m = m[q]!) := by show _ = _; unfold valB; rw [show (((q : Int) + 1).toNat - 1) = q by omega]
        clear hv1
        by_cases hqm : q < m.length
        · have hqz : (q : Int) + 1 ≤ (m.length : Int) := by omega
          obtain ⟨b2, off2, rfl, hb2, hc2⟩ := hm.pos hqm
          have c2 := hc2 q hqm
          clear hc2 hm
          generalize m[q]! = r at *
          by_cases hp : 0 < x
          · have hd : decide (0 < x) = true := by simpa using hp
            cases r with
            | true =>
              have HO := Lib.hid (HYES.out (by rw [HL.out, HV.out, hd]; rfl))
              go_wp2_with (first | (go_at_call 45; refine hlit.mono ?_; rintro e w' ⟨rfl, rfl⟩) | (go_at_call 46; refine habs.mono ?_; rintro e w' ⟨rfl, rfl⟩))
              go_ret
              exact ⟨ret_bool HO.out.symm, rfl⟩
            | false =>
              have HA2 := Lib.hid (HNO.out (by rw [HL.out, HV.out, hd]; rfl))
              go_wp2_with (first | (go_at_call 45; refine hlit.mono ?_; rintro e w' ⟨rfl, rfl⟩) | (go_at_call 46; refine habs.mono ?_; rintro e w' ⟨rfl, rfl⟩))
              go_round
              case rel => exact ⟨k + 1, by omega, by go_num, HA2.out⟩
              case measure => simp [intOf]; omega
          · have hd : decide (0 < x) = false := by simpa using hp
            cases r with
            | false =>
              have HO := Lib.hid (HYES.out (by rw [HL.out, HV.out, hd]; rfl))
              go_wp2_with (first | (go_at_call 45; refine hlit.mono ?_; rintro e w' ⟨rfl, rfl⟩) | (go_at_call 46; refine habs.mono ?_; rintro e w' ⟨rfl, rfl⟩))
              go_ret
              exact ⟨ret_bool HO.out.symm, rfl⟩
            | true =>
              have HA2 := Lib.hid (HNO.out (by rw [HL.out, HV.out, hd]; rfl))
              go_wp2_with (first | (go_at_call 45; refine hlit.mono ?_; rintro e w' ⟨rfl, rfl⟩) | (go_at_call 46; refine habs.mono ?_; rintro e w' ⟨rfl, rfl⟩))
              go_round
              case rel => exact ⟨k + 1, by omega, by go_num, HA2.out⟩
              case measure => simp [intOf]; omega
        · have hqz : ¬ (q : Int) + 1 ≤ (m.length : Int) := by omega
          have hqd : decide ((q : Int) + 1 ≤ (m.length : Int)) = false := by simpa using hqz
          have HV2 : Hid (m[q]! = false) := by show _ = _; simp [Nat.not_lt.1 hqm]
          by_cases hp : 0 < x
          · have hd : decide (0 < x) = true := by simpa using hp
            have HA2 := Lib.hid (HNO.out (by rw [HL.out, HV.out, hd, HV2.out]; rfl))
            go_wp2_with (first | (go_at_call 45; refine hlit.mono ?_; rintro e w' ⟨rfl, rfl⟩) | (go_at_call 46; refine habs.mono ?_; rintro e w' ⟨rfl, rfl⟩))
            go_round
            case rel => exact ⟨k + 1, by omega, by go_num, HA2.out⟩
            case measure => simp [intOf]; omega
          · have hd : decide (0 < x) = false := by simpa using hp
            have HO := Lib.hid (HYES.out (by rw [HL.out, HV.out, hd, HV2.out]; rfl))
            go_wp2_with (first | (go_at_call 45; refine hlit.mono ?_; rintro e w' ⟨rfl, rfl⟩) | (go_at_call 46; refine habs.mono ?_; rintro e w' ⟨rfl, rfl⟩))
            go_ret
            exact ⟨ret_bool HO.out.symm, rfl⟩
    · have hltz : ¬ (k : Int) < (zs.length : Int) := by omega
      have HO : Hid (holdsB zs m = false) := any_none (fun j hj => HA.out j (by omega))
      go_wp2
      go_ret
      exact ⟨ret_bool HO.out.symm, rfl⟩


set_option maxHeartbeats 1000000 in
theorem RefAll_any (a : Option Addr) (c : Nat) (rs : List Row) (ma : Option Addr) (mc : Nat) (m : List Bool) (w : World) (hr : RowsIn w a rs) (hl : rs.length ≤ 9223372036854775807) (hm : RowIn Value.bool w ma m) :
    Calls Try.prog 17 #[.slice a rs.length c, .slice ma m.length mc] w fun e w' => e = .returned (.bool (allB (rs.map Row.zs) m)) ∧ w = w' := by
  go_enter Try.func17, Try.ntmps17
  go_wp2
  go_loop [5] (fun i => ∃ k : Nat, k ≤ rs.length ∧ i = .int .i64 k ∧ Hid (∀ j, j < k → holdsB rs[j]!.zs m = true)) (fun i => rs.length - (intOf i).toNat)
  case atStart => exact ⟨0, Nat.zero_le _, rfl, fun j hj => absurd hj (Nat.not_lt_zero _)⟩
  case round =>
    obtain ⟨k, hk, rfl, HA⟩ := hrel
    by_cases hlt : k < rs.length
    · have hltz : (k : Int) < (rs.length : Int) := by omega
      obtain ⟨b, off, rfl, hb, hc⟩ := hr.row.pos hlt
      have c1 : w.cell? ⟨b, off + k, none⟩ = some (.slice rs[k]!.a rs[k]!.zs.length rs[k]!.c) := hc k hlt
      have hcall := RefHolds_any rs[k]!.a rs[k]!.c rs[k]!.zs ma mc m w (hr.each _ (getElem!_mem hlt)) (hr.small _ (getElem!_mem hlt)) hm
      clear hc hr
      cases hq : holdsB rs[k]!.zs m with
      | true =>
        have HA2 : Hid (∀ j, j < k + 1 → holdsB rs[j]!.zs m = true) := fun j hj => by
          by_cases e : j = k
          · subst e; exact hq
          · exact HA.out j (by omega)
        rw [hq] at hcall
        clear hq
        generalize rs[k]! = r at *
        go_wp2_with (go_at_call 38; refine hcall.mono ?_; rintro e w' ⟨rfl, rfl⟩)
        go_round
        case rel => exact ⟨k + 1, by omega, by go_num, HA2⟩
        case measure => simp [intOf]; omega
      | false =>
        have HO : Hid (allB (rs.map Row.zs) m = false) := by
          show _ = _; unfold allB; rw [List.all_map]; exact all_not (p := (fun c => holdsB c m) ∘ Row.zs) hlt hq
        rw [hq] at hcall
        clear hq
        generalize rs[k]! = r at *
        go_wp2_with (go_at_call 38; refine hcall.mono ?_; rintro e w' ⟨rfl, rfl⟩)
        go_ret
        exact ⟨ret_bool HO.out.symm, rfl⟩
    · have hltz : ¬ (k : Int) < (rs.length : Int) := by omega
      have HO : Hid (allB (rs.map Row.zs) m = true) := by
        show _ = _; unfold allB; rw [List.all_map]; exact all_of (p := (fun c => holdsB c m) ∘ Row.zs) (fun j hj => HA.out j (by omega))
      go_wp2
      go_ret
      exact ⟨ret_bool HO.out.symm, rfl⟩


theorem eq_of_all {xs ys : List Int} (hl : xs.length = ys.length) (h : ∀ j, j < xs.length → xs[j]! = ys[j]!) : xs = ys := by
  refine List.ext_getElem hl fun j h1 h2 => ?_
  have := h j h1; rwa [getElem!_pos xs j h1, getElem!_pos ys j h2] at this

set_option maxHeartbeats 1000000 in
theorem Ints_any (a b : Option Addr) (c d : Nat) (xs ys : List Int) (w : World) (hx : RowIn (Value.int .i64) w a xs) (hy : RowIn (Value.int .i64) w b ys) (hl : xs.length ≤ 9223372036854775807) :
    Calls Try.prog 27 #[.slice a xs.length c, .slice b ys.length d] w fun e w' => e = .returned (.bool (decide (xs = ys))) ∧ ∃ n, w' = w.drewN n := by
  by_cases hlen : xs.length = ys.length
  · have hq : ((xs.length : Int) != (ys.length : Int)) = false := by simp; omega
    have HL := Lib.hid hlen
    clear hlen
    go_enter Try.func27, Try.ntmps27
    go_wp2
    go_loopw [5] (fun i wr => ∃ k n : Nat, k ≤ xs.length ∧ i = .int .i64 k ∧ wr = w.drewN n ∧ Hid (∀ j, j < k → xs[j]! = ys[j]!)) (fun i _ => xs.length - (intOf i).toNat)
    case atStart => exact ⟨0, 0, Nat.zero_le _, rfl, rfl, fun j hj => absurd hj (Nat.not_lt_zero _)⟩
    case round =>
      obtain ⟨k, n, hk, rfl, rfl, HA⟩ := hrel
      by_cases hlt : k < xs.length
      · have hltz : (k : Int) < (xs.length : Int) := by omega
        have hlt2 : k < ys.length := by have := HL.out; omega
        have hltz2 : (k : Int) < (ys.length : Int) := by omega
        obtain ⟨b1, off1, rfl, hb1, hc1⟩ := hx.pos hlt
        obtain ⟨b2, off2, rfl, hb2, hc2⟩ := hy.pos hlt2
        have c1 := hc1 k hlt
        have c2 := hc2 k hlt2
        clear hc1 hc2 hx hy
        by_cases he : xs[k]! = ys[k]!
        · have HA2 : Hid (∀ j, j < k + 1 → xs[j]! = ys[j]!) := fun j hj => by
            by_cases e : j = k
            · subst e; exact he
            · exact HA.out j (by omega)
          have hbq : (xs[k]! != ys[k]!) = false := by simp [he]
          clear he
          generalize xs[k]! = x at *
          generalize ys[k]! = y at *
          go_wp2
          go_quiet (fail)
          go_wp2
          go_roundw
          case rel => exact ⟨k + 1, _, by omega, by go_num, rfl, HA2⟩
          case measure => simp [intOf]; omega
        · have HO : Hid (decide (xs = ys) = false) := by show _ = _; rw [decide_eq_false_iff_not]; intro e; exact he (by rw [e])
          have hbq : (xs[k]! != ys[k]!) = true := by rw [bne_iff_ne]; exact he
          clear he
          generalize xs[k]! = x at *
          generalize ys[k]! = y at *
          go_wp2
          go_quiet (fail)
          go_wp2
          go_ret
          exact ⟨ret_bool HO.out.symm, _, World.drewN_drewN _ _ _⟩
      · have hltz : ¬ (k : Int) < (xs.length : Int) := by omega
        have HO : Hid (decide (xs = ys) = true) := by show _ = _; rw [decide_eq_true_eq]; exact eq_of_all HL.out fun j hj => HA.out j (by omega)
        go_wp2
        go_ret
        exact ⟨ret_bool HO.out.symm, n, rfl⟩
  · have hq : ((xs.length : Int) != (ys.length : Int)) = true := by rw [bne_iff_ne]; omega
    have HO : Hid (decide (xs = ys) = false) := by show _ = _; rw [decide_eq_false_iff_not]; intro e; exact hlen (by rw [e])
    clear hlen
    go_enter Try.func27, Try.ntmps27
    go_wp2
    go_ret
    exact ⟨ret_bool HO.out.symm, 0, rfl⟩
set_option maxHeartbeats 4000000 in
set_option maxRecDepth 100000 in
theorem Lists_same (a b : Option Addr) (c d : Nat) (rs qs : List Row) (w : World) (hr : RowsIn w a rs) (hq : RowsIn w b qs) (hl : rs.length ≤ 1000000) (he : rs.map Row.zs = qs.map Row.zs) :
    Calls Try.prog 15 #[.slice a rs.length c, .slice b qs.length d] w fun e w' => e = .returned (.bool true) ∧ Below w.heap.size w w' := by
  have HR := Lib.hid hr
  have HQ := Lib.hid hq
  have hlen : rs.length = qs.length := by have := congrArg List.length he; simpa using this
  have HE : Hid (∀ j, j < rs.length → rs[j]!.zs = qs[j]!.zs) := fun j hj => by
    rw [← map_get! rs hj, ← map_get! qs (by omega), he]
  rw [← hlen]
  have HLN := Lib.hid hlen
  clear hr hq he hlen
  go_enter Try.func15, Try.ntmps15
  go_wp2
  go_loopw [5] (fun i wr => ∃ k : Nat, k ≤ rs.length ∧ i = .int .i64 k ∧ Below w.heap.size w wr) (fun i _ => rs.length - (intOf i).toNat)
  case atStart => exact ⟨0, Nat.zero_le _, rfl, Below.refl _ _⟩
  case round =>
    obtain ⟨k, hk, rfl, hB⟩ := hrel
    obtain ⟨wo, rfl⟩ : ∃ wo : World, wo = wr := ⟨_, rfl⟩
    by_cases hlt : k < rs.length
    · have hltz : (k : Int) < (rs.length : Int) := by omega
      have hlt2 : k < qs.length := by rw [← HLN.out]; exact hlt
      obtain ⟨b1, off1, rfl, hb1, hc1⟩ := (HR.out.below hB).row.pos hlt
      obtain ⟨b2, off2, rfl, hb2, hc2⟩ := (HQ.out.below hB).row.pos hlt2
      have c1 : wo.cell? ⟨b1, off1 + k, none⟩ = some (.slice rs[k]!.a rs[k]!.zs.length rs[k]!.c) := hc1 k hlt
      have c2 : wo.cell? ⟨b2, off2 + k, none⟩ = some (.slice qs[k]!.a qs[k]!.zs.length qs[k]!.c) := hc2 k hlt2
      have hB' := bdrewN (Below.refl wo.heap.size wo)
      have hr1 := (HR.out.below hB).each _ (getElem!_mem hlt)
      have hr2 := (HQ.out.below hB).each _ (getElem!_mem hlt2)
      have hs1 := HR.out.small _ (getElem!_mem hlt)
      have hcall : ∀ n, Calls Try.prog 27 #[.slice rs[k]!.a rs[k]!.zs.length rs[k]!.c, .slice qs[k]!.a qs[k]!.zs.length qs[k]!.c] (wo.drewN n) fun e w' => e = .returned (.bool true) ∧ ∃ m, w' = (wo.drewN n).drewN m := fun n => by
        have := Ints_any rs[k]!.a qs[k]!.a rs[k]!.c qs[k]!.c rs[k]!.zs qs[k]!.zs (wo.drewN n) (hr1.below (hB' n)) (hr2.below (hB' n)) hs1
        rw [decide_eq_true (HE.out k hlt)] at this
        exact this
      have HC := Lib.hid hcall
      clear hc1 hc2 hB' hr1 hr2 hs1 hcall
      generalize rs[k]! = r at *
      generalize qs[k]! = q at *
      go_wp2
      go_quiet ((go_at_call 27; exact Calls.quiet_of (HC.out _)))
      go_wp2
      go_roundw
      case rel => exact ⟨k + 1, by omega, by go_num, bdrewN hB _⟩
      case measure => simp [intOf]; omega
    · have hltz : ¬ (k : Int) < (rs.length : Int) := by omega
      go_wp2
      go_ret
      exact ⟨rfl, hB⟩

end Go.Proofs.Ytbggenilngpjcaa.Cl
