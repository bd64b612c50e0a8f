/- Contracts of package heap's methods that only read: isVariable, Has, Len, Activity, before, firstBelow; and of set. -/
import Derived.Test.YtanmpokfeidlcaaHpMem
namespace Go.Proofs.Ytanmpokfeidlcaa.Hp
open Go Go.RowKit Go.Lib

set_option maxHeartbeats 400000 in
theorem isVariable_any {w : World} {L : Loc} {n k : Nat} {T : Nat → Nat} {P A : Nat → Int} (h : Rep w L n k T P A) (v : Int) :
    Calls Try.prog 25 #[.pointer (some ⟨L.h, 0, none⟩), .int .i64 v] w fun e w' => e = .returned (.bool (isV n v)) ∧ w = w' := by
  have h1 := h.c1
  clear h
  unfold isV
  by_cases a : 1 ≤ v
  · by_cases b : v ≤ (n : Int)
    · have b' : v < (n : Int) + 1 := by omega
      go_enter Try.func25, Try.ntmps25
      go_wp2
      go_ret
      simp [a, b]
    · have b' : ¬ v < (n : Int) + 1 := by omega
      have b2 : decide (v < (n : Int) + 1) = false := by simpa using b'
      go_enter Try.func25, Try.ntmps25
      go_wp2
      go_ret
      simp [b]
  · have a2 : decide (1 ≤ v) = false := by simpa using a
    go_enter Try.func25, Try.ntmps25
    go_wp2
    go_ret
    simp

theorem isV_nat {n v : Nat} (h1 : 1 ≤ v) (h2 : v ≤ n) : isV n (v : Int) = true := by unfold isV; simp; omega
theorem isV_cases {n : Nat} {v : Int} (h : isV n v = true) : ∃ u : Nat, v = (u : Int) ∧ 1 ≤ u ∧ u ≤ n := by
  unfold isV at h; simp at h; exact ⟨v.toNat, by omega, by omega, by omega⟩

set_option maxHeartbeats 400000 in
theorem Len_rep {w : World} {L : Loc} {n k : Nat} {T : Nat → Nat} {P A : Nat → Int} (h : Rep w L n k T P A) :
    Calls Try.prog 19 #[.pointer (some ⟨L.h, 0, none⟩)] w fun e w' => e = .returned (.int .i64 (k : Int)) ∧ w = w' := by
  have h0 := h.c0
  clear h
  go_enter Try.func19, Try.ntmps19
  go_wp2
  go_ret
  exact ⟨rfl, rfl⟩

set_option maxHeartbeats 1000000 in
theorem Has_rep {w : World} {L : Loc} {n k : Nat} {T : Nat → Nat} {P A : Nat → Int} (h : Rep w L n k T P A) (v : Int) :
    Calls Try.prog 21 #[.pointer (some ⟨L.h, 0, none⟩), .int .i64 v] w fun e w' => e = .returned (.bool (isV n v && P v.toNat != -1)) ∧ w = w' := by
  have hv := isVariable_any h v
  cases e : isV n v with
  | false =>
    rw [e] at hv
    clear h e
    go_enter Try.func21, Try.ntmps21
    go_wp2_with (go_at_call 25; refine hv.mono ?_; rintro e w' ⟨rfl, rfl⟩)
    go_ret
    exact ⟨rfl, rfl⟩
  | true =>
    rw [e] at hv
    obtain ⟨u, rfl, u1, u2⟩ := isV_cases e
    have h1 := h.c1
    have hp := h.cp u2
    have ub : (u : Int) < (n : Int) + 1 := by omega
    have u0 : (0 : Int) ≤ (u : Int) := by omega
    have HR : Hid (Int.toNat (u : Int) = u) := by simp [Hid]
    generalize hq : P u = q at *
    have HQ := Lib.hid hq
    clear h e hq
    go_enter Try.func21, Try.ntmps21
    go_wp2_with (go_at_call 25; refine hv.mono ?_; rintro e w' ⟨rfl, rfl⟩)
    go_ret
    rw [HR.out, HQ.out]
    exact ⟨rfl, rfl⟩

set_option maxHeartbeats 1000000 in
theorem Activity_rep {w : World} {L : Loc} {n k : Nat} {T : Nat → Nat} {P A : Nat → Int} (h : Rep w L n k T P A) (v : Int) :
    Calls Try.prog 22 #[.pointer (some ⟨L.h, 0, none⟩), .int .i64 v] w fun e w' => e = .returned (.int .i64 (if isV n v = true then A v.toNat else 0)) ∧ w = w' := by
  have hv := isVariable_any h v
  cases e : isV n v with
  | false =>
    rw [e] at hv
    clear h e
    go_enter Try.func22, Try.ntmps22
    go_wp2_with (go_at_call 25; refine hv.mono ?_; rintro e w' ⟨rfl, rfl⟩)
    go_ret
    exact ⟨rfl, rfl⟩
  | true =>
    rw [e] at hv
    obtain ⟨u, rfl, u1, u2⟩ := isV_cases e
    have h1 := h.c2
    have hp := h.ca u2
    have ub : (u : Int) < (n : Int) + 1 := by omega
    have u0 : (0 : Int) ≤ (u : Int) := by omega
    generalize hq : A u = q at *
    have HQ := Lib.hid hq
    clear h e hq
    go_enter Try.func22, Try.ntmps22
    go_wp2_with (go_at_call 25; refine hv.mono ?_; rintro e w' ⟨rfl, rfl⟩)
    go_ret
    rw [HQ.out]
    exact ⟨rfl, rfl⟩

set_option maxHeartbeats 1000000 in
theorem before_rep {w : World} {L : Loc} {n k : Nat} {T : Nat → Nat} {P A : Nat → Int} (h : Rep w L n k T P A) (u v : Nat) (hu : u ≤ n) (hv : v ≤ n) (hn : n ≤ 100000) :
    Calls Try.prog 29 #[.pointer (some ⟨L.h, 0, none⟩), .int .i64 (u : Int), .int .i64 (v : Int)] w fun e w' => e = .returned (.bool (bef A u v)) ∧ ∃ q, w' = w.drewN q := by
  have h2 := h.c2
  have hcu := h.ca hu
  have hcv := h.ca hv
  have ub : (u : Int) < (n : Int) + 1 := by omega
  have u0 : (0 : Int) ≤ (u : Int) := by omega
  have vb : (v : Int) < (n : Int) + 1 := by omega
  have v0 : (0 : Int) ≤ (v : Int) := by omega
  have HB : Hid (bef A u v = decide (A v < A u ∨ (A u = A v ∧ u < v))) := rfl
  generalize A u = x at *
  generalize A v = y at *
  clear h hu hv
  by_cases e : x = y
  · have e1 : (x != y) = false := by simpa using e
    have HE : Hid (bef A u v = decide ((u : Int) < (v : Int))) := by unfold Hid; rw [HB.out]; congr 1; simp [e]
    clear e HB
    go_enter Try.func29, Try.ntmps29
    go_wp2
    go_quiet (fail)
    go_wp2
    go_ret
    rw [HE.out]
    exact ⟨by simp, _, rfl⟩
  · have e1 : (x != y) = true := by simpa using e
    have HE : Hid (bef A u v = decide (y < x)) := by unfold Hid; rw [HB.out]; congr 1; simp [e]
    clear e HB
    go_enter Try.func29, Try.ntmps29
    go_wp2
    go_quiet (fail)
    go_wp2
    go_quiet (fail)
    go_wp2
    go_ret
    rw [HE.out]
    exact ⟨rfl, _, World.drewN_drewN _ _ _⟩

set_option maxHeartbeats 1000000 in
theorem set_rep {w : World} {L : Loc} {n k : Nat} {T : Nat → Nat} {P A : Nat → Int} (h : Rep w L n k T P A) (i v : Nat) (hi : i < k) (hk : k ≤ n) (hv : v ≤ n) (hn : n ≤ 100000) :
    Calls Try.prog 24 #[.pointer (some ⟨L.h, 0, none⟩), .int .i64 (i : Int), .int .i64 (v : Int)] w fun e w' => e = .returned (.tuple #[]) ∧ Rep w' L n k (upd T i v) (upd P v (i : Int)) A ∧ Only L.all w w' := by
  have HR : Hid (Rep ((w.setCell ⟨L.t, i, none⟩ (.int .i64 (v : Int))).setCell ⟨L.p, v, none⟩ (.int .i64 (i : Int))) L n k (upd T i v) (upd P v (i : Int)) A) := (h.setTree i v).setPlace v i
  have HO : Hid (Only L.all w ((w.setCell ⟨L.t, i, none⟩ (.int .i64 (v : Int))).setCell ⟨L.p, v, none⟩ (.int .i64 (i : Int)))) := ((Only.refl _ _).set (by simp [Loc.all]) _).set (by simp [Loc.all]) _
  have h0 := h.c0
  have c1 := (h.setTree i v).c1
  have c2 := h.ct (i := i) (by omega)
  have c3 := h.tree.free i
  have c4 := (h.setTree i v).cp hv
  have c5 := (h.setTree i v).place.free v
  have ib : (i : Int) < (k : Int) := by omega
  have i0 : (0 : Int) ≤ (i : Int) := by omega
  have vb : (v : Int) < (n : Int) + 1 := by omega
  have v0 : (0 : Int) ≤ (v : Int) := by omega
  clear h
  go_enter Try.func24, Try.ntmps24
  go_wp2
  go_end0
  exact ⟨rfl, HR.out, HO.out⟩
end Go.Proofs.Ytanmpokfeidlcaa.Hp
