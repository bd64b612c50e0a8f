/- Contract of Bump. -/
import Derived.Test.YtanmpokfeidlcaaHpE
namespace Go.Proofs.Ytanmpokfeidlcaa.Hp
open Go Go.RowKit Go.Lib

def bump (a b : Int) : Int := a + if b ≤ 1152921504606846976 - a then b else 1152921504606846976 - a
theorem bump_bounds {a b : Int} (h : 0 ≤ a ∧ a ≤ 1152921504606846976) (hb : 0 ≤ b) : a ≤ bump a b ∧ 0 ≤ bump a b ∧ bump a b ≤ 1152921504606846976 := by unfold bump; split <;> omega

set_option maxHeartbeats 1000000 in
theorem Bump_none {w : World} {L : Loc} {n k : Nat} {T : Nat → Nat} {P A : Nat → Int} (h : Rep w L n k T P A) (v b : Int) (hv : isV n v = true → b < 0) :
    Calls Try.prog 15 #[.pointer (some ⟨L.h, 0, none⟩), .int .i64 v, .int .i64 b] w fun e w' => e = .returned (.bool false) ∧ w = w' := by
  have hi := isVariable_any h v
  cases e : isV n v with
  | false =>
    rw [e] at hi
    clear h hv e
    go_enter Try.func15, Try.ntmps15
    go_wp2_with fail
    refine hi.mono ?_
    rintro e w' ⟨rfl, rfl⟩
    go_wp2_with fail
    go_ret
    exact ⟨rfl, rfl⟩
  | true =>
    rw [e] at hi
    have hb := hv e
    clear h hv e
    go_enter Try.func15, Try.ntmps15
    go_wp2_with fail
    refine hi.mono ?_
    rintro e w' ⟨rfl, rfl⟩
    go_wp2_with fail
    go_ret
    exact ⟨rfl, rfl⟩

set_option maxHeartbeats 4000000 in
theorem Bump_some {w : World} {L : Loc} {n k : Nat} {T : Nat → Nat} {P A : Nat → Int} (h : Rep w L n k T P A) (hI : Inv 0 n k T P) (hO : OrdFrom 0 k A T) (v : Nat) (b : Int) (h1 : 1 ≤ v) (h2 : v ≤ n) (hb : 0 ≤ b) (hb2 : b ≤ 9223372036854775807) (hA : 0 ≤ A v ∧ A v ≤ 1152921504606846976) (hn : n ≤ 100000) :
    Calls Try.prog 15 #[.pointer (some ⟨L.h, 0, none⟩), .int .i64 (v : Int), .int .i64 b] w fun r w' => r = .returned (.bool true) ∧ ∃ T' P', Rep w' L n k T' P' (upd A v (bump (A v) b)) ∧ Inv 0 n k T' P' ∧ OrdFrom 0 k (upd A v (bump (A v) b)) T' ∧ (∀ u, P' u ≠ -1 ↔ P u ≠ -1) ∧ Only L.all w w' := by
  have hv := isVariable_any h (v : Int)
  rw [isV_nat h1 h2] at hv
  have d2 := h.c2
  have c2 := h.ca h2
  have f2 := h.act.free v
  have vb : (v : Int) < (n : Int) + 1 := by omega
  have v0 : (0 : Int) ≤ (v : Int) := by omega
  have hbd := bump_bounds hA hb
  have HR1 : Hid (Rep (w.setCell ⟨L.a, v, none⟩ (.int .i64 (bump (A v) b))).drew L n k T P (upd A v (bump (A v) b))) := (h.setAct v _).drewN 1
  have HO1 : Hid (Only L.all w (w.setCell ⟨L.a, v, none⟩ (.int .i64 (bump (A v) b))).drew) := ((Only.refl _ _).set (by simp [Loc.all]) _).drewN 1
  have HH : Hid (Calls Try.prog 21 #[.pointer (some ⟨L.h, 0, none⟩), .int .i64 (v : Int)] (w.setCell ⟨L.a, v, none⟩ (.int .i64 (bump (A v) b))).drew fun e w' => e = .returned (.bool (P v != -1)) ∧ (w.setCell ⟨L.a, v, none⟩ (.int .i64 (bump (A v) b))).drew = w') := by
    have := Has_rep HR1.out (v : Int)
    rw [isV_nat h1 h2, Int.toNat_natCast, Bool.true_and] at this
    exact this
  have HIN : Hid (P v ≠ -1 → Calls Try.prog 26 #[.pointer (some ⟨L.h, 0, none⟩), .int .i64 (v : Int)] (w.setCell ⟨L.a, v, none⟩ (.int .i64 (bump (A v) b))).drew fun e w' => e = .returned (.tuple #[]) ∧ ∃ T' P', Rep w' L n k T' P' (upd A v (bump (A v) b)) ∧ Inv 0 n k T' P' ∧ OrdFrom 0 k (upd A v (bump (A v) b)) T' ∧ (∀ u, P' u ≠ -1 ↔ P u ≠ -1) ∧ Only L.all (w.setCell ⟨L.a, v, none⟩ (.int .i64 (bump (A v) b))).drew w') := by
    intro q
    rcases hI.place v h1 h2 (by omega) with z | ⟨i, i1, i2, i3⟩
    · exact absurd z q
    · refine rise_rep HR1.out hI i v i1 i3 ?_ hn
      have := Up.bump hI hO i1 (a := bump (A v) b) (by rw [i3]; exact hbd.1)
      rw [i3] at this
      exact this
  have HOUT : Hid (P v = -1 → Inv 0 n k T P ∧ OrdFrom 0 k (upd A v (bump (A v) b)) T) := by
    intro q
    refine ⟨hI, ord_congr hO (fun j hj => ?_)⟩
    rw [upd_ne]
    intro z
    have := (hI.tree j hj).2.2
    rw [z, q] at this
    omega
  generalize upd A v (bump (A v) b) = A' at *
  have HP : Hid (∀ x, x = P v → P v = x) := fun _ h => h.symm
  have hbm : bump (A v) b = A v + if b ≤ 1152921504606846976 - A v then b else 1152921504606846976 - A v := rfl
  generalize bump (A v) b = s at *
  generalize A v = a at *
  clear h hI hO hbd
  have eb : b ≤ 1152921504606846976 - a ∨ 1152921504606846976 - a < b := by omega
  by_cases q : P v = -1
  · have q2 : (P v != -1) = false := by simpa using q
    rw [q2] at HH
    have HQ := Lib.hid q
    clear q q2 HIN HP
    rcases eb with hle | hle
    · rw [if_pos hle] at hbm
      subst hbm
      go_enter Try.func15, Try.ntmps15
      go_wp2_with fail
      refine hv.mono ?_
      rintro e w' ⟨rfl, rfl⟩
      go_wp2_with fail
      go_region
      generalize (w.setCell ⟨L.a, v, none⟩ (.int .i64 (a + b))).drew = W1 at *
      go_wp2_with fail
      refine HH.out.mono ?_
      rintro e w' ⟨rfl, rfl⟩
      go_wp2_with fail
      go_ret
      exact ⟨rfl, T, P, HR1.out, (HOUT.out HQ.out).1, (HOUT.out HQ.out).2, fun _ => Iff.rfl, HO1.out⟩
    · rw [if_neg (by omega)] at hbm
      obtain rfl : s = 1152921504606846976 := by omega
      clear hbm
      go_enter Try.func15, Try.ntmps15
      go_wp2_with fail
      refine hv.mono ?_
      rintro e w' ⟨rfl, rfl⟩
      go_wp2_with fail
      go_region
      rw [show a + (1152921504606846976 - a) = 1152921504606846976 by omega]
      generalize (w.setCell ⟨L.a, v, none⟩ (.int .i64 1152921504606846976)).drew = W1 at *
      go_wp2_with fail
      refine HH.out.mono ?_
      rintro e w' ⟨rfl, rfl⟩
      go_wp2_with fail
      go_ret
      exact ⟨rfl, T, P, HR1.out, (HOUT.out HQ.out).1, (HOUT.out HQ.out).2, fun _ => Iff.rfl, HO1.out⟩
  · have q2 : (P v != -1) = true := by simpa using q
    rw [q2] at HH
    have HQ := Lib.hid (HIN.out q)
    clear q q2 HIN HP HOUT
    rcases eb with hle | hle
    · rw [if_pos hle] at hbm
      subst hbm
      go_enter Try.func15, Try.ntmps15
      go_wp2_with fail
      refine hv.mono ?_
      rintro e w' ⟨rfl, rfl⟩
      go_wp2_with fail
      go_region
      generalize (w.setCell ⟨L.a, v, none⟩ (.int .i64 (a + b))).drew = W1 at *
      go_wp2_with fail
      refine HH.out.mono ?_
      rintro e w' ⟨rfl, rfl⟩
      go_wp2_with fail
      refine HQ.out.mono ?_
      rintro e w' ⟨rfl, T', P', r1, r2, r3, r4, r5⟩
      go_wp2_with fail
      go_ret
      exact ⟨rfl, T', P', r1, r2, r3, r4, HO1.out.trans r5⟩
    · rw [if_neg (by omega)] at hbm
      obtain rfl : s = 1152921504606846976 := by omega
      clear hbm
      go_enter Try.func15, Try.ntmps15
      go_wp2_with fail
      refine hv.mono ?_
      rintro e w' ⟨rfl, rfl⟩
      go_wp2_with fail
      go_region
      rw [show a + (1152921504606846976 - a) = 1152921504606846976 by omega]
      generalize (w.setCell ⟨L.a, v, none⟩ (.int .i64 1152921504606846976)).drew = W1 at *
      go_wp2_with fail
      refine HH.out.mono ?_
      rintro e w' ⟨rfl, rfl⟩
      go_wp2_with fail
      refine HQ.out.mono ?_
      rintro e w' ⟨rfl, T', P', r1, r2, r3, r4, r5⟩
      go_wp2_with fail
      go_ret
      exact ⟨rfl, T', P', r1, r2, r3, r4, HO1.out.trans r5⟩

/-- Bump, as the document has it. -/
theorem Bump_heap {w : World} {L : Loc} {n : Nat} {In : Nat → Bool} {A : Nat → Int} (h : IsHeap w L n In A) (v b : Int) (hb : b ≤ 9223372036854775807) :
    Calls Try.prog 15 #[.pointer (some ⟨L.h, 0, none⟩), .int .i64 v, .int .i64 b] w fun e w' => e = .returned (.bool (isV n v && decide (0 ≤ b))) ∧ IsHeap w' L n In (if isV n v = true ∧ 0 ≤ b then upd A v.toNat (bump (A v.toNat) b) else A) ∧ Only L.all w w' := by
  have hh := h
  obtain ⟨k, T, P, hr, hI, hO, hP, hk, hA0, hA, hn⟩ := h
  by_cases c : isV n v = true ∧ 0 ≤ b
  · obtain ⟨u, rfl, u1, u2⟩ := isV_cases c.1
    rw [if_pos c, c.1]
    refine (Bump_some hr hI hO u b u1 u2 c.2 hb (hA u u2) hn).mono ?_
    rintro e w' ⟨rfl, T', P', r1, r2, r3, r4, r5⟩
    refine ⟨by simp [c.2], ⟨k, T', P', r1, r2, r3, fun x x1 x2 => by rw [r4]; exact hP x x1 x2, hk, ?_, fun x x2 => ?_, hn⟩, r5⟩
    · rw [upd_ne _ _ _ (by simp; omega)]; exact hA0
    · simp only [Int.toNat_natCast]
      by_cases q : x = u
      · subst q; rw [upd_same]; exact (bump_bounds (hA x x2) c.2).2
      · rw [upd_ne _ _ _ q]; exact hA x x2
  · rw [if_neg c]
    have e : (isV n v && decide (0 ≤ b)) = false := by
      cases q : isV n v with
      | false => rfl
      | true => simp; exact Int.not_le.1 (fun z => c ⟨q, z⟩)
    rw [e]
    refine (Bump_none hr v b (fun q => Int.not_le.1 (fun z => c ⟨q, z⟩))).mono ?_
    rintro e w' ⟨rfl, rfl⟩
    exact ⟨rfl, hh, Only.refl _ _⟩
end Go.Proofs.Ytanmpokfeidlcaa.Hp
