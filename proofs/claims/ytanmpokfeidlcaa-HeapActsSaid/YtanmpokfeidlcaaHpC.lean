/- Contracts of firstBelow and sink. -/
import Derived.Test.YtanmpokfeidlcaaHpB
namespace Go.Proofs.Ytanmpokfeidlcaa.Hp
open Go Go.RowKit Go.Lib

/-- The place of the one that comes first of the two below i. -/
def fb (A : Nat → Int) (T : Nat → Nat) (k i : Nat) : Nat := if 2 * i + 2 < k ∧ bef A (T (2 * i + 2)) (T (2 * i + 1)) = true then 2 * i + 2 else 2 * i + 1

set_option maxHeartbeats 1000000 in
theorem firstBelow_none {w : World} {L : Loc} {n k : Nat} {T : Nat → Nat} {P A : Nat → Int} (h : Rep w L n k T P A) (i : Nat) (hi : i < k) (hk : k ≤ n) (hn : n ≤ 100000) (h1 : k ≤ 2 * i + 1) :
    Calls Try.prog 30 #[.pointer (some ⟨L.h, 0, none⟩), .int .i64 (i : Int)] w fun e w' => e = .returned (.tuple #[.int .i64 0, .bool false]) ∧ ∃ q, w' = w.drewN q := by
  have d0 := h.c0
  have h2 : (k : Int) ≤ 2 * (i : Int) + 1 := by omega
  clear h h1
  go_enter Try.func30, Try.ntmps30
  go_wp2
  go_ret2
  exact ⟨rfl, 0, rfl⟩

set_option maxHeartbeats 1000000 in
theorem firstBelow_some {w : World} {L : Loc} {n k : Nat} {T : Nat → Nat} {P A : Nat → Int} (h : Rep w L n k T P A) (i : Nat) (hi : i < k) (hk : k ≤ n) (hn : n ≤ 100000) (h1 : 2 * i + 1 < k) (hT : ∀ j, j < k → j ≠ i → T j ≤ n) :
    Calls Try.prog 30 #[.pointer (some ⟨L.h, 0, none⟩), .int .i64 (i : Int)] w fun e w' => e = .returned (.tuple #[.int .i64 (fb A T k i : Int), .bool true]) ∧ ∃ q, w' = w.drewN q := by
  have d0 := h.c0
  have h2 : ¬ (k : Int) ≤ 2 * (i : Int) + 1 := by omega
  have h2' : decide ((k : Int) ≤ 2 * (i : Int) + 1) = false := by simpa using h2
  obtain ⟨l, hl⟩ : ∃ l, l = 2 * i + 1 := ⟨_, rfl⟩
  by_cases h3 : 2 * i + 2 < k
  · obtain ⟨r, hr⟩ : ∃ r, r = 2 * i + 2 := ⟨_, rfl⟩
    have cl := h.ct (i := 2 * i + 1) (by omega)
    have cr := h.ct (i := 2 * i + 2) (by omega)
    have HB : Hid (∀ q, Calls Try.prog 29 #[.pointer (some ⟨L.h, 0, none⟩), .int .i64 (T (2 * i + 2) : Int), .int .i64 (T (2 * i + 1) : Int)] (w.drewN q) fun e w' => e = .returned (.bool (bef A (T (2 * i + 2)) (T (2 * i + 1)))) ∧ ∃ q', w' = (w.drewN q).drewN q') :=
      fun q => before_rep (h.drewN q) _ _ (hT _ h3 (by omega)) (hT _ h1 (by omega)) hn
    have HF : Hid (fb A T k i = if bef A (T (2 * i + 2)) (T (2 * i + 1)) = true then 2 * i + 2 else 2 * i + 1) := by unfold Hid fb; simp [h3]
    have h4 : 2 * (i : Int) + 2 < (k : Int) := by omega
    have h5 : (0 : Int) ≤ 2 * (i : Int) + 2 := by omega
    have h6 : (0 : Int) ≤ 2 * (i : Int) + 1 := by omega
    have h7 : 2 * (i : Int) + 1 < (k : Int) := by omega
    have n1 : (2 * (i : Int) + 2).toNat = 2 * i + 2 := by omega
    have n2 : (2 * (i : Int) + 1).toNat = 2 * i + 1 := by omega
    clear h hT hl hr
    generalize T (2 * i + 2) = x at *
    generalize T (2 * i + 1) = y at *
    cases hb : bef A x y with
    | true =>
      rw [hb] at HB HF
      clear hb
      go_enter Try.func30, Try.ntmps30
      go_wp2
      go_quiet ((go_at_call 29; exact Calls.quiet_of (HB.out _)))
      go_wp2
      go_ret2
      rw [HF.out]
      exact ⟨rfl, _, rfl⟩
    | false =>
      rw [hb] at HB HF
      clear hb
      go_enter Try.func30, Try.ntmps30
      go_wp2
      go_quiet ((go_at_call 29; exact Calls.quiet_of (HB.out _)))
      go_wp2
      go_ret2
      rw [HF.out]
      exact ⟨rfl, _, rfl⟩
  · have HF : Hid (fb A T k i = 2 * i + 1) := by unfold Hid fb; simp [h3]
    have h4 : ¬ 2 * (i : Int) + 2 < (k : Int) := by omega
    have h4' : decide (2 * (i : Int) + 2 < (k : Int)) = false := by simpa using h4
    clear h hT hl
    go_enter Try.func30, Try.ntmps30
    go_wp2
    go_quiet (fail)
    go_wp2
    go_ret2
    rw [HF.out]
    exact ⟨rfl, _, rfl⟩

theorem fb_below {A : Nat → Int} {T : Nat → Nat} {k i : Nat} (h : 2 * i + 1 < k) : 0 < fb A T k i ∧ fb A T k i < k ∧ par (fb A T k i) = i ∧ i < fb A T k i := by
  unfold fb par; split <;> omega
theorem fb_best {A : Nat → Int} {T : Nat → Nat} {k i : Nat} : ∀ j, 0 < j → j < k → par j = i → bef A (T j) (T (fb A T k i)) = false := by
  intro j j0 jk hp
  have e : j = 2 * i + 1 ∨ j = 2 * i + 2 := by unfold par at hp; omega
  unfold fb
  split
  · rename_i hh
    rcases e with e | e
    · subst e; exact bef_asymm hh.2
    · subst e; rw [bef_not]; omega
  · rename_i hh
    rcases e with e | e
    · subst e; rw [bef_not]; omega
    · subst e
      cases hb : bef A (T (2 * i + 2)) (T (2 * i + 1)) with
      | false => rfl
      | true => exact absurd ⟨jk, hb⟩ hh
theorem fb_congr {A : Nat → Int} {T T' : Nat → Nat} {k i : Nat} (h : ∀ j, j ≠ i → T j = T' j) : fb A T k i = fb A T' k i := by
  unfold fb; rw [h (2 * i + 2) (by omega), h (2 * i + 1) (by omega)]

set_option maxHeartbeats 2000000 in
theorem sink_rep {w : World} {x : Nat} {L : Loc} {n k : Nat} {T : Nat → Nat} {P A : Nat → Int} (h : Rep w L n k T P A) (hI : Inv x n k T P) (m i0 v : Nat) (h0 : i0 < k) (hm0 : m ≤ i0) (hT : T i0 = v) (hU : Down m k A T i0) (hn : n ≤ 100000) :
    Calls Try.prog 28 #[.pointer (some ⟨L.h, 0, none⟩), .int .i64 (v : Int)] w fun e w' => e = .returned (.tuple #[]) ∧ ∃ T' P', Rep w' L n k T' P' A ∧ Inv x n k T' P' ∧ OrdFrom m k A T' ∧ (∀ u, P' u ≠ -1 ↔ P u ≠ -1) ∧ Only L.all w w' := by
  have hv2 : v ≤ n := by rw [← hT]; exact (hI.tree i0 h0).2.1
  have hk := hI.le
  have c1 := h.c1
  have c2 := h.cp (i := v) hv2
  have e2 : P v = (i0 : Int) := by rw [← hT]; exact (hI.tree i0 h0).2.2
  rw [e2] at c2
  have vb : (v : Int) < (n : Int) + 1 := by omega
  have v0 : (0 : Int) ≤ (v : Int) := by omega
  have START : Hid (Hole w x L n k T P A i0 v ∧ Down m k A T i0) := ⟨⟨⟨T, P, h, fun _ _ => rfl, fun _ _ => rfl⟩, hT, hI, h0⟩, hU⟩
  clear h hI hT hU e2
  go_enter Try.func28, Try.ntmps28
  go_wp2
  go_loopw [4] (fun iv wr => ∃ (i : Nat) (T' : Nat → Nat) (P' : Nat → Int), iv = .int .i64 (i : Int) ∧ i < k ∧ m ≤ i ∧ Hid (Hole wr x L n k T' P' A i v ∧ Down m k A T' i) ∧ Hid (∀ u, P' u ≠ -1 ↔ P u ≠ -1) ∧ Hid (Only L.all w wr)) (fun iv _ => k - (intOf iv).toNat)
  case atStart => exact ⟨i0, T, P, rfl, h0, hm0, START, fun _ => Iff.rfl, Only.refl _ _⟩
  case round =>
    obtain ⟨i, T', P', rfl, hik, hmi, HH, HP, HO⟩ := hrel
    obtain ⟨Tm, Pm, hr, hm, hp⟩ := HH.out.1.rep
    have HM : Hid ((∀ j, j ≠ i → Tm j = T' j) ∧ (∀ u, u ≠ v → Pm u = P' u)) := ⟨hm, hp⟩
    have d0 := hr.c0
    have HS : Hid (∀ q, Calls Try.prog 24 #[.pointer (some ⟨L.h, 0, none⟩), .int .i64 (i : Int), .int .i64 (v : Int)] (wr.drewN q) fun e w' => e = .returned (.tuple #[]) ∧ Rep w' L n k (upd Tm i v) (upd Pm v (i : Int)) A ∧ Only L.all (wr.drewN q) w') :=
      fun q => set_rep (hr.drewN q) i v hik hk hv2 hn
    by_cases hc : 2 * i + 1 < k
    · have HFB : Hid (Calls Try.prog 30 #[.pointer (some ⟨L.h, 0, none⟩), .int .i64 (i : Int)] wr fun e w' => e = .returned (.tuple #[.int .i64 (fb A T' k i : Int), .bool true]) ∧ ∃ q, w' = wr.drewN q) := by
        rw [← fb_congr hm]
        exact firstBelow_some hr i hik hk hn hc (fun j hj hne => by rw [hm j hne]; exact (HH.out.1.inv.tree j hj).2.1)
      have HC : Hid (0 < fb A T' k i ∧ par (fb A T' k i) = i ∧ (∀ j, 0 < j → j < k → par j = i → bef A (T' j) (T' (fb A T' k i)) = false)) := ⟨(fb_below hc).1, (fb_below hc).2.2.1, fb_best⟩
      have hck := (fb_below (A := A) (T := T') hc).2.1
      have hci := (fb_below (A := A) (T := T') hc).2.2.2
      generalize fb A T' k i = c at *
      have ct := hr.ct (i := c) (by omega)
      have hTc : Tm c = T' c := hm c (by omega)
      have hTc1 := (HH.out.1.inv.tree c (by omega))
      obtain ⟨u, hu⟩ : ∃ u, u = T' c := ⟨_, rfl⟩
      rw [hTc, ← hu] at ct
      have HU := Lib.hid hu
      have hun : u ≤ n := by rw [hu]; exact hTc1.2.1
      have HB : Hid (∀ q, Calls Try.prog 29 #[.pointer (some ⟨L.h, 0, none⟩), .int .i64 (u : Int), .int .i64 (v : Int)] (wr.drewN q) fun e w' => e = .returned (.bool (bef A u v)) ∧ ∃ q', w' = (wr.drewN q).drewN q') := fun q => before_rep (hr.drewN q) u v hun hv2 hn
      have HS2 : Hid (∀ q, Calls Try.prog 24 #[.pointer (some ⟨L.h, 0, none⟩), .int .i64 (i : Int), .int .i64 (u : Int)] (wr.drewN q) fun e w' => e = .returned (.tuple #[]) ∧ Rep w' L n k (upd Tm i u) (upd Pm u (i : Int)) A ∧ Only L.all (wr.drewN q) w') :=
        fun q => set_rep (hr.drewN q) i u hik hk hun hn
      have cb : (c : Int) < (k : Int) := by omega
      have c0 : (0 : Int) ≤ (c : Int) := by omega
      clear hr hm hp hTc hTc1 hu
      cases hb : bef A u v with
      | true =>
        rw [hb] at HB
        have HBB := Lib.hid hb
        clear hb
        go_wp2_with fail
        refine HFB.out.mono ?_
        rintro e w1 ⟨rfl, q1, rfl⟩
        go_wp2_with fail
        refine (HB.out _).mono ?_
        rintro e w1 ⟨rfl, q2, rfl⟩
        go_wp2_with fail
        refine (HS2.out _).mono ?_
        rintro e w2 ⟨rfl, hr2, ho2⟩
        have HH2 : Hid (Hole w2 x L n k (swpT T' i c) (swpP T' P' i c) A c v ∧ Down m k A (swpT T' i c) c) := by
          obtain ⟨g1, g2⟩ := HH.out
          obtain ⟨m1, m2⟩ := HM.out
          obtain ⟨k1, k2, k3⟩ := HC.out
          rw [HU.out] at hr2
          exact ⟨g1.swp m1 m2 hck (by omega) hr2, g2.swp hmi k1 hck k2 (by rw [g1.here, ← HU.out]; exact HBB.out) k3⟩
        have HP2 : Hid (∀ u, swpP T' P' i c u ≠ -1 ↔ P u ≠ -1) := fun x => (swpP_neg HH.out.1.inv hik hck x).trans (HP.out x)
        have HO2 : Hid (Only L.all w w2) := (HO.out.trans ((Only.refl _ _).drewN _)).trans ho2
        clear hr2 ho2
        go_wp2_with fail
        go_roundw
        case rel => exact ⟨c, _, _, rfl, hck, by omega, HH2, HP2, HO2⟩
        case measure => simp [intOf]; omega
      | false =>
        rw [hb] at HB
        have HBB := Lib.hid hb
        clear hb
        go_wp2_with fail
        refine HFB.out.mono ?_
        rintro e w1 ⟨rfl, q1, rfl⟩
        go_wp2_with fail
        refine (HB.out _).mono ?_
        rintro e w1 ⟨rfl, q2, rfl⟩
        go_wp2_with fail
        refine (HS.out _).mono ?_
        rintro e w2 ⟨rfl, hr2, ho2⟩
        go_wp2_with fail
        go_end0
        obtain ⟨g1, g2⟩ := HH.out
        obtain ⟨m1, m2⟩ := HM.out
        obtain ⟨k1, k2, k3⟩ := HC.out
        refine ⟨rfl, T', P', g1.fill m1 m2 hr2, g1.inv, g2.done (fun j j0 jk hp => ?_), HP.out, (HO.out.trans ((Only.refl _ _).drewN _)).trans ho2⟩
        rw [g1.here]
        exact bef_ntrans (k3 j j0 jk hp) (by rw [← HU.out]; exact HBB.out)
    · have HFB : Hid (Calls Try.prog 30 #[.pointer (some ⟨L.h, 0, none⟩), .int .i64 (i : Int)] wr fun e w' => e = .returned (.tuple #[.int .i64 0, .bool false]) ∧ ∃ q, w' = wr.drewN q) :=
        firstBelow_none hr i hik hk hn (by omega)
      have HN : Hid (∀ j, 0 < j → j < k → par j = i → False) := by intro j j0 jk hp; unfold par at hp; omega
      clear hr hm hp
      go_wp2_with fail
      refine HFB.out.mono ?_
      rintro e w1 ⟨rfl, q1, rfl⟩
      go_wp2_with fail
      refine (HS.out _).mono ?_
      rintro e w2 ⟨rfl, hr2, ho2⟩
      go_wp2_with fail
      go_end0
      obtain ⟨g1, g2⟩ := HH.out
      obtain ⟨m1, m2⟩ := HM.out
      exact ⟨rfl, T', P', g1.fill m1 m2 hr2, g1.inv, g2.done (fun j j0 jk hp => (HN.out j j0 jk hp).elim), HP.out, (HO.out.trans ((Only.refl _ _).drewN _)).trans ho2⟩
end Go.Proofs.Ytanmpokfeidlcaa.Hp
