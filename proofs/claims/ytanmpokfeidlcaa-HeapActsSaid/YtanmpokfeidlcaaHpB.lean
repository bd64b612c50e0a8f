/- Contract of rise: the heap is in order again. -/
import Derived.Test.YtanmpokfeidlcaaHpA
namespace Go.Proofs.Ytanmpokfeidlcaa.Hp
open Go Go.RowKit Go.Lib

/-- In memory the place i of the tree is not yet written, nor v's place. -/
structure Hole (w : World) (x : Nat) (L : Loc) (n k : Nat) (T : Nat → Nat) (P A : Nat → Int) (i v : Nat) : Prop where
  rep : ∃ Tm Pm, Rep w L n k Tm Pm A ∧ (∀ j, j ≠ i → Tm j = T j) ∧ (∀ u, u ≠ v → Pm u = P u)
  here : T i = v
  inv : Inv x n k T P
  lt : i < k

theorem Hole.swp {w w' : World} {x : Nat} {L : Loc} {n k : Nat} {T Tm : Nat → Nat} {P Pm A : Nat → Int} {i v a : Nat} (h : Hole w x L n k T P A i v) (hm : ∀ j, j ≠ i → Tm j = T j) (hp : ∀ u, u ≠ v → Pm u = P u) (ha : a < k) (hne : i ≠ a)
    (hr : Rep w' L n k (upd Tm i (T a)) (upd Pm (T a) (i : Int)) A) : Hole w' x L n k (swpT T i a) (swpP T P i a) A a v := by
  have hv : T a ≠ v := fun e => hne (h.inv.inj h.lt ha (by rw [e, h.here]))
  refine ⟨⟨_, _, hr, fun j hj => ?_, fun u hu => ?_⟩, by rw [swpT_at]; exact h.here, h.inv.swp h.lt ha hne, ha⟩
  · by_cases e : j = i
    · subst e; rw [upd_same, swpT_from T hne]
    · rw [upd_ne _ _ _ e, swpT_else T e hj, hm j e]
  · unfold swpP
    rw [h.here, upd_ne _ _ _ hu]
    by_cases e : u = T a
    · subst e; rw [upd_same, upd_same]
    · rw [upd_ne _ _ _ e, upd_ne _ _ _ e, hp u hu]

theorem Hole.fill {w w' : World} {x : Nat} {L : Loc} {n k : Nat} {T Tm : Nat → Nat} {P Pm A : Nat → Int} {i v : Nat} (h : Hole w x L n k T P A i v) (hm : ∀ j, j ≠ i → Tm j = T j) (hp : ∀ u, u ≠ v → Pm u = P u)
    (hr : Rep w' L n k (upd Tm i v) (upd Pm v (i : Int)) A) : Rep w' L n k T P A := by
  refine hr.congr (fun j _ => ?_) (fun u _ => ?_) (fun _ _ => rfl)
  · by_cases e : j = i
    · subst e; rw [upd_same]; exact h.here.symm
    · rw [upd_ne _ _ _ e, hm j e]
  · by_cases e : u = v
    · subst e; rw [upd_same]; have := (h.inv.tree i h.lt).2.2; rw [h.here] at this; exact this.symm
    · rw [upd_ne _ _ _ e, hp u e]

set_option maxHeartbeats 2000000 in
theorem rise_rep {w : World} {x : Nat} {L : Loc} {n k : Nat} {T : Nat → Nat} {P A : Nat → Int} (h : Rep w L n k T P A) (hI : Inv x n k T P) (i0 v : Nat) (h0 : i0 < k) (hT : T i0 = v) (hU : Up k A T i0) (hn : n ≤ 100000) :
    Calls Try.prog 26 #[.pointer (some ⟨L.h, 0, none⟩), .int .i64 (v : Int)] w fun e w' => e = .returned (.tuple #[]) ∧ ∃ T' P', Rep w' L n k T' P' A ∧ Inv x n k T' P' ∧ OrdFrom 0 k A T' ∧ (∀ u, P' u ≠ -1 ↔ P u ≠ -1) ∧ Only L.all w w' := by
  have hv1 : 1 ≤ v := by rw [← hT]; exact (hI.tree i0 h0).1
  have hv2 : v ≤ n := by rw [← hT]; exact (hI.tree i0 h0).2.1
  have hk := hI.le
  have c1 := h.c1
  have c2 := h.cp (i := v) hv2
  have e2 : P v = (i0 : Int) := by rw [← hT]; exact (hI.tree i0 h0).2.2
  rw [e2] at c2
  have vb : (v : Int) < (n : Int) + 1 := by omega
  have v0 : (0 : Int) ≤ (v : Int) := by omega
  have START : Hid (Hole w x L n k T P A i0 v ∧ Up k A T i0) := ⟨⟨⟨T, P, h, fun _ _ => rfl, fun _ _ => rfl⟩, hT, hI, h0⟩, hU⟩
  clear h hI hT hU e2
  go_enter Try.func26, Try.ntmps26
  go_wp2
  go_loopw [4] (fun iv wr => ∃ (i : Nat) (T' : Nat → Nat) (P' : Nat → Int), iv = .int .i64 (i : Int) ∧ Hid (Hole wr x L n k T' P' A i v ∧ Up k A T' i) ∧ Hid (∀ u, P' u ≠ -1 ↔ P u ≠ -1) ∧ Hid (Only L.all w wr)) (fun iv _ => (intOf iv).toNat)
  case atStart => exact ⟨i0, T, P, rfl, START, fun _ => Iff.rfl, Only.refl _ _⟩
  case round =>
    obtain ⟨i, T', P', rfl, HH, HP, HO⟩ := hrel
    have hik : i < k := HH.out.1.lt
    obtain ⟨Tm, Pm, hr, hm, hp⟩ := HH.out.1.rep
    have HM : Hid ((∀ j, j ≠ i → Tm j = T' j) ∧ (∀ u, u ≠ v → Pm u = P' u)) := ⟨hm, hp⟩
    have d0 := hr.c0
    have HS : Hid (∀ q, Calls Try.prog 24 #[.pointer (some ⟨L.h, 0, none⟩), .int .i64 (i : Int), .int .i64 (v : Int)] (wr.drewN q) fun e w' => e = .returned (.tuple #[]) ∧ Rep w' L n k (upd Tm i v) (upd Pm v (i : Int)) A ∧ Only L.all (wr.drewN q) w') :=
      fun q => set_rep (hr.drewN q) i v hik hk hv2 hn
    by_cases hi : 0 < i
    · have hiz : (0 : Int) < (i : Int) := by omega
      obtain ⟨a, ha⟩ : ∃ a, a = par i := ⟨_, rfl⟩
      have hai : a < i := by rw [ha]; exact par_lt hi
      have hq : ((i : Int) - 1).tdiv 2 = (a : Int) := by rw [Int.tdiv_eq_ediv_of_nonneg (by omega), ha]; unfold par; omega
      have HA := Lib.hid ha
      have ct := hr.ct (i := a) (by omega)
      have hTa : Tm a = T' a := hm a (by omega)
      have hTa1 := (HH.out.1.inv.tree a (by omega))
      obtain ⟨u, hu⟩ : ∃ u, u = T' a := ⟨_, rfl⟩
      rw [hTa, ← hu] at ct
      have HU := Lib.hid hu
      have hun : u ≤ n := by rw [hu]; exact hTa1.2.1
      have HB : Hid (∀ q, Calls Try.prog 29 #[.pointer (some ⟨L.h, 0, none⟩), .int .i64 (v : Int), .int .i64 (u : Int)] (wr.drewN q) fun e w' => e = .returned (.bool (bef A v u)) ∧ ∃ q', w' = (wr.drewN q).drewN q') := fun q => before_rep (hr.drewN q) v u hv2 hun hn
      have HS2 : Hid (∀ q, Calls Try.prog 24 #[.pointer (some ⟨L.h, 0, none⟩), .int .i64 (i : Int), .int .i64 (u : Int)] (wr.drewN q) fun e w' => e = .returned (.tuple #[]) ∧ Rep w' L n k (upd Tm i u) (upd Pm u (i : Int)) A ∧ Only L.all (wr.drewN q) w') :=
        fun q => set_rep (hr.drewN q) i u hik hk hun hn
      have ab : (a : Int) < (k : Int) := by omega
      have a0 : (0 : Int) ≤ (a : Int) := by omega
      clear hr hm hp ha hTa hTa1 hu
      cases hb : bef A v u with
      | true =>
        rw [hb] at HB
        have HBB := Lib.hid hb
        clear hb
        go_wp2_with fail
        refine (HB.out 0).mono ?_
        rintro e w1 ⟨rfl, q1, rfl⟩
        go_wp2_with fail
        refine (HS2.out _).mono ?_
        rintro e w2 ⟨rfl, hr2, ho2⟩
        have HH2 : Hid (Hole w2 x L n k (swpT T' i a) (swpP T' P' i a) A a v ∧ Up k A (swpT T' i a) a) := by
          have hai' := hai
          obtain ⟨g1, g2⟩ := HH.out
          obtain ⟨m1, m2⟩ := HM.out
          rw [HU.out] at hr2
          refine ⟨g1.swp m1 m2 (by omega) (by omega) hr2, ?_⟩
          rw [HA.out]
          exact g2.swp (by omega) hik (by rw [g1.here, ← HA.out, ← HU.out]; exact HBB.out)
        have HP2 : Hid (∀ u, swpP T' P' i a u ≠ -1 ↔ P u ≠ -1) := fun x => (swpP_neg HH.out.1.inv hik (by omega) x).trans (HP.out x)
        have HO2 : Hid (Only L.all w w2) := (HO.out.trans ((Only.refl _ _).drewN _)).trans ho2
        clear hr2 ho2
        go_wp2_with fail
        go_roundw
        case rel => exact ⟨a, _, _, rfl, HH2, HP2, HO2⟩
        case measure => simp [intOf]; omega
      | false =>
        rw [hb] at HB
        have HBB := Lib.hid hb
        clear hb
        go_wp2_with fail
        refine (HB.out 0).mono ?_
        rintro e w1 ⟨rfl, q1, rfl⟩
        go_wp2_with fail
        refine (HS.out _).mono ?_
        rintro e w2 ⟨rfl, hr2, ho2⟩
        go_wp2_with fail
        go_end0
        obtain ⟨g1, g2⟩ := HH.out
        obtain ⟨m1, m2⟩ := HM.out
        refine ⟨rfl, T', P', g1.fill m1 m2 hr2, g1.inv, g2.done (fun _ => ?_), HP.out, (HO.out.trans ((Only.refl _ _).drewN _)).trans ho2⟩
        rw [g1.here, ← HA.out, ← HU.out]
        exact HBB.out
    · have hiz : decide ((0 : Int) < (i : Int)) = false := by simpa using hi
      clear hr hm hp
      go_wp2_with fail
      refine (HS.out 0).mono ?_
      rintro e w2 ⟨rfl, hr2, ho2⟩
      go_wp2_with fail
      go_end0
      obtain ⟨g1, g2⟩ := HH.out
      obtain ⟨m1, m2⟩ := HM.out
      exact ⟨rfl, T', P', g1.fill m1 m2 hr2, g1.inv, g2.done (fun h => absurd h hi), HP.out, HO.out.trans ho2⟩
end Go.Proofs.Ytanmpokfeidlcaa.Hp
