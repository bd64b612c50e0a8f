/- Contract of Next. -/
import Derived.Test.YtanmpokfeidlcaaHpD
namespace Go.Proofs.Ytanmpokfeidlcaa.Hp
open Go Go.RowKit Go.Lib

set_option maxHeartbeats 1000000 in
theorem Next_none {w : World} {L : Loc} {n : Nat} {T : Nat → Nat} {P A : Nat → Int} (h : Rep w L n 0 T P A) :
    Calls Try.prog 13 #[.pointer (some ⟨L.h, 0, none⟩)] w fun e w' => e = .returned (.tuple #[.int .i64 0, .bool false]) ∧ w = w' := by
  have hl := Len_rep h
  clear h
  go_enter Try.func13, Try.ntmps13
  go_wp2_with fail
  refine hl.mono ?_
  rintro e w' ⟨rfl, rfl⟩
  go_wp2_with fail
  go_ret2
  exact ⟨rfl, rfl⟩

set_option maxHeartbeats 2000000 in
theorem Next_some {w : World} {L : Loc} {n e : Nat} {T : Nat → Nat} {P A : Nat → Int} (h : Rep w L n (e + 1) T P A) (hI : Inv 0 n (e + 1) T P) (hO : OrdFrom 0 (e + 1) A T) (hn : n ≤ 100000) :
    Calls Try.prog 13 #[.pointer (some ⟨L.h, 0, none⟩)] w fun r w' => r = .returned (.tuple #[.int .i64 (T 0 : Int), .bool true]) ∧ ∃ T' P', Rep w' L n e T' P' A ∧ Inv 0 n e T' P' ∧ OrdFrom 0 e A T' ∧ (∀ u, P' u ≠ -1 ↔ upd P (T 0) (-1) u ≠ -1) ∧ Only L.all w w' := by
  have hl := Len_rep h
  have hle := hI.le
  have d0 := h.c0
  have ct0 := h.ct (i := 0) (by omega)
  have cte := h.ct (i := e) (by omega)
  have f0 := h.head.free 0
  have HR1 : Hid (Rep (w.setCell ⟨L.h, 0, none⟩ (.slice (some ⟨L.t, 0, none⟩) e n)) L n e T P A) := h.setHead e
  have HO1 : Hid (Only L.all w (w.setCell ⟨L.h, 0, none⟩ (.slice (some ⟨L.t, 0, none⟩) e n))) := (Only.refl _ _).set (by simp [Loc.all]) _
  have t0 := hI.tree 0 (by omega)
  have te := hI.tree e (by omega)
  obtain ⟨x, hx⟩ : ∃ x, x = T 0 := ⟨_, rfl⟩
  obtain ⟨l, hl2⟩ : ∃ l, l = T e := ⟨_, rfl⟩
  have xb : (x : Int) < (n : Int) + 1 := by omega
  have x0 : (0 : Int) ≤ (x : Int) := by omega
  have hx1 : x ≤ n := by omega
  have hl1 : l ≤ n := by omega
  have eb : (e : Int) ≤ (n : Int) := by omega
  have HII := Lib.hid hI
  have HOO := Lib.hid hO
  have HX : Hid (x = T 0 ∧ l = T e ∧ P (T 0) = 0) := ⟨hx, hl2, t0.2.2⟩
  rw [← hx] at ct0
  rw [← hl2] at cte
  rw [← hx]
  clear h hI hO t0 te hx hl2
  by_cases he : 0 < e
  · have HS : Hid (Calls Try.prog 24 #[.pointer (some ⟨L.h, 0, none⟩), .int .i64 0, .int .i64 (l : Int)] (w.setCell ⟨L.h, 0, none⟩ (.slice (some ⟨L.t, 0, none⟩) e n)) fun r w' => r = .returned (.tuple #[]) ∧ Rep w' L n e (upd T 0 l) (upd P l 0) A ∧ Only L.all (w.setCell ⟨L.h, 0, none⟩ (.slice (some ⟨L.t, 0, none⟩) e n)) w') :=
      set_rep HR1.out 0 l he (by omega) hl1 hn
    have HK : Hid (∀ w2, Rep w2 L n e (upd T 0 l) (upd P l 0) A → Calls Try.prog 28 #[.pointer (some ⟨L.h, 0, none⟩), .int .i64 (l : Int)] w2 fun r w' => r = .returned (.tuple #[]) ∧ ∃ T' P', Rep w' L n e T' P' A ∧ Inv x n e T' P' ∧ OrdFrom 0 e A T' ∧ (∀ u, P' u ≠ -1 ↔ upd P l 0 u ≠ -1) ∧ Only L.all w2 w') := by
      intro w2 hr
      obtain ⟨rfl, rfl, _⟩ := HX.out
      exact sink_rep hr (HII.out.next he) 0 0 _ he (Nat.le_refl _) (upd_same _ _ _) (Down.next HOO.out _) hn
    have hez : (0 : Int) < (e : Int) := by omega
    go_enter Try.func13, Try.ntmps13
    go_wp2_with fail
    refine hl.mono ?_
    rintro r w' ⟨rfl, rfl⟩
    go_wp2_with fail
    refine HS.out.mono ?_
    rintro r w2 ⟨rfl, hr2, ho2⟩
    have HR2 := Lib.hid hr2
    have HO2 := Lib.hid ho2
    clear hr2 ho2
    go_wp2_with fail
    refine (HK.out w2 HR2.out).mono ?_
    rintro r w3 ⟨rfl, T', P', hr3, hI3, hO3, hP3, ho3⟩
    have c1 := hr3.c1
    have c2 := hr3.cp hx1
    have c3 := hr3.place.free x
    have HR3 := Lib.hid hr3
    have HI3 := Lib.hid hI3
    have HO3 := Lib.hid hO3
    have HP3 := Lib.hid hP3
    have HU3 := Lib.hid ho3
    clear hr3 hI3 hO3 hP3 ho3
    go_wp2_with fail
    go_ret2
    refine ⟨rfl, T', _, HR3.out.setPlace x (-1), HI3.out.gone, HO3.out, fun u => ?_, (((HO1.out.trans HO2.out).trans HU3.out).set (by simp [Loc.all]) _)⟩
    by_cases q : u = x
    · subst q; rw [upd_same, upd_same]
    · rw [upd_ne _ _ _ q, upd_ne _ _ _ q, HP3.out]
      by_cases q2 : u = l
      · subst q2
        rw [upd_same, HX.out.2.1, (HII.out.tree e (by omega)).2.2]
        constructor <;> intro _ <;> omega
      · rw [upd_ne _ _ _ q2]
  · obtain rfl : e = 0 := by omega
    have c1 := HR1.out.c1
    have c2 := HR1.out.cp hx1
    have c3 := HR1.out.place.free x
    go_enter Try.func13, Try.ntmps13
    go_wp2_with fail
    refine hl.mono ?_
    rintro r w' ⟨rfl, rfl⟩
    go_wp2_with fail
    go_ret2
    refine ⟨rfl, T, _, HR1.out.setPlace x (-1), ⟨by omega, fun i hi => absurd hi (by omega), fun v v1 v2 v3 => ?_, fun i hi => absurd hi (by omega)⟩, fun j j0 jk _ => absurd jk (by omega), fun u => Iff.rfl, HO1.out.set (by simp [Loc.all]) _⟩
    by_cases q : v = x
    · subst q; exact Or.inl (upd_same _ _ _)
    · rw [upd_ne _ _ _ q]
      rcases HII.out.place v v1 v2 v3 with z | ⟨i, i1, _, i3⟩
      · exact Or.inl z
      · exact absurd (by rw [HX.out.1, ← i3, show i = 0 by omega]) q

/-- Next, as the document has it. -/
theorem Next_heap {w : World} {L : Loc} {n : Nat} {In : Nat → Bool} {A : Nat → Int} (h : IsHeap w L n In A) :
    Calls Try.prog 13 #[.pointer (some ⟨L.h, 0, none⟩)] w fun r w' => ∃ (v : Nat) (b : Bool), r = .returned (.tuple #[.int .i64 (v : Int), .bool b]) ∧ Only L.all w w' ∧
      ((b = true ∧ IsNext n A In v ∧ IsHeap w' L n (upd In v false) A) ∨ (b = false ∧ v = 0 ∧ cnt n In = 0 ∧ IsHeap w' L n In A)) := by
  have hh := h
  obtain ⟨k, T, P, hr, hI, hO, hP, hk, hA0, hA, hn⟩ := h
  cases k with
  | zero =>
    refine (Next_none hr).mono ?_
    rintro e w' ⟨rfl, rfl⟩
    exact ⟨0, false, rfl, Only.refl _ _, Or.inr ⟨rfl, rfl, hk.symm, hh⟩⟩
  | succ e =>
    refine (Next_some hr hI hO hn).mono ?_
    rintro r w' ⟨rfl, T', P', r1, r2, r3, r4, r5⟩
    have t0 := hI.tree 0 (by omega)
    have hin : In (T 0) = true := (hP _ t0.1 t0.2.1).2 (by rw [t0.2.2]; decide)
    have hc := cnt_take t0.1 t0.2.1 hin
    refine ⟨T 0, true, rfl, r5, Or.inl ⟨rfl, ⟨t0.1, t0.2.1, hin, fun u u1 u2 u3 u4 => ?_⟩, ⟨e, T', P', r1, r2, r3, fun x x1 x2 => ?_, by omega, hA0, hA, hn⟩⟩⟩
    · rcases hI.place u u1 u2 (by omega) with q | ⟨i, i1, i2, i3⟩
      · exact absurd q ((hP u u1 u2).1 u3)
      · have := first_best hO i i1
        rw [i3] at this
        exact bef_total this u4
    · rw [r4]
      by_cases q : x = T 0
      · subst q; rw [upd_same, upd_same]; simp
      · rw [upd_ne _ _ _ q, upd_ne _ _ _ q]; exact hP x x1 x2
end Go.Proofs.Ytanmpokfeidlcaa.Hp
