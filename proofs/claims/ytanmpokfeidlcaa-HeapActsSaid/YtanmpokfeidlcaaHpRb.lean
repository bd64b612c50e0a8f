/- The document's own heap: Len, Next, Halve. -/
import Derived.Test.YtanmpokfeidlcaaHpRa
namespace Go.Proofs.Ytanmpokfeidlcaa.Hp
open Go Go.RowKit Go.Lib

set_option maxHeartbeats 2000000 in
theorem Len_ref {w : World} {B : Nat} {R : RLoc} {n : Nat} {In : Nat → Bool} {A : Nat → Int} (h : IsRef w B R n In A) (hn : n ≤ 100000) :
    Calls Try.prog 20 #[.pointer (some ⟨R.r, 0, none⟩)] w fun e w' => e = .returned (.int .i64 (cnt n In : Int)) ∧ w = w' := by
  have h0 := h.c0
  have HR := Lib.hid h
  clear h
  go_enter Try.func20, Try.ntmps20
  go_wp2_with fail
  go_loopw [3, 4] (fun cv iv wr => ∃ i : Nat, iv = .int .i64 (i : Int) ∧ cv = .int .i64 (cnt i In : Int) ∧ i ≤ n ∧ wr = w) (fun _ iv _ => n - (intOf iv).toNat)
  case atStart => exact ⟨0, rfl, rfl, Nat.zero_le _, rfl⟩
  case round =>
    obtain ⟨i, rfl, rfl, hi, hw⟩ := hrel
    subst hw
    by_cases hlt : i < n
    · have hltz : (i : Int) < (n : Int) := by omega
      have i0 : (0 : Int) ≤ (i : Int) := by omega
      obtain ⟨ha, hp⟩ := HR.out.ins.resolve_left (by omega)
      rw [ha] at h0
      have hc := hp.cell hlt
      unfold inF at hc
      have hle := cnt_le i In
      have HC : Hid (cnt (i + 1) In = cnt i In + if In (i + 1) = true then 1 else 0) := rfl
      generalize cnt i In = k at *
      cases q : In (i + 1) with
      | true =>
        rw [q] at hc HC
        have HC2 : Hid (cnt (i + 1) In = k + 1) := HC.out
        clear HC q ha hp
        go_wp2_with fail
        go_roundw
        case rel => exact ⟨i + 1, by go_num, by rw [HC2.out]; go_num, by omega, trivial⟩
        case measure => simp [intOf]; omega
      | false =>
        rw [q] at hc HC
        have HC2 : Hid (cnt (i + 1) In = k) := HC.out
        clear HC q ha hp
        go_wp2_with fail
        go_roundw
        case rel => exact ⟨i + 1, by go_num, by rw [HC2.out], by omega, trivial⟩
        case measure => simp [intOf]; omega
    · obtain rfl : i = n := by omega
      have hltz : ¬ (i : Int) < (i : Int) := by omega
      go_wp2_with fail
      go_ret
      exact ⟨rfl, rfl⟩

/-- The best of the first i. -/
def Best (A : Nat → Int) (In : Nat → Bool) (i : Nat) (b : Int) : Prop :=
  (b = -1 ∧ ∀ u, 1 ≤ u → u ≤ i → In u = false) ∨ ∃ v : Nat, b = (v : Int) ∧ v < i ∧ In (v + 1) = true ∧ ∀ u, 1 ≤ u → u ≤ i → In u = true → u ≠ v + 1 → bef A (v + 1) u = true

theorem Best.out {A : Nat → Int} {In : Nat → Bool} {i : Nat} {b : Int} (h : Best A In i b) (hi : In (i + 1) = false) : Best A In (i + 1) b := by
  rcases h with ⟨h1, h2⟩ | ⟨v, h1, h2, h3, h4⟩
  · refine Or.inl ⟨h1, fun u u1 u2 => ?_⟩
    by_cases e : u = i + 1
    · rw [e]; exact hi
    · exact h2 u u1 (by omega)
  · refine Or.inr ⟨v, h1, by omega, h3, fun u u1 u2 u3 u4 => ?_⟩
    by_cases e : u = i + 1
    · rw [e, hi] at u3; cases u3
    · exact h4 u u1 (by omega) u3 u4
theorem Best.first {A : Nat → Int} {In : Nat → Bool} {i : Nat} (h : Best A In i (-1)) (hi : In (i + 1) = true) : Best A In (i + 1) (i : Int) := by
  rcases h with ⟨_, h2⟩ | ⟨v, h1, _⟩
  · refine Or.inr ⟨i, rfl, by omega, hi, fun u u1 u2 u3 u4 => ?_⟩
    have := h2 u u1 (by omega)
    rw [u3] at this; cases this
  · omega
theorem Best.better {A : Nat → Int} {In : Nat → Bool} {i v : Nat} (h : Best A In i (v : Int)) (hi : In (i + 1) = true) (hA : A (v + 1) < A (i + 1)) : Best A In (i + 1) (i : Int) := by
  rcases h with ⟨h1, _⟩ | ⟨x, h1, h2, h3, h4⟩
  · omega
  · obtain rfl : v = x := by omega
    refine Or.inr ⟨i, rfl, by omega, hi, fun u u1 u2 u3 u4 => ?_⟩
    have hb : bef A (i + 1) (v + 1) = true := by rw [bef_iff]; exact Or.inl hA
    by_cases e : u = v + 1
    · rw [e]; exact hb
    · exact bef_trans hb (h4 u u1 (by omega) u3 e)
theorem Best.worse {A : Nat → Int} {In : Nat → Bool} {i v : Nat} (h : Best A In i (v : Int)) (hA : A (i + 1) ≤ A (v + 1)) : Best A In (i + 1) (v : Int) := by
  rcases h with ⟨h1, _⟩ | ⟨x, h1, h2, h3, h4⟩
  · omega
  · obtain rfl : v = x := by omega
    refine Or.inr ⟨v, rfl, by omega, h3, fun u u1 u2 u3 u4 => ?_⟩
    by_cases e : u = i + 1
    · rw [e, bef_iff]; omega
    · exact h4 u u1 (by omega) u3 u4
theorem Best.cases {A : Nat → Int} {In : Nat → Bool} {i : Nat} {b : Int} (h : Best A In i b) : b = -1 ∨ ∃ v : Nat, b = (v : Int) ∧ v < i := by
  rcases h with ⟨h1, _⟩ | ⟨x, h1, h2, _⟩
  · exact Or.inl h1
  · exact Or.inr ⟨x, h1, h2⟩
theorem Best.none {n : Nat} {A : Nat → Int} {In : Nat → Bool} (h : Best A In n (-1)) : cnt n In = 0 := by
  rcases h with ⟨_, h2⟩ | ⟨x, h1, _⟩
  · exact cnt_none h2
  · omega
theorem Best.next {n v : Nat} {A : Nat → Int} {In : Nat → Bool} (h : Best A In n (v : Int)) : IsNext n A In (v + 1) := by
  rcases h with ⟨h1, _⟩ | ⟨x, h1, h2, h3, h4⟩
  · omega
  · obtain rfl : v = x := by omega
    exact ⟨by omega, by omega, h3, h4⟩

set_option maxHeartbeats 4000000 in
theorem Next_ref {w : World} {B : Nat} {R : RLoc} {n : Nat} {In : Nat → Bool} {A : Nat → Int} (h : IsRef w B R n In A) (hn : n ≤ 100000) :
    Calls Try.prog 14 #[.pointer (some ⟨R.r, 0, none⟩)] w fun r w' => ∃ (v : Nat) (b : Bool), r = .returned (.tuple #[.int .i64 (v : Int), .bool b]) ∧ Only (R.live n) w w' ∧
      ((b = true ∧ IsNext n A In v ∧ IsRef w' B R n (upd In v false) A) ∨ (b = false ∧ v = 0 ∧ cnt n In = 0 ∧ IsRef w' B R n In A)) := by
  have h0 := h.c0
  have h1 := h.c1
  have HR := Lib.hid h
  clear h
  go_enter Try.func14, Try.ntmps14
  go_wp2_with fail
  go_loopw [4, 5] (fun bv iv wr => ∃ (i : Nat) (b : Int) (q : Nat), iv = .int .i64 (i : Int) ∧ bv = .int .i64 b ∧ i ≤ n ∧ Hid (Best A In i b) ∧ wr = w.drewN q) (fun _ iv _ => n - (intOf iv).toNat)
  case atStart => exact ⟨0, -1, 0, rfl, rfl, Nat.zero_le _, Or.inl ⟨rfl, fun u u1 u2 => by omega⟩, rfl⟩
  case round =>
    obtain ⟨i, b, q, rfl, rfl, hi, HB, rfl⟩ := hrel
    by_cases hlt : i < n
    · have hltz : (i : Int) < (n : Int) := by omega
      have i0 : (0 : Int) ≤ (i : Int) := by omega
      obtain ⟨ha, hp⟩ := HR.out.ins.resolve_left (by omega)
      obtain ⟨hb, hq⟩ := HR.out.acs.resolve_left (by omega)
      rw [ha] at h0
      rw [hb] at h1
      have hc := hp.cell hlt
      have hci := hq.cell hlt
      unfold inF at hc
      unfold acF at hci
      cases z : In (i + 1) with
      | false =>
        rw [z] at hc
        have HB2 : Hid (Best A In (i + 1) b) := HB.out.out z
        clear z ha hb hp hq hci HB
        go_wp2_with fail
        go_quiet (fail)
        go_wp2_with fail
        go_roundw
        case rel => exact ⟨i + 1, b, _, by go_num, rfl, by omega, HB2, rfl⟩
        case measure => simp [intOf]; omega
      | true =>
        rw [z] at hc
        rcases HB.out.cases with hb0 | ⟨v, hb0, hv⟩
        · subst hb0
          have HB2 : Hid (Best A In (i + 1) (i : Int)) := HB.out.first z
          clear z ha hb hp hq hci HB
          go_wp2_with fail
          go_quiet (fail)
          go_wp2_with fail
          go_roundw
          case rel => exact ⟨i + 1, (i : Int), _, by go_num, rfl, by omega, HB2, rfl⟩
          case measure => simp [intOf]; omega
        · subst hb0
          have hcv := hq.cell (i := v) (by omega)
          unfold acF at hcv
          have vz : ¬ (v : Int) < 0 := by omega
          have vd : decide ((v : Int) < 0) = false := by simp
          have v0 : (0 : Int) ≤ (v : Int) := by omega
          have vn : (v : Int) < (n : Int) := by omega
          by_cases hA : A (v + 1) < A (i + 1)
          · have HB2 : Hid (Best A In (i + 1) (i : Int)) := HB.out.better z hA
            generalize A (v + 1) = x at *
            generalize A (i + 1) = y at *
            clear z ha hb hp hq HB
            go_wp2_with fail
            go_quiet (fail)
            go_wp2_with fail
            go_roundw
            case rel => exact ⟨i + 1, (i : Int), _, by go_num, rfl, by omega, HB2, rfl⟩
            case measure => simp [intOf]; omega
          · have HB2 : Hid (Best A In (i + 1) (v : Int)) := HB.out.worse (by omega)
            have hA2 : decide (A (v + 1) < A (i + 1)) = false := by simpa using hA
            generalize A (v + 1) = x at *
            generalize A (i + 1) = y at *
            clear z ha hb hp hq HB
            go_wp2_with fail
            go_quiet (fail)
            go_wp2_with fail
            go_roundw
            case rel => exact ⟨i + 1, (v : Int), _, by go_num, rfl, by omega, HB2, rfl⟩
            case measure => simp [intOf]; omega
    · obtain rfl : i = n := by omega
      have hltz : ¬ (i : Int) < (i : Int) := by omega
      rcases HB.out.cases with hb0 | ⟨v, hb0, hv⟩
      · subst hb0
        go_wp2_with fail
        go_ret2
        exact ⟨0, Or.inl ⟨rfl, (Only.refl _ _).drewN _, rfl, HB.out.none, HR.out.drewN _⟩⟩
      · subst hb0
        have HNX := Lib.hid HB.out.next
        obtain ⟨ha, hp⟩ := HR.out.ins.resolve_left (by omega)
        rw [ha] at h0
        have hc := hp.cell hv
        have hf := hp.free v
        unfold inF at hc
        have vz : ¬ (v : Int) < 0 := by omega
        have vd : decide ((v : Int) < 0) = false := by simp
        have v0 : (0 : Int) ≤ (v : Int) := by omega
        have vn : (v : Int) < (i : Int) := by omega
        have HR1 : Hid (IsRef ((w.drewN q).setCell ⟨R.i, v, none⟩ (.bool false)) B R i (upd In (v + 1) false) A) := (HR.out.drewN q).setIn v false
        have HO1 : Hid (Only (R.live i) w ((w.drewN q).setCell ⟨R.i, v, none⟩ (.bool false))) := ((Only.refl _ _).drewN _).set (RLoc.live_i (by omega)) _
        clear ha hp HB
        go_wp2_with fail
        go_ret2
        exact ⟨v + 1, Or.inr ⟨by simp, HO1.out, HNX.out, HR1.out⟩⟩

set_option maxHeartbeats 4000000 in
theorem Halve_ref {w : World} {B : Nat} {R : RLoc} {n : Nat} {In : Nat → Bool} {A : Nat → Int} (h : IsRef w B R n In A) (hn : n ≤ 100000) (hA : ∀ u, u ≤ n → 0 ≤ A u ∧ A u ≤ 1152921504606846976) :
    Calls Try.prog 18 #[.pointer (some ⟨R.r, 0, none⟩)] w fun e w' => e = .returned (.tuple #[]) ∧ IsRef w' B R n In (half A) ∧ Only (R.live n) w w' := by
  have HS0 : Hid (IsRef w B R n In (halfTo 1 A)) := h.congr (fun _ _ _ => rfl) (fun v v1 _ => by unfold halfTo; rw [if_neg (by omega)])
  have HA := Lib.hid hA
  clear h hA
  go_enter Try.func18, Try.ntmps18
  go_wp2_with fail
  go_loopw [2] (fun iv wr => ∃ i : Nat, iv = .int .i64 (i : Int) ∧ i ≤ n ∧ Hid (IsRef wr B R n In (halfTo (i + 1) A)) ∧ Hid (Only (R.live n) w wr)) (fun iv _ => n - (intOf iv).toNat)
  case atStart => exact ⟨0, rfl, Nat.zero_le _, HS0, Only.refl _ _⟩
  case round =>
    obtain ⟨i, rfl, hi, HR, HO⟩ := hrel
    have h1 := HR.out.c1
    by_cases hlt : i < n
    · have hltz : (i : Int) < (n : Int) := by omega
      have i0 : (0 : Int) ≤ (i : Int) := by omega
      obtain ⟨ha, hp⟩ := HR.out.acs.resolve_left (by omega)
      rw [ha] at h1
      have hc := hp.cell hlt
      have hf := hp.free i
      unfold acF at hc
      rw [halfTo_at] at hc
      have hav := HA.out (i + 1) (by omega)
      have HR1 : Hid (IsRef (wr.setCell ⟨R.a, i, none⟩ (.int .i64 (A (i + 1) / 2))) B R n In (halfTo (i + 2) A)) := by
        rw [← halfTo_step]; exact HR.out.setAc i _
      have HO1 : Hid (Only (R.live n) w (wr.setCell ⟨R.a, i, none⟩ (.int .i64 (A (i + 1) / 2)))) := HO.out.set (RLoc.live_a (by omega)) _
      generalize A (i + 1) = x at *
      have hdiv : x.tdiv 2 = x / 2 := Int.tdiv_eq_ediv_of_nonneg hav.1
      have hwr : IntKind.i64.wrap (x / 2) = x / 2 := by rw [IntKind.wrap_i64]; omega
      clear ha hp
      go_wp2_with fail
      go_region
      go_wp2_with fail
      go_roundw
      case rel => exact ⟨i + 1, by go_num, by omega, HR1.out.drewN 1, HO1.out.drewN 1⟩
      case measure => simp [intOf]; omega
    · obtain rfl : i = n := by omega
      have hltz : ¬ (i : Int) < (i : Int) := by omega
      go_wp2_with fail
      go_end0
      exact ⟨rfl, HR.out.congr (fun _ _ _ => rfl) (fun v v1 v2 => by unfold halfTo half; rw [if_pos (by omega)]), HO.out⟩
end Go.Proofs.Ytanmpokfeidlcaa.Hp
