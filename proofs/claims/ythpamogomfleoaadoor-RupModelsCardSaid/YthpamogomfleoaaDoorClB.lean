/- Contracts of clause.Right and clause.Holds: their closures, and slices.ContainsFunc by the shelf's contract. -/
import Derived.Test.YthpamogomfleoaaDoorClA
import Derived.Test.YthpamogomfleoaaDoorShelf
namespace Go.Proofs.YthpamogomfleoaaDoor.Cl
open Go Go.RowKit Go.Lib

theorem enters_right : ∀ args w, (callFunc 35 args).run Tryd.prog w = .ok (.enter 35 args) w := enters_of Tryd.func35 (by kernel_rfl) rfl
theorem enters_holds : ∀ args w, (callFunc 48 args).run Tryd.prog w = .ok (.enter 48 args) w := enters_of Tryd.func48 (by kernel_rfl) rfl

set_option maxHeartbeats 400000 in
theorem right_pred (w : World) : PredAt Tryd.prog 35 #[] (Value.int .i64) (fun n => !isLit n) w := fun W n _ => by
  unfold FnGives
  go_enter Tryd.func35, Tryd.ntmps35
  go_wp2_with (go_at_call 36; refine (isLiteral_any _ _).mono ?_; rintro e w' ⟨rfl, rfl⟩)
  go_ret
  exact ⟨rfl, 0, rfl⟩

theorem rightB_not_any (zs : List Int) : (!(zs.any fun n => !isLit n)) = rightB zs := by
  unfold rightB; rw [← List.all_eq_not_any_not]

set_option maxHeartbeats 400000 in
theorem Right_any (a : Option Addr) (c : Nat) (zs : List Int) (w : World) (hr : RowIn (Value.int .i64) w a zs) (hl : zs.length ≤ 9223372036854775807) :
    Calls Tryd.prog 19 #[.slice a zs.length c] w fun e w' => e = .returned (.bool (rightB zs)) ∧ ∃ n, w' = w.drewN n := by
  rw [← rightB_not_any]
  rcases hr with rfl | ⟨b, off, rfl, _, hc⟩
  · go_enter Tryd.func19, Tryd.ntmps19
    go_wp2_with (go_at_call 31; refine (Tryd.slices_ContainsFunc_empty_f31 (α := Int) _ _ _ _).mono ?_; rintro e w' ⟨rfl, rfl⟩)
    go_ret
    exact ⟨rfl, 0, rfl⟩
  · have hcon := Tryd.slices_ContainsFunc_f31 (Value.int .i64) (fun n => !isLit n) 35 #[] enters_right b off zs.length c zs w (right_pred w) (Nat.le_refl _) hl hc
    rw [List.take_length] at hcon
    clear hc
    generalize (zs.any fun n => !isLit n) = r at *
    go_enter Tryd.func19, Tryd.ntmps19
    go_wp2_with (go_at_call 31; refine hcon.mono ?_; rintro e w' ⟨rfl, q, rfl⟩)
    go_ret
    exact ⟨rfl, q, rfl⟩

set_option maxHeartbeats 1000000 in
/-- What the closure of Holds answers in a world that holds the captured model in its box. -/
theorem holds_gives (B : Nat) (a : Option Addr) (c : Nat) (m : List Bool) (W : World) (hc : W.cell? ⟨B, 0, none⟩ = some (.slice a m.length c)) (hb : RowIn Value.bool W a m) (n : Int) :
    FnGives Tryd.prog 48 #[.pointer (some ⟨B, 0, none⟩)] #[.int .i64 n] (.bool (litB m n)) W := by
  unfold FnGives
  have hlit : ∀ k, Calls Tryd.prog 36 #[.int .i64 n] (W.drewN k) fun e w' => e = .returned (.bool (isLit n)) ∧ w' = W.drewN k := fun k => (isLiteral_any n _).mono fun _ _ ⟨h1, h2⟩ => ⟨h1, h2.symm⟩
  cases h : isLit n with
  | false =>
    have e : litB m n = false := by unfold litB; rw [h]; rfl
    rw [e]
    rw [h] at hlit
    clear e h hb
    go_enter Tryd.func48, Tryd.ntmps48
    go_wp2
    go_quiet ((go_at_call 36; exact Calls.quiet_of_same (hlit _)))
    go_wp2
    go_ret
    exact ⟨rfl, _, rfl⟩
  | true =>
    rw [h] at hlit
    have h' := (isLit_iff n).1 h
    have hvar : ∀ k, Calls Tryd.prog 50 #[.int .i64 n] (W.drewN k) fun e w' => e = .returned (.int .i64 (vr n)) ∧ w' = W.drewN k := fun k => (variable_any n _ (by omega) (by omega)).mono fun _ _ ⟨h1, h2⟩ => ⟨h1, h2.symm⟩
    have hv1 : 1 ≤ vr n := by unfold vr; omega
    have hv2 : vr n ≤ 100000 := by unfold vr; omega
    have hval : ∀ k, Calls Tryd.prog 49 #[.int .i64 (vr n), .slice a m.length c] (W.drewN k) fun e w' => e = .returned (.bool (valB (vr n) m)) ∧ ∃ q, w' = (W.drewN k).drewN q := fun k => value_any (vr n) a c m _ (hb.below (below_drewN' (Below.refl _ W) k)) hv1 hv2
    have e : litB m n = (valB (vr n) m == decide (0 < n)) := by unfold litB; rw [h]; rfl
    rw [e]
    generalize valB (vr n) m = r at *
    generalize vr n = v at *
    clear e h hb hv1 hv2
    have hpos : decide (n > 0) = decide (0 < n) := rfl
    go_enter Tryd.func48, Tryd.ntmps48
    go_wp2
    go_quiet ((first | (go_at_call 36; exact Calls.quiet_of_same (hlit _)) | (go_at_call 50; exact Calls.quiet_of_same (hvar _)) | (go_at_call 49; exact Calls.quiet_of (hval _))))
    go_wp2
    go_ret
    exact ⟨rfl, _, rfl⟩
end Go.Proofs.YthpamogomfleoaaDoor.Cl
