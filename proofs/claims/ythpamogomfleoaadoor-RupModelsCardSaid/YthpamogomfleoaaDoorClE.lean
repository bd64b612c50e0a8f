/- The order by which Norm sorts: its closure's contract, cmp.Or at two numbers, and that it is a strict order. -/
import Derived.Test.YthpamogomfleoaaDoorClD
namespace Go.Proofs.YthpamogomfleoaaDoor.Cl
open Go Go.RowKit Go.Lib Go.Sort

def vw (n : Int) : Int := max n (wrap64 (-n))
def orI (x y : Int) : Int := if x = 0 then y else x
def cf (x y : Int) : Int := orI (Lib.compareInt (vw x) (vw y)) (Lib.compareInt y x)

set_option maxHeartbeats 400000 in
theorem variable_w (n : Int) (w : World) :
    Calls Tryd.prog 50 #[.int .i64 n] w fun e w' => e = .returned (.int .i64 (vw n)) ∧ w = w' := by
  unfold vw
  go_enter Tryd.func50, Tryd.ntmps50
  go_wp2
  all_goals go_ret
  all_goals exact ⟨rfl, rfl⟩

set_option maxHeartbeats 1000000 in
theorem Or_two (b : Nat) (x y : Int) (w : World) (c0 : w.cell? ⟨b, 0, none⟩ = some (.int .i64 x)) (c1 : w.cell? ⟨b, 1, none⟩ = some (.int .i64 y)) :
    Calls Tryd.prog 61 #[.slice (some ⟨b, 0, none⟩) 2 2] w fun e w' => e = .returned (.int .i64 (orI x y)) ∧ w = w' := by
  go_enter Tryd.func61, Tryd.ntmps61
  go_wp2
  go_loop [8] (fun i => ∃ k : Nat, k ≤ 2 ∧ i = .int .i64 k ∧ Hid ((1 ≤ k → x = 0) ∧ (2 ≤ k → y = 0))) (fun i => 2 - (intOf i).toNat)
  case atStart => exact ⟨0, by omega, rfl, by omega, by omega⟩
  case round =>
    obtain ⟨k, hk, rfl, HA⟩ := hrel
    rcases (show k = 0 ∨ k = 1 ∨ k = 2 by omega) with rfl | rfl | rfl
    · by_cases hx : x = 0
      · have hb : (x != 0) = false := by simpa using hx
        have HX : Hid (x = 0) := hx
        clear hx
        go_wp2
        go_round
        case rel => exact ⟨1, by omega, by go_num, fun _ => HX.out, by omega⟩
        case measure => simp [intOf]
      · have hb : (x != 0) = true := by simpa using hx
        have HX : Hid (orI x y = x) := by show _ = _; simp [orI, hx]
        clear hx
        go_wp2
        go_ret
        exact ⟨ret_int HX.out.symm, rfl⟩
    · have hx := HA.out.1 (by omega)
      by_cases hy : y = 0
      · have hb : (y != 0) = false := by simpa using hy
        have HX : Hid (x = 0 ∧ y = 0) := ⟨hx, hy⟩
        clear hx hy
        go_wp2
        go_round
        case rel => exact ⟨2, by omega, by go_num, fun _ => HX.out.1, fun _ => HX.out.2⟩
        case measure => simp [intOf]
      · have hb : (y != 0) = true := by simpa using hy
        have HX : Hid (orI x y = y) := by show _ = _; simp [orI, hx]
        clear hx hy
        go_wp2
        go_ret
        exact ⟨ret_int HX.out.symm, rfl⟩
    · have HX : Hid (orI x y = 0) := by show _ = _; rw [HA.out.1 (by omega), HA.out.2 (by omega)]; rfl
      clear HA
      go_wp2
      go_ret
      exact ⟨ret_int HX.out.symm, rfl⟩

set_option maxHeartbeats 1000000 in
theorem norm_cmp (x y : Int) (W : World) :
    Calls Tryd.prog 60 #[.int .i64 x, .int .i64 y] W fun e w' => e = .returned (.int .i64 (cf x y)) ∧ ∃ q os', w' = grow (W.drewN q) os' := by
  have hx := variable_w x W
  have hy := variable_w y W
  have h1 := Tryd.cmp_Compare_int (vw x) (vw y) W
  have h2 := Tryd.cmp_Compare_int y x W
  unfold cf
  generalize Lib.compareInt (vw x) (vw y) = p at *
  generalize Lib.compareInt y x = q at *
  generalize vw x = vx at *
  generalize vw y = vy at *
  go_enter Tryd.func60, Tryd.ntmps60
  go_wp2_with fail
  refine hx.mono ?_
  rintro e w' ⟨rfl, rfl⟩
  go_wp2_with fail
  refine hy.mono ?_
  rintro e w' ⟨rfl, rfl⟩
  go_wp2_with fail
  refine h1.mono ?_
  rintro e w' ⟨rfl, rfl⟩
  go_wp2_with fail
  refine h2.mono ?_
  rintro e w' ⟨rfl, rfl⟩
  go_wp2_with fail
  refine (Or_two _ p q _ (by simp) (by simp)).mono ?_
  rintro e w' ⟨rfl, rfl⟩
  go_wp2_with fail
  go_ret
  exact ⟨rfl, 0, _, alloc_eq_grow _ _⟩

theorem ltOf_cf (x y : Int) : ltOf cf x y = decide (vw x < vw y ∨ (vw x = vw y ∧ y < x)) := by
  unfold ltOf cf orI Lib.compareInt
  generalize vw x = a
  generalize vw y = b
  by_cases h1 : a < b
  · simp [h1]
  · by_cases h2 : b < a
    · have h3 : ¬ a = b := by omega
      simp [h1, h2, h3]
    · have h3 : a = b := by omega
      by_cases h4 : y < x
      · simp [h3, h4]
      · by_cases h5 : x < y <;> simp [h3, h4, h5]
theorem swo_cf : SWO (ltOf cf) where
  irrefl x := by rw [ltOf_cf]; simp
  trans x y z h1 h2 := by rw [ltOf_cf] at *; simp at *; omega
  ntrans x y z h1 h2 := by rw [ltOf_cf] at *; simp at *; omega
theorem total_cf (x y : Int) (h1 : ltOf cf x y = false) (h2 : ltOf cf y x = false) : x = y := by
  rw [ltOf_cf] at *; simp at *; omega

theorem enters_norm : ∀ args w, (callFunc 60 args).run Tryd.prog w = .ok (.enter 60 args) w := enters_of Tryd.func60 (by kernel_rfl) rfl
end Go.Proofs.YthpamogomfleoaaDoor.Cl
