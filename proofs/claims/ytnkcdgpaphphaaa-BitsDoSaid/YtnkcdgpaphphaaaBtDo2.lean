/- The law's own do: one of five. -/
import Derived.Test.YtnkcdgpaphphaaaBtZ
import Derived.Test.YtnkcdgpaphphaaaBtR
namespace Go.Proofs.Ytnkcdgpaphphaaa.Gr
open Go Go.RowKit Go.Lib Go.Maps

section
variable {P : Prop} {w : World} {G : Loc} {L : List Nd} {a b : Option Addr} {xs ys : List Nat} {n : Nat} {F H : (Nat → Bool) → List Bool}
set_option maxHeartbeats 1000000 in
theorem do_0 (hr : Rep w G L) (hw : Wf L) (x : VX P w G L a xs n F) (y : VX P w G L b ys n H) (h1 : 1 ≤ n) (h2 : n ≤ 16) (hl : L.length < 80000) (c c2 : Nat) :
    Calls Try.prog 35 #[.pointer (some ⟨G.h, 0, none⟩), .int .i64 0, .slice a n c, .slice b n c2] w (VXE w G P L 4200 n (fun m => doF 0 (F m) (H m))) := by
  have HC := Lib.hid (add_vx hr hw x y h1 h2 hl c c2)
  clear hr hw x y hl h1 h2
  go_enter Try.func35, Try.ntmps35
  go_wp2_with fail
  refine HC.out.mono ?_
  intro e w' hv
  have HV := Lib.hid hv
  obtain ⟨b', c', G', L', es, rfl, _⟩ := hv
  go_wp2_with fail
  go_ret
  exact HV.out
set_option maxHeartbeats 1000000 in
theorem do_1 (hr : Rep w G L) (hw : Wf L) (x : VX P w G L a xs n F) (y : VX P w G L b ys n H) (h1 : 1 ≤ n) (h2 : n ≤ 16) (hl : L.length < 80000) (c c2 : Nat) :
    Calls Try.prog 35 #[.pointer (some ⟨G.h, 0, none⟩), .int .i64 1, .slice a n c, .slice b n c2] w (VXE w G P L 4200 n (fun m => doF 1 (F m) (H m))) := by
  have HC := Lib.hid (sub_vx hr hw x y h1 h2 hl c c2)
  clear hr hw x y hl h1 h2
  go_enter Try.func35, Try.ntmps35
  go_wp2_with fail
  refine HC.out.mono ?_
  intro e w' hv
  have HV := Lib.hid hv
  obtain ⟨b', c', G', L', es, rfl, _⟩ := hv
  go_wp2_with fail
  go_ret
  exact HV.out
set_option maxHeartbeats 1000000 in
theorem do_2 (hr : Rep w G L) (hw : Wf L) (x : VX P w G L a xs n F) (y : VX P w G L b ys n H) (h1 : 1 ≤ n) (h2 : n ≤ 16) (hl : L.length < 80000) (c c2 : Nat) :
    Calls Try.prog 35 #[.pointer (some ⟨G.h, 0, none⟩), .int .i64 2, .slice a n c, .slice b n c2] w (VXE w G P L 4200 n (fun m => doF 2 (F m) (H m))) := by
  have HC := Lib.hid (mul_vx hr hw x y h1 h2 hl c c2)
  clear hr hw x y hl h1 h2
  go_enter Try.func35, Try.ntmps35
  go_wp2_with fail
  refine HC.out.mono ?_
  intro e w' hv
  have HV := Lib.hid hv
  obtain ⟨b', c', G', L', es, rfl, _⟩ := hv
  go_wp2_with fail
  go_ret
  exact HV.out
set_option maxHeartbeats 1000000 in
theorem do_3 (hr : Rep w G L) (hw : Wf L) (x : VX P w G L a xs n F) (y : VX P w G L b ys n H) (h1 : 1 ≤ n) (h2 : n ≤ 16) (hl : L.length < 80000) (c c2 : Nat) :
    Calls Try.prog 35 #[.pointer (some ⟨G.h, 0, none⟩), .int .i64 3, .slice a n c, .slice b n c2] w (VXE w G P L 4200 n (fun m => doF 3 (F m) (H m))) := by
  have HC := Lib.hid (div_vx hr hw x y h1 h2 hl c c2)
  clear hr hw x y hl h1 h2
  go_enter Try.func35, Try.ntmps35
  go_wp2_with fail
  refine HC.out.mono ?_
  intro e w' hv
  have HV := Lib.hid hv
  obtain ⟨b', c', G', L', es, rfl, _⟩ := hv
  go_wp2_with fail
  go_ret
  exact HV.out
set_option maxHeartbeats 1000000 in
theorem do_4 (hr : Rep w G L) (hw : Wf L) (x : VX P w G L a xs n F) (y : VX P w G L b ys n H) (h1 : 1 ≤ n) (h2 : n ≤ 16) (hl : L.length < 80000) (c c2 : Nat) :
    Calls Try.prog 35 #[.pointer (some ⟨G.h, 0, none⟩), .int .i64 4, .slice a n c, .slice b n c2] w (VXE w G P L 4200 n (fun m => doF 4 (F m) (H m))) := by
  have HC := Lib.hid (rem_vx hr hw x y h1 h2 hl c c2)
  clear hr hw x y hl h1 h2
  go_enter Try.func35, Try.ntmps35
  go_wp2_with fail
  refine HC.out.mono ?_
  intro e w' hv
  have HV := Lib.hid hv
  obtain ⟨b', c', G', L', es, rfl, _⟩ := hv
  go_wp2_with fail
  go_ret
  exact HV.out
theorem do_vx (op : Nat) (hop : op < 5) (hr : Rep w G L) (hw : Wf L) (x : VX P w G L a xs n F) (y : VX P w G L b ys n H) (h1 : 1 ≤ n) (h2 : n ≤ 16) (hl : L.length < 80000) (c c2 : Nat) :
    Calls Try.prog 35 #[.pointer (some ⟨G.h, 0, none⟩), .int .i64 (op : Int), .slice a n c, .slice b n c2] w (VXE w G P L 4200 n (fun m => doF op (F m) (H m))) := by
  match op, hop with
  | 0, _ => exact do_0 hr hw x y h1 h2 hl c c2
  | 1, _ => exact do_1 hr hw x y h1 h2 hl c c2
  | 2, _ => exact do_2 hr hw x y h1 h2 hl c c2
  | 3, _ => exact do_3 hr hw x y h1 h2 hl c c2
  | 4, _ => exact do_4 hr hw x y h1 h2 hl c c2
end
end Go.Proofs.Ytnkcdgpaphphaaa.Gr
