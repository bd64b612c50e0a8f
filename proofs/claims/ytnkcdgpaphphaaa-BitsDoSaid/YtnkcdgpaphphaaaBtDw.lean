/- Calls of two vectors of different widths, by what they are worth. -/
import Derived.Test.YtnkcdgpaphphaaaBtDo2
namespace Go.Proofs.Ytnkcdgpaphphaaa.Gr
open Go Go.RowKit Go.Lib Go.Maps

theorem wd_two {xs ys : List Nat} {n1 n2 : Nat} (hx : xs.length = n1) (hy : ys.length = n2) (h1 : 1 ≤ n1) (h2 : n1 ≤ 16) (h3 : 1 ≤ n2) (h4 : n2 ≤ 16) : wid xs ys = max n1 n2 ∧ wdE xs ys xs = wideL 0 xs (max n1 n2) ∧ wdE xs ys ys = wideL 0 ys (max n1 n2) := by
  have vx : vecE xs = xs := vecE_of (by omega) (by omega)
  have vy : vecE ys = ys := vecE_of (by omega) (by omega)
  have w : wid xs ys = max n1 n2 := by unfold wid; rw [vx, vy, hx, hy]
  refine ⟨w, ?_, ?_⟩
  · unfold wdE; rw [vx, w]
  · unfold wdE; rw [vy, w]
theorem VX.two2 {P : Prop} {w : World} {G : Loc} {L : List Nd} {a b : Option Addr} {xs ys : List Nat} {n1 n2 : Nat} {F H : (Nat → Bool) → List Bool} (hr : Rep w G L) (hw : Wf L) (x : VX P w G L a xs n1 F) (y : VX P w G L b ys n2 H) (h2 : n1 ≤ 16) (h4 : n2 ≤ 16) : Two w G P L a xs b ys :=
  ⟨hr, hw, x.vec, y.vec, by rw [x.len]; omega, by rw [y.len]; omega, x.own, y.own, fun p => ⟨x.con p, y.con p⟩⟩
theorem VX.wide {P : Prop} {w : World} {G : Loc} {L : List Nd} {a : Option Addr} {xs : List Nat} {n1 : Nat} {F : (Nat → Bool) → List Bool} (x : VX P w G L a xs n1 F) (n : Nat) (m : Nat → Bool) : (wideL 0 xs n).map (Gr.val m L) = wideL false (F m) n := by
  rw [wideL_map, x.val, val_zero]

section
variable {P : Prop} {w : World} {G : Loc} {L : List Nd} {a b : Option Addr} {xs ys : List Nat} {n1 n2 : Nat} {F H : (Nat → Bool) → List Bool}
theorem Add_wx (hr : Rep w G L) (hw : Wf L) (x : VX P w G L a xs n1 F) (y : VX P w G L b ys n2 H) (h1 : 1 ≤ n1) (h2 : n1 ≤ 16) (h3 : 1 ≤ n2) (h4 : n2 ≤ 16) (hl : L.length < 80000) (c c2 : Nat) :
    Calls Try.prog 45 #[.pointer (some ⟨G.h, 0, none⟩), .slice a n1 c, .slice b n2 c2] w (VXE w G P L 4200 (max n1 n2) (fun m => doF 0 (wideL false (F m) (max n1 n2)) (wideL false (H m) (max n1 n2)))) := by
  have hd := wd_two x.len y.len h1 h2 h3 h4
  have A := Add_any a xs c b ys c2 (VX.two2 hr hw x y h2 h4) (by omega)
  rw [hd.1, hd.2.1, hd.2.2, x.len, y.len] at A
  exact A.mono fun e w' h => ((h.vxe (by omega) (by omega)).more (by omega)).congr fun m => by rw [x.wide, y.wide]; rfl
set_option maxHeartbeats 1000000 in
theorem dow_0 (hr : Rep w G L) (hw : Wf L) (x : VX P w G L a xs n1 F) (y : VX P w G L b ys n2 H) (h1 : 1 ≤ n1) (h2 : n1 ≤ 16) (h3 : 1 ≤ n2) (h4 : n2 ≤ 16) (hl : L.length < 80000) (c c2 : Nat) :
    Calls Try.prog 35 #[.pointer (some ⟨G.h, 0, none⟩), .int .i64 0, .slice a n1 c, .slice b n2 c2] w (VXE w G P L 4200 (max n1 n2) (fun m => doF 0 (wideL false (F m) (max n1 n2)) (wideL false (H m) (max n1 n2)))) := by
  have HC := Lib.hid (Add_wx hr hw x y h1 h2 h3 h4 hl c c2)
  clear hr hw x y hl h1 h2 h3 h4
  generalize max n1 n2 = n at *
  go_enter Try.func35, Try.ntmps35
  go_wp2_with fail
  refine HC.out.mono ?_
  intro e w' hv
  have HV := Lib.hid hv
  obtain ⟨b', c', G', L', es, rfl, _⟩ := hv
  go_wp2_with fail
  go_ret
  exact HV.out
theorem Sub_wx (hr : Rep w G L) (hw : Wf L) (x : VX P w G L a xs n1 F) (y : VX P w G L b ys n2 H) (h1 : 1 ≤ n1) (h2 : n1 ≤ 16) (h3 : 1 ≤ n2) (h4 : n2 ≤ 16) (hl : L.length < 80000) (c c2 : Nat) :
    Calls Try.prog 46 #[.pointer (some ⟨G.h, 0, none⟩), .slice a n1 c, .slice b n2 c2] w (VXE w G P L 4200 (max n1 n2) (fun m => doF 1 (wideL false (F m) (max n1 n2)) (wideL false (H m) (max n1 n2)))) := by
  have hd := wd_two x.len y.len h1 h2 h3 h4
  have A := Sub_any a xs c b ys c2 (VX.two2 hr hw x y h2 h4) (by omega)
  rw [hd.1, hd.2.1, hd.2.2, x.len, y.len] at A
  exact A.mono fun e w' h => ((h.vxe (by omega) (by omega)).more (by omega)).congr fun m => by rw [x.wide, y.wide]; rfl
set_option maxHeartbeats 1000000 in
theorem dow_1 (hr : Rep w G L) (hw : Wf L) (x : VX P w G L a xs n1 F) (y : VX P w G L b ys n2 H) (h1 : 1 ≤ n1) (h2 : n1 ≤ 16) (h3 : 1 ≤ n2) (h4 : n2 ≤ 16) (hl : L.length < 80000) (c c2 : Nat) :
    Calls Try.prog 35 #[.pointer (some ⟨G.h, 0, none⟩), .int .i64 1, .slice a n1 c, .slice b n2 c2] w (VXE w G P L 4200 (max n1 n2) (fun m => doF 1 (wideL false (F m) (max n1 n2)) (wideL false (H m) (max n1 n2)))) := by
  have HC := Lib.hid (Sub_wx hr hw x y h1 h2 h3 h4 hl c c2)
  clear hr hw x y hl h1 h2 h3 h4
  generalize max n1 n2 = n at *
  go_enter Try.func35, Try.ntmps35
  go_wp2_with fail
  refine HC.out.mono ?_
  intro e w' hv
  have HV := Lib.hid hv
  obtain ⟨b', c', G', L', es, rfl, _⟩ := hv
  go_wp2_with fail
  go_ret
  exact HV.out
theorem Mul_wx (hr : Rep w G L) (hw : Wf L) (x : VX P w G L a xs n1 F) (y : VX P w G L b ys n2 H) (h1 : 1 ≤ n1) (h2 : n1 ≤ 16) (h3 : 1 ≤ n2) (h4 : n2 ≤ 16) (hl : L.length < 80000) (c c2 : Nat) :
    Calls Try.prog 47 #[.pointer (some ⟨G.h, 0, none⟩), .slice a n1 c, .slice b n2 c2] w (VXE w G P L 4200 (max n1 n2) (fun m => doF 2 (wideL false (F m) (max n1 n2)) (wideL false (H m) (max n1 n2)))) := by
  have hd := wd_two x.len y.len h1 h2 h3 h4
  have A := Mul_any a xs c b ys c2 (VX.two2 hr hw x y h2 h4) (by omega)
  rw [hd.1, hd.2.1, hd.2.2, x.len, y.len] at A
  exact A.mono fun e w' h => ((h.vxe (by omega)).more (by omega)).congr fun m => by rw [x.wide, y.wide]; rfl
set_option maxHeartbeats 1000000 in
theorem dow_2 (hr : Rep w G L) (hw : Wf L) (x : VX P w G L a xs n1 F) (y : VX P w G L b ys n2 H) (h1 : 1 ≤ n1) (h2 : n1 ≤ 16) (h3 : 1 ≤ n2) (h4 : n2 ≤ 16) (hl : L.length < 80000) (c c2 : Nat) :
    Calls Try.prog 35 #[.pointer (some ⟨G.h, 0, none⟩), .int .i64 2, .slice a n1 c, .slice b n2 c2] w (VXE w G P L 4200 (max n1 n2) (fun m => doF 2 (wideL false (F m) (max n1 n2)) (wideL false (H m) (max n1 n2)))) := by
  have HC := Lib.hid (Mul_wx hr hw x y h1 h2 h3 h4 hl c c2)
  clear hr hw x y hl h1 h2 h3 h4
  generalize max n1 n2 = n at *
  go_enter Try.func35, Try.ntmps35
  go_wp2_with fail
  refine HC.out.mono ?_
  intro e w' hv
  have HV := Lib.hid hv
  obtain ⟨b', c', G', L', es, rfl, _⟩ := hv
  go_wp2_with fail
  go_ret
  exact HV.out
theorem Div_wx (hr : Rep w G L) (hw : Wf L) (x : VX P w G L a xs n1 F) (y : VX P w G L b ys n2 H) (h1 : 1 ≤ n1) (h2 : n1 ≤ 16) (h3 : 1 ≤ n2) (h4 : n2 ≤ 16) (hl : L.length < 80000) (c c2 : Nat) :
    Calls Try.prog 48 #[.pointer (some ⟨G.h, 0, none⟩), .slice a n1 c, .slice b n2 c2] w (VXE w G P L 4200 (max n1 n2) (fun m => doF 3 (wideL false (F m) (max n1 n2)) (wideL false (H m) (max n1 n2)))) := by
  have hd := wd_two x.len y.len h1 h2 h3 h4
  have A := Div_any a xs c b ys c2 (VX.two2 hr hw x y h2 h4) (by omega)
  rw [hd.1, hd.2.1, hd.2.2, x.len, y.len] at A
  exact A.mono fun e w' h => ((h.vxe (by omega) (by omega)).more (by omega)).congr fun m => by rw [x.wide, y.wide]; rfl
set_option maxHeartbeats 1000000 in
theorem dow_3 (hr : Rep w G L) (hw : Wf L) (x : VX P w G L a xs n1 F) (y : VX P w G L b ys n2 H) (h1 : 1 ≤ n1) (h2 : n1 ≤ 16) (h3 : 1 ≤ n2) (h4 : n2 ≤ 16) (hl : L.length < 80000) (c c2 : Nat) :
    Calls Try.prog 35 #[.pointer (some ⟨G.h, 0, none⟩), .int .i64 3, .slice a n1 c, .slice b n2 c2] w (VXE w G P L 4200 (max n1 n2) (fun m => doF 3 (wideL false (F m) (max n1 n2)) (wideL false (H m) (max n1 n2)))) := by
  have HC := Lib.hid (Div_wx hr hw x y h1 h2 h3 h4 hl c c2)
  clear hr hw x y hl h1 h2 h3 h4
  generalize max n1 n2 = n at *
  go_enter Try.func35, Try.ntmps35
  go_wp2_with fail
  refine HC.out.mono ?_
  intro e w' hv
  have HV := Lib.hid hv
  obtain ⟨b', c', G', L', es, rfl, _⟩ := hv
  go_wp2_with fail
  go_ret
  exact HV.out
theorem Rem_wx (hr : Rep w G L) (hw : Wf L) (x : VX P w G L a xs n1 F) (y : VX P w G L b ys n2 H) (h1 : 1 ≤ n1) (h2 : n1 ≤ 16) (h3 : 1 ≤ n2) (h4 : n2 ≤ 16) (hl : L.length < 80000) (c c2 : Nat) :
    Calls Try.prog 49 #[.pointer (some ⟨G.h, 0, none⟩), .slice a n1 c, .slice b n2 c2] w (VXE w G P L 4200 (max n1 n2) (fun m => doF 4 (wideL false (F m) (max n1 n2)) (wideL false (H m) (max n1 n2)))) := by
  have hd := wd_two x.len y.len h1 h2 h3 h4
  have A := Rem_any a xs c b ys c2 (VX.two2 hr hw x y h2 h4) (by omega)
  rw [hd.1, hd.2.1, hd.2.2, x.len, y.len] at A
  exact A.mono fun e w' h => ((h.vxe (by omega) (by omega)).more (by omega)).congr fun m => by rw [x.wide, y.wide]; rfl
set_option maxHeartbeats 1000000 in
theorem dow_4 (hr : Rep w G L) (hw : Wf L) (x : VX P w G L a xs n1 F) (y : VX P w G L b ys n2 H) (h1 : 1 ≤ n1) (h2 : n1 ≤ 16) (h3 : 1 ≤ n2) (h4 : n2 ≤ 16) (hl : L.length < 80000) (c c2 : Nat) :
    Calls Try.prog 35 #[.pointer (some ⟨G.h, 0, none⟩), .int .i64 4, .slice a n1 c, .slice b n2 c2] w (VXE w G P L 4200 (max n1 n2) (fun m => doF 4 (wideL false (F m) (max n1 n2)) (wideL false (H m) (max n1 n2)))) := by
  have HC := Lib.hid (Rem_wx hr hw x y h1 h2 h3 h4 hl c c2)
  clear hr hw x y hl h1 h2 h3 h4
  generalize max n1 n2 = n at *
  go_enter Try.func35, Try.ntmps35
  go_wp2_with fail
  refine HC.out.mono ?_
  intro e w' hv
  have HV := Lib.hid hv
  obtain ⟨b', c', G', L', es, rfl, _⟩ := hv
  go_wp2_with fail
  go_ret
  exact HV.out
theorem dow_vx (op : Nat) (hop : op < 5) (hr : Rep w G L) (hw : Wf L) (x : VX P w G L a xs n1 F) (y : VX P w G L b ys n2 H) (h1 : 1 ≤ n1) (h2 : n1 ≤ 16) (h3 : 1 ≤ n2) (h4 : n2 ≤ 16) (hl : L.length < 80000) (c c2 : Nat) :
    Calls Try.prog 35 #[.pointer (some ⟨G.h, 0, none⟩), .int .i64 (op : Int), .slice a n1 c, .slice b n2 c2] w (VXE w G P L 4200 (max n1 n2) (fun m => doF op (wideL false (F m) (max n1 n2)) (wideL false (H m) (max n1 n2)))) := by
  match op, hop with
  | 0, _ => exact dow_0 hr hw x y h1 h2 h3 h4 hl c c2
  | 1, _ => exact dow_1 hr hw x y h1 h2 h3 h4 hl c c2
  | 2, _ => exact dow_2 hr hw x y h1 h2 h3 h4 hl c c2
  | 3, _ => exact dow_3 hr hw x y h1 h2 h3 h4 hl c c2
  | 4, _ => exact dow_4 hr hw x y h1 h2 h3 h4 hl c c2
theorem Same_wx (hr : Rep w G L) (hw : Wf L) (x : VX P w G L a xs n1 F) (y : VX P w G L b ys n2 H) (h1 : 1 ≤ n1) (h2 : n1 ≤ 16) (h3 : 1 ≤ n2) (h4 : n2 ≤ 16) (hl : L.length < 80000) (c c2 : Nat) :
    Calls Try.prog 38 #[.pointer (some ⟨G.h, 0, none⟩), .slice a n1 c, .slice b n2 c2] w (EXE w G P L 64 (fun m => decide (wideL false (F m) (max n1 n2) = wideL false (H m) (max n1 n2)))) := by
  have hd := wd_two x.len y.len h1 h2 h3 h4
  have A := Same_any a xs c b ys c2 (VX.two2 hr hw x y h2 h4) (by omega)
  rw [hd.2.1, hd.2.2, x.len, y.len] at A
  exact A.mono fun e w' h => h.exe fun m => by rw [x.wide, y.wide]
theorem Less_wx (hr : Rep w G L) (hw : Wf L) (x : VX P w G L a xs n1 F) (y : VX P w G L b ys n2 H) (h1 : 1 ≤ n1) (h2 : n1 ≤ 16) (h3 : 1 ≤ n2) (h4 : n2 ≤ 16) (hl : L.length < 80000) (c c2 : Nat) :
    Calls Try.prog 39 #[.pointer (some ⟨G.h, 0, none⟩), .slice a n1 c, .slice b n2 c2] w (EXE w G P L 64 (fun m => lessS (wideL false (F m) (max n1 n2)) (wideL false (H m) (max n1 n2)))) := by
  have hd := wd_two x.len y.len h1 h2 h3 h4
  have A := Less_any a xs c b ys c2 (VX.two2 hr hw x y h2 h4) (by omega)
  rw [hd.2.1, hd.2.2, x.len, y.len] at A
  exact A.mono fun e w' h => h.exe fun m => by rw [x.wide, y.wide]
end
end Go.Proofs.Ytnkcdgpaphphaaa.Gr
