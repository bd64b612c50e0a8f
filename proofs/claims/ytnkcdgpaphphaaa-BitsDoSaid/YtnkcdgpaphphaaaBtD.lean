/- Contracts of mask, turn, difference, magnitude. -/
import Derived.Test.YtnkcdgpaphphaaaBtS
namespace Go.Proofs.Ytnkcdgpaphphaaa.Gr
open Go Go.RowKit Go.Lib Go.Maps

/-- A row that has been made. -/
def RowE (w : World) (G : Loc) (P : Prop) (L : List Nd) (j n : Nat) (f : (Nat → Bool) → List Bool) (e : Ending) (w' : World) : Prop :=
  ∃ (b : Nat) (G' : Loc) (L' : List Nd) (es : List Nat), e = .returned (.slice (some ⟨b, 0, none⟩) n n) ∧ es.length = n ∧ Fil w w' G G' L' b n es (List.replicate n 0) ∧ Out P L j L' es f
/-- A loop's state: a row under way, what it is worth. -/
def MapI (w wr : World) (G : Loc) (P : Prop) (L : List Nd) (b n q k : Nat) (f : (Nat → Bool) → List Bool) : Prop :=
  ∃ (G' : Loc) (L' : List Nd) (es : List Nat), es.length = k ∧ Fil w wr G G' L' b n es (List.replicate n 0) ∧ Out P L (q * k) L' es f
theorem Out.snoc {P : Prop} {L L1 : List Nd} {k j : Nat} {es : List Nat} {f : (Nat → Bool) → List Bool} {g : (Nat → Bool) → Bool} {r : Nat × List Nd} (h : Out P L k L1 es f) (q : Ac P L1 j r g) : Out P L (k + j) r.2 (es ++ [r.1]) (fun m => f m ++ [g m]) := h.both q.out id

def mapF (L : List Nd) (F : Bool → Bool → Bool) (c : Nat) (xs : List Nat) (k : Nat) (m : Nat → Bool) : List Bool := ((xs.take k).map (Gr.val m L)).map (F (Gr.val m L c))
theorem mapF_succ {L : List Nd} {F : Bool → Bool → Bool} {c : Nat} {xs : List Nat} {k : Nat} (hk : k < xs.length) (m : Nat → Bool) : mapF L F c xs (k + 1) m = mapF L F c xs k m ++ [F (Gr.val m L c) (Gr.val m L (xs.getD k 0))] := by
  unfold mapF; rw [take_snoc' hk, List.map_append, List.map_append]; rfl
theorem mapF_all {L : List Nd} {F : Bool → Bool → Bool} {c : Nat} {xs : List Nat} {n : Nat} (h : xs.length = n) (m : Nat → Bool) : mapF L F c xs n m = (xs.map (Gr.val m L)).map (F (Gr.val m L c)) := by
  unfold mapF; rw [List.take_of_length_le (by omega)]

set_option maxRecDepth 100000 in
set_option maxHeartbeats 1000000 in
theorem mask_any {P : Prop} {w : World} {G : Loc} {L : List Nd} (h : Rep w G L) (hW : Wf L) (c : Nat) (a : Option Addr) (xs : List Nat) (ca n : Nat) (hx : Vec w G a xs) (hnx : xs.length = n) (hn1 : 1 ≤ n) (hn : n ≤ 16) (hc : c < 2 * (L.length + 1)) (he : ∀ e ∈ xs, e < 2 * (L.length + 1)) (hP : P → c ≤ 1 ∧ ∀ e ∈ xs, e ≤ 1) (hl : L.length < 120000) :
    Calls Try.prog 66 #[.pointer (some ⟨G.h, 0, none⟩), .int .i64 (c : Int), .slice a n ca] w (RowE w G P L n n (fun m => maskL (Gr.val m L c) (xs.map (Gr.val m L)))) := by
  obtain ⟨p1, o1, rfl, hx1⟩ := hx.resolve_left (by omega)
  have HVX := Lib.hid hx
  have HC := Lib.hid (And.intro hnx (And.intro he (And.intro hP (And.intro hl hc))))
  have hm := fun W => run_make_row' (P := Try.prog) 31 3 (.int .i64 0) 8 Try.underlying31 infoInt rfl .i64 .i64 n (by omega) (by omega) W
  have START : Hid (MapI w (w.alloc (.cells (madeCells #[.int .i64 0] n) 3)) G P L w.heap.size n 1 0 (fun m => mapF L (· && ·) c xs 0 m)) :=
    ⟨G, L, [], rfl, Fil.made h (Fr.refl _ _) n, (Out.nil hW).congr fun m => rfl⟩
  clear h hW hx hx1 he hP hl hnx hc
  go_enter Try.func66, Try.ntmps66
  go_wp2_with fail
  go_loopw [8, 9, 15] (fun _ _ iv wr => ∃ k : Nat, iv = .int .i64 (k : Int) ∧ k ≤ n ∧ Hid (MapI w wr G P L w.heap.size n 1 k (fun m => mapF L (· && ·) c xs k m))) (fun _ _ iv _ => n - (RowKit.intOf iv).toNat)
  case atStart => exact ⟨0, rfl, Nat.zero_le _, START⟩
  case round =>
    obtain ⟨k, rfl, hk, HH⟩ := hrel
    by_cases hlt : k < n
    · have hlz : (k : Int) < (n : Int) := by omega
      have k0 : (0 : Int) ≤ (k : Int) := by omega
      obtain ⟨G1, L1, es, hes, r1, hO⟩ := HH.out
      have kx : k < xs.length := by have := HC.out.1; omega
      have hxk := HC.out.2.1 _ (get_mem kx)
      have hll := hO.lenle
      have hA := and_ac (P := P) hO.wf (hO.lt HC.out.2.2.2.2) (hO.lt hxk) (fun p => ⟨(HC.out.2.2.1 p).1, (HC.out.2.2.1 p).2 _ (get_mem kx)⟩)
      have hl := HC.out.2.2.2.1
      have hS := hO.snoc hA
      have H1 := And_any r1.rep (c : Int) (xs.getD k 0 : Int) (by have := HC.out.2.2.2.2; omega) (by omega) (by omega)
      rw [own_nat (hO.lt HC.out.2.2.2.2), own_nat (hO.lt hxk), r1.fr.h] at H1
      have HX1 := Lib.hid H1
      have HS : Hid (Out P L (1 * (k + 1)) (andE L1 c (xs.getD k 0)).2 (es ++ [(andE L1 c (xs.getD k 0)).1]) (fun m => mapF L (· && ·) c xs (k + 1) m)) := by
        refine (hS.more (by omega)).congr fun m => ?_
        rw [mapF_succ kx, hO.old HC.out.2.2.2.2, hO.old hxk]
      have R1 := Lib.hid r1
      have HES := Lib.hid hes
      obtain ⟨_, _, e, _, _, q1⟩ := (HVX.out.fr r1.fr).resolve_left (by omega)
      cases e
      have cx : wr.cell? ⟨p1, o1 + k, none⟩ = some (.int .i64 (xs.getD k 0 : Int)) := q1 k kx
      clear q1 H1 hS hO hA HH r1 hes hxk hl hll
      generalize andE L1 c (xs.getD k 0) = r at *
      generalize xs.getD k 0 = xk at *
      go_wp2_with fail
      refine HX1.out.mono ?_
      rintro e w3 ⟨rfl, G3, g1, g2⟩
      have f3 := R1.out.op g1 g2
      have fz3 := f3.free k
      have c3 := f3.next (i := k) (by rw [List.length_replicate]; exact hlt) (by rw [HES.out]; exact Nat.le_refl _)
      have F4 : Hid (MapI w (w3.setCell ⟨w.heap.size, k, none⟩ (.int .i64 (r.1 : Int))) G P L w.heap.size n 1 (k + 1) (fun m => mapF L (· && ·) c xs (k + 1) m)) := ⟨G3, r.2, es ++ [r.1], by rw [List.length_append, HES.out]; rfl, f3.put (k := k) HES.out (by rw [List.length_replicate]; exact hlt) r.1, HS.out⟩
      generalize ((List.replicate n 0).getD k 0 : Int) = yy at *
      clear f3 g1 g2 R1 HX1
      go_wp2_with fail
      go_roundw
      case rel => exact ⟨k + 1, by go_num, by omega, F4⟩
      case measure => simp [RowKit.intOf]; omega
    · obtain rfl : k = n := by omega
      have hlz : ¬ (k : Int) < (k : Int) := by omega
      obtain ⟨G1, L1, es, hes, r1, hO⟩ := HH.out
      have HF : Hid (RowE w G P L k k (fun m => maskL (Gr.val m L c) (xs.map (Gr.val m L))) (.returned (.slice (some ⟨w.heap.size, 0, none⟩) k k)) wr) := ⟨w.heap.size, G1, L1, es, rfl, hes, r1, (hO.more (by omega)).congr fun m => mapF_all HC.out.1 m⟩
      clear r1 hO HH hes
      go_wp2_with fail
      go_ret
      exact HF.out

set_option maxRecDepth 100000 in
set_option maxHeartbeats 1000000 in
theorem turn_any {P : Prop} {w : World} {G : Loc} {L : List Nd} (h : Rep w G L) (hW : Wf L) (c : Nat) (a : Option Addr) (xs : List Nat) (ca n : Nat) (hx : Vec w G a xs) (hnx : xs.length = n) (hn1 : 1 ≤ n) (hn : n ≤ 16) (hc : c < 2 * (L.length + 1)) (he : ∀ e ∈ xs, e < 2 * (L.length + 1)) (hP : P → c ≤ 1 ∧ ∀ e ∈ xs, e ≤ 1) (hl : L.length < 110000) :
    Calls Try.prog 69 #[.pointer (some ⟨G.h, 0, none⟩), .int .i64 (c : Int), .slice a n ca] w (RowE w G P L (12 * n) n (fun m => turnL (Gr.val m L c) (xs.map (Gr.val m L)))) := by
  obtain ⟨p1, o1, rfl, hx1⟩ := hx.resolve_left (by omega)
  have HVX := Lib.hid hx
  have HC := Lib.hid (And.intro hnx (And.intro he (And.intro hP (And.intro hl hc))))
  have HNN := Lib.hid (And.intro hn1 hn)
  have hm := fun W => run_make_row' (P := Try.prog) 31 3 (.int .i64 0) 8 Try.underlying31 infoInt rfl .i64 .i64 n (by omega) (by omega) W
  have START : Hid (MapI w (w.alloc (.cells (madeCells #[.int .i64 0] n) 3)) G P L w.heap.size n 3 0 (fun m => mapF L (fun a b => a != b) c xs 0 m)) :=
    ⟨G, L, [], rfl, Fil.made h (Fr.refl _ _) n, (Out.nil hW).congr fun m => rfl⟩
  clear h hW hx hx1 he hP hl hnx hc
  go_enter Try.func69, Try.ntmps69
  go_wp2_with fail
  go_loopw [8, 9, 17] (fun _ _ iv wr => ∃ k : Nat, iv = .int .i64 (k : Int) ∧ k ≤ n ∧ Hid (MapI w wr G P L w.heap.size n 3 k (fun m => mapF L (fun a b => a != b) c xs k m))) (fun _ _ iv _ => n - (RowKit.intOf iv).toNat)
  case atStart => exact ⟨0, rfl, Nat.zero_le _, START⟩
  case round =>
    obtain ⟨k, rfl, hk, HH⟩ := hrel
    by_cases hlt : k < n
    · have hlz : (k : Int) < (n : Int) := by omega
      have k0 : (0 : Int) ≤ (k : Int) := by omega
      obtain ⟨G1, L1, es, hes, r1, hO⟩ := HH.out
      have kx : k < xs.length := by have := HC.out.1; omega
      have hxk := HC.out.2.1 _ (get_mem kx)
      have hll := hO.lenle
      have hA := xor_ac (P := P) hO.wf (hO.lt HC.out.2.2.2.2) (hO.lt hxk) (fun p => ⟨(HC.out.2.2.1 p).1, (HC.out.2.2.1 p).2 _ (get_mem kx)⟩)
      have hl := HC.out.2.2.2.1
      have hS := hO.snoc hA
      have H1 := Xor_any r1.rep hO.wf c (xs.getD k 0) (hO.lt HC.out.2.2.2.2) (hO.lt hxk) (by omega)
      rw [r1.fr.h] at H1
      have HX1 := Lib.hid H1
      have HS : Hid (Out P L (3 * (k + 1)) (xorE L1 c (xs.getD k 0)).2 (es ++ [(xorE L1 c (xs.getD k 0)).1]) (fun m => mapF L (fun a b => a != b) c xs (k + 1) m)) := by
        refine (hS.more (by omega)).congr fun m => ?_
        rw [mapF_succ kx, hO.old HC.out.2.2.2.2, hO.old hxk]
      have R1 := Lib.hid r1
      have HES := Lib.hid hes
      obtain ⟨_, _, e, _, _, q1⟩ := (HVX.out.fr r1.fr).resolve_left (by omega)
      cases e
      have cx : wr.cell? ⟨p1, o1 + k, none⟩ = some (.int .i64 (xs.getD k 0 : Int)) := q1 k kx
      clear q1 H1 hS hO hA HH r1 hes hxk hl hll
      generalize xorE L1 c (xs.getD k 0) = r at *
      generalize xs.getD k 0 = xk at *
      go_wp2_with fail
      refine HX1.out.mono ?_
      rintro e w3 ⟨rfl, G3, g1, g2⟩
      have f3 := R1.out.op g1 g2
      have fz3 := f3.free k
      have c3 := f3.next (i := k) (by rw [List.length_replicate]; exact hlt) (by rw [HES.out]; exact Nat.le_refl _)
      have F4 : Hid (MapI w (w3.setCell ⟨w.heap.size, k, none⟩ (.int .i64 (r.1 : Int))) G P L w.heap.size n 3 (k + 1) (fun m => mapF L (fun a b => a != b) c xs (k + 1) m)) := ⟨G3, r.2, es ++ [r.1], by rw [List.length_append, HES.out]; rfl, f3.put (k := k) HES.out (by rw [List.length_replicate]; exact hlt) r.1, HS.out⟩
      generalize ((List.replicate n 0).getD k 0 : Int) = yy at *
      clear f3 g1 g2 R1 HX1
      go_wp2_with fail
      go_roundw
      case rel => exact ⟨k + 1, by go_num, by omega, F4⟩
      case measure => simp [RowKit.intOf]; omega
    · obtain rfl : k = n := by omega
      have hlz : ¬ (k : Int) < (k : Int) := by omega
      obtain ⟨G1, L1, es, hes, r1, hO⟩ := HH.out
      have r2 := Fil.made r1.rep r1.fr k
      have hA : Below wr.heap.size wr (wr.alloc (.cells (madeCells #[.int .i64 0] k) 3)) := (Below.refl _ _).alloc (Nat.le_refl _) _
      have r3 := r1.below hA
      have hz : ∀ e ∈ List.replicate k 0, e = 0 := fun e he => (List.mem_replicate.1 he).2
      have hll := hO.lenle
      have hS := sum_any (P := P) r3.rep hO.wf (some ⟨w.heap.size, 0, none⟩) es k (some ⟨wr.heap.size, 0, none⟩) (List.replicate k 0) k k c (r3.vec (by rw [List.length_replicate]; exact hes)) (Or.inr ⟨wr.heap.size, 0, rfl, r2.lt, r2.out, fun j hj => by rw [Nat.zero_add]; exact r2.next (by simpa using hj) (Nat.zero_le _)⟩) hes (List.length_replicate ..) HNN.out.1 HNN.out.2 hO.own (fun e he => by rw [hz e he]; omega) (hO.lt HC.out.2.2.2.2) (fun p => ⟨(hO.con p).2, fun e he => by rw [hz e he]; omega, (HC.out.2.2.1 p).1⟩) (by have := HC.out.2.2.2.1; have := HNN.out.2; omega)
      rw [r3.fr.h] at hS
      have HS := Lib.hid hS
      have R3 := Lib.hid r3
      have HV : Hid (∀ m, (sumF L1 es (List.replicate k 0) c k m).1 = turnL (Gr.val m L c) (xs.map (Gr.val m L))) := fun m => by
        unfold sumF turnL
        rw [List.take_of_length_le (by omega), List.take_of_length_le (by simp), hO.val m, mapF_all HC.out.1, hO.old HC.out.2.2.2.2, List.map_replicate, val_zero, List.length_map, HC.out.1]
      have HO := Lib.hid hO
      clear r1 r2 r3 hO HH hes hA hz hll hS
      go_wp2_with fail
      refine HS.out.mono ?_
      rintro e w4 ⟨b4, G4, L4, es4, c4, rfl, hes4, r4, hO4⟩
      have HF : Hid (RowE w G P L (12 * k) k (fun m => turnL (Gr.val m L c) (xs.map (Gr.val m L))) (.returned (.slice (some ⟨b4, 0, none⟩) k k)) w4) :=
        ⟨b4, G4, L4, es4, rfl, hes4, r4.pre R3.out.fr, (((HO.out.then hO4 id).left (fun _ => rfl)).more (by omega)).congr HV.out⟩
      clear r4 hO4 hes4
      go_wp2_with fail
      go_ret
      exact HF.out
end Go.Proofs.Ytnkcdgpaphphaaa.Gr
