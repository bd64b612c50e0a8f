/- Contract of New. -/
import Derived.Test.YtanmpokfeidlcaaHpG
import Derived.Deep.OwnRows
import Derived.Deep.RegionHeld3
namespace Go.Proofs.Ytanmpokfeidlcaa.Hp
open Go Go.RowKit Go.Lib

theorem infoI64 : (Try.prog.info? 2).map (fun i => (i.zero, i.size, i.bytes)) = some (some (.int .i64 0), 1, 8) := by kernel_rfl

set_option maxHeartbeats 400000 in
theorem New_err (n : Int) (w : World) (h : n < 0 ∨ 100000 < n) :
    Calls Try.prog 9 #[.int .i64 n] w fun e w' => e = .returned (.tuple #[.pointer none, .int .i64 2]) ∧ w = w' := by
  rcases h with h | h
  · go_enter Try.func9, Try.ntmps9
    go_wp2
    go_ret2
    exact ⟨rfl, rfl⟩
  · have h2 : ¬ n < 0 := by omega
    have h3 : decide (n < 0) = false := by simpa using h2
    go_enter Try.func9, Try.ntmps9
    go_wp2
    go_ret2
    exact ⟨rfl, rfl⟩

theorem look0 (w : World) (o1 o2 o3 o4 : Obj) : ((((w.alloc o1).alloc o2).alloc o3).alloc o4).drew.heap[w.heap.size]? = some o1 := by
  show ((((w.heap.push o1).push o2).push o3).push o4)[w.heap.size]? = _
  simp only [Array.getElem?_push, Array.size_push]
  rw [if_neg (by omega), if_neg (by omega), if_neg (by omega), if_pos trivial]
theorem look1 (w : World) (o1 o2 o3 o4 : Obj) : ((((w.alloc o1).alloc o2).alloc o3).alloc o4).drew.heap[w.heap.size + 1]? = some o2 := by
  show ((((w.heap.push o1).push o2).push o3).push o4)[w.heap.size + 1]? = _
  simp only [Array.getElem?_push, Array.size_push]
  rw [if_neg (by omega), if_neg (by omega), if_pos trivial]
theorem look2 (w : World) (o1 o2 o3 o4 : Obj) : ((((w.alloc o1).alloc o2).alloc o3).alloc o4).drew.heap[w.heap.size + 1 + 1]? = some o3 := by
  show ((((w.heap.push o1).push o2).push o3).push o4)[w.heap.size + 1 + 1]? = _
  simp only [Array.getElem?_push, Array.size_push]
  rw [if_neg (by omega), if_pos trivial]
theorem look3 (w : World) (o1 o2 o3 o4 : Obj) : ((((w.alloc o1).alloc o2).alloc o3).alloc o4).drew.heap[w.heap.size + 1 + 1 + 1]? = some o4 := by
  show ((((w.heap.push o1).push o2).push o3).push o4)[w.heap.size + 1 + 1 + 1]? = _
  simp only [Array.getElem?_push, Array.size_push]
  rw [if_pos trivial]

theorem RowAt.of_zeros {w : World} {b n : Nat} {ty : TypeId} {f : Nat → Value} (h : w.heap[b]? = some (.cells (madeCells #[.int .i64 0] n) ty (0, 0))) (hf : ∀ i, i < n → f i = .int .i64 0) : RowAt w b ty n f := by
  refine ⟨_, h, by simp [size_madeCells], fun i hi => ?_⟩
  rw [hf i hi]
  simp [madeCells, hi, Nat.mod_one]

/-- The four new blocks, wherever they lie, are a heap of none. -/
theorem rep_of_new {W : World} {L : Loc} {n : Nat}
    (h1 : W.heap[L.h]? = some (.cells #[.slice (some ⟨L.t, 0, none⟩) n n, .slice (some ⟨L.p, 0, none⟩) (n + 1) (n + 1), .slice (some ⟨L.a, 0, none⟩) (n + 1) (n + 1)] 48 (0, 0)))
    (h2 : W.heap[L.t]? = some (.cells (madeCells #[.int .i64 0] n) 3 (0, 0)))
    (h3 : W.heap[L.p]? = some (.cells (madeCells #[.int .i64 0] (n + 1)) 3 (0, 0)))
    (h4 : W.heap[L.a]? = some (.cells (madeCells #[.int .i64 0] (n + 1)) 2 (0, 0)))
    (tp : L.t ≠ L.p) (ht : L.h ≠ L.t) (hp : L.h ≠ L.p) (ha : L.h ≠ L.a) (ta : L.t ≠ L.a) (pa : L.p ≠ L.a) : Rep W L n n (fun _ => 0) (fun _ => 0) (fun _ => 0) :=
  ⟨⟨_, h1, rfl, fun i hi => by match i, hi with | 0, _ => rfl | 1, _ => rfl | 2, _ => rfl⟩, RowAt.of_zeros h2 (fun _ _ => rfl), RowAt.of_zeros h3 (fun _ _ => rfl), RowAt.of_zeros h4 (fun _ _ => rfl), tp, ht, hp, ha, ta, pa⟩

def newT (j : Nat) : Nat → Nat := fun i => if i < j then i + 1 else 0
def newP (j : Nat) : Nat → Int := fun u => if u ≤ j then (u : Int) - 1 else 0
theorem newT_step (j : Nat) : upd (newT j) j (j + 1) = newT (j + 1) := by
  funext i; unfold upd newT
  by_cases e : i = j
  · subst e; simp
  · by_cases q : i < j
    · rw [if_neg e, if_pos q, if_pos (by omega)]
    · rw [if_neg e, if_neg q, if_neg (by omega)]

set_option maxHeartbeats 4000000 in
theorem New_ok (n : Nat) (w : World) (hn : n ≤ 100000) :
    Calls Try.prog 9 #[.int .i64 (n : Int)] w fun e w' => ∃ L : Loc, e = .returned (.tuple #[.pointer (some ⟨L.h, 0, none⟩), .int .i64 0]) ∧ IsHeap w' L n (fun _ => true) (fun _ => 0) ∧ Below w.heap.size w w' ∧ ∀ b ∈ L.all, w.heap.size ≤ b := by
  have hnz : (n : Int) ≤ 100000 := by omega
  have hn2 : ¬ (n : Int) < 0 := by omega
  have hn3 : decide ((n : Int) < 0) = false := by simp
  have hn4 : ¬ (100000 : Int) < (n : Int) := by omega
  have hm1 := fun W => run_make_row' (P := Try.prog) 46 3 (.int .i64 0) 8 Try.underlying46 infoInt rfl .i64 .i64 n (by omega) (by omega) W
  have hm2 := fun W => run_make_row' (P := Try.prog) 46 3 (.int .i64 0) 8 Try.underlying46 infoInt rfl .i64 .i64 (n + 1) (by omega) (by omega) W
  have hm3 := fun W => run_make_row' (P := Try.prog) 38 2 (.int .i64 0) 8 Try.underlying38 infoI64 rfl .i64 .i64 (n + 1) (by omega) (by omega) W
  push_cast at hm2 hm3
  go_enter Try.func9, Try.ntmps9
  go_wp2_with fail
  go_region
  have HW : Hid (∃ L : Loc, L.h = w.heap.size + 1 + 1 + 1 ∧ Rep (((((w.alloc (.cells (madeCells #[.int .i64 0] n) 3)).alloc (.cells (madeCells #[.int .i64 0] (n + 1)) 3)).alloc (.cells (madeCells #[.int .i64 0] (n + 1)) 2)).alloc (.cells #[.slice (some ⟨w.heap.size, 0, none⟩) n n, .slice (some ⟨(w.heap.size + 1), 0, none⟩) (n + 1) (n + 1), .slice (some ⟨(w.heap.size + 1 + 1), 0, none⟩) (n + 1) (n + 1)] 48)).drew) L n n (fun _ => 0) (fun _ => 0) (fun _ => 0) ∧ Below w.heap.size w (((((w.alloc (.cells (madeCells #[.int .i64 0] n) 3)).alloc (.cells (madeCells #[.int .i64 0] (n + 1)) 3)).alloc (.cells (madeCells #[.int .i64 0] (n + 1)) 2)).alloc (.cells #[.slice (some ⟨w.heap.size, 0, none⟩) n n, .slice (some ⟨(w.heap.size + 1), 0, none⟩) (n + 1) (n + 1), .slice (some ⟨(w.heap.size + 1 + 1), 0, none⟩) (n + 1) (n + 1)] 48)).drew) ∧ ∀ b ∈ L.all, w.heap.size ≤ b) := by
    refine ⟨⟨w.heap.size + 1 + 1 + 1, w.heap.size, (w.heap.size + 1), (w.heap.size + 1 + 1)⟩, rfl, rep_of_new (by first | exact look0 _ _ _ _ _ | exact look1 _ _ _ _ _ | exact look2 _ _ _ _ _ | exact look3 _ _ _ _ _) (by first | exact look0 _ _ _ _ _ | exact look1 _ _ _ _ _ | exact look2 _ _ _ _ _ | exact look3 _ _ _ _ _) (by first | exact look0 _ _ _ _ _ | exact look1 _ _ _ _ _ | exact look2 _ _ _ _ _ | exact look3 _ _ _ _ _) (by first | exact look0 _ _ _ _ _ | exact look1 _ _ _ _ _ | exact look2 _ _ _ _ _ | exact look3 _ _ _ _ _) (by dsimp only; omega) (by dsimp only; omega) (by dsimp only; omega) (by dsimp only; omega) (by dsimp only; omega) (by dsimp only; omega), ?_, fun b hb => by simp [Loc.all] at hb; omega⟩
    · exact (((((Below.refl _ _).alloc (Nat.le_refl _) _).alloc (by simp) _).alloc (by simp only [World.size_alloc]; omega) _).alloc (by simp only [World.size_alloc]; omega) _).drew
  generalize ((((w.alloc (.cells (madeCells #[.int .i64 0] n) 3)).alloc (.cells (madeCells #[.int .i64 0] (n + 1)) 3)).alloc (.cells (madeCells #[.int .i64 0] (n + 1)) 2)).alloc (.cells #[.slice (some ⟨w.heap.size, 0, none⟩) n n, .slice (some ⟨(w.heap.size + 1), 0, none⟩) (n + 1) (n + 1), .slice (some ⟨(w.heap.size + 1 + 1), 0, none⟩) (n + 1) (n + 1)] 48)).drew = W1 at *
  rotate_left
  have HW : Hid (∃ L : Loc, L.h = w.heap.size + 1 + 1 + 1 ∧ Rep (((((w.alloc (.cells (madeCells #[.int .i64 0] n) 3)).alloc (.cells (madeCells #[.int .i64 0] (n + 1)) 2)).alloc (.cells (madeCells #[.int .i64 0] (n + 1)) 3)).alloc (.cells #[.slice (some ⟨w.heap.size, 0, none⟩) n n, .slice (some ⟨(w.heap.size + 1 + 1), 0, none⟩) (n + 1) (n + 1), .slice (some ⟨(w.heap.size + 1), 0, none⟩) (n + 1) (n + 1)] 48)).drew) L n n (fun _ => 0) (fun _ => 0) (fun _ => 0) ∧ Below w.heap.size w (((((w.alloc (.cells (madeCells #[.int .i64 0] n) 3)).alloc (.cells (madeCells #[.int .i64 0] (n + 1)) 2)).alloc (.cells (madeCells #[.int .i64 0] (n + 1)) 3)).alloc (.cells #[.slice (some ⟨w.heap.size, 0, none⟩) n n, .slice (some ⟨(w.heap.size + 1 + 1), 0, none⟩) (n + 1) (n + 1), .slice (some ⟨(w.heap.size + 1), 0, none⟩) (n + 1) (n + 1)] 48)).drew) ∧ ∀ b ∈ L.all, w.heap.size ≤ b) := by
    refine ⟨⟨w.heap.size + 1 + 1 + 1, w.heap.size, (w.heap.size + 1 + 1), (w.heap.size + 1)⟩, rfl, rep_of_new (by first | exact look0 _ _ _ _ _ | exact look1 _ _ _ _ _ | exact look2 _ _ _ _ _ | exact look3 _ _ _ _ _) (by first | exact look0 _ _ _ _ _ | exact look1 _ _ _ _ _ | exact look2 _ _ _ _ _ | exact look3 _ _ _ _ _) (by first | exact look0 _ _ _ _ _ | exact look1 _ _ _ _ _ | exact look2 _ _ _ _ _ | exact look3 _ _ _ _ _) (by first | exact look0 _ _ _ _ _ | exact look1 _ _ _ _ _ | exact look2 _ _ _ _ _ | exact look3 _ _ _ _ _) (by dsimp only; omega) (by dsimp only; omega) (by dsimp only; omega) (by dsimp only; omega) (by dsimp only; omega) (by dsimp only; omega), ?_, fun b hb => by simp [Loc.all] at hb; omega⟩
    · exact (((((Below.refl _ _).alloc (Nat.le_refl _) _).alloc (by simp) _).alloc (by simp only [World.size_alloc]; omega) _).alloc (by simp only [World.size_alloc]; omega) _).drew
  generalize ((((w.alloc (.cells (madeCells #[.int .i64 0] n) 3)).alloc (.cells (madeCells #[.int .i64 0] (n + 1)) 2)).alloc (.cells (madeCells #[.int .i64 0] (n + 1)) 3)).alloc (.cells #[.slice (some ⟨w.heap.size, 0, none⟩) n n, .slice (some ⟨(w.heap.size + 1 + 1), 0, none⟩) (n + 1) (n + 1), .slice (some ⟨(w.heap.size + 1), 0, none⟩) (n + 1) (n + 1)] 48)).drew = W1 at *
  rotate_left
  have HW : Hid (∃ L : Loc, L.h = w.heap.size + 1 + 1 + 1 ∧ Rep (((((w.alloc (.cells (madeCells #[.int .i64 0] (n + 1)) 3)).alloc (.cells (madeCells #[.int .i64 0] n) 3)).alloc (.cells (madeCells #[.int .i64 0] (n + 1)) 2)).alloc (.cells #[.slice (some ⟨(w.heap.size + 1), 0, none⟩) n n, .slice (some ⟨w.heap.size, 0, none⟩) (n + 1) (n + 1), .slice (some ⟨(w.heap.size + 1 + 1), 0, none⟩) (n + 1) (n + 1)] 48)).drew) L n n (fun _ => 0) (fun _ => 0) (fun _ => 0) ∧ Below w.heap.size w (((((w.alloc (.cells (madeCells #[.int .i64 0] (n + 1)) 3)).alloc (.cells (madeCells #[.int .i64 0] n) 3)).alloc (.cells (madeCells #[.int .i64 0] (n + 1)) 2)).alloc (.cells #[.slice (some ⟨(w.heap.size + 1), 0, none⟩) n n, .slice (some ⟨w.heap.size, 0, none⟩) (n + 1) (n + 1), .slice (some ⟨(w.heap.size + 1 + 1), 0, none⟩) (n + 1) (n + 1)] 48)).drew) ∧ ∀ b ∈ L.all, w.heap.size ≤ b) := by
    refine ⟨⟨w.heap.size + 1 + 1 + 1, (w.heap.size + 1), w.heap.size, (w.heap.size + 1 + 1)⟩, rfl, rep_of_new (by first | exact look0 _ _ _ _ _ | exact look1 _ _ _ _ _ | exact look2 _ _ _ _ _ | exact look3 _ _ _ _ _) (by first | exact look0 _ _ _ _ _ | exact look1 _ _ _ _ _ | exact look2 _ _ _ _ _ | exact look3 _ _ _ _ _) (by first | exact look0 _ _ _ _ _ | exact look1 _ _ _ _ _ | exact look2 _ _ _ _ _ | exact look3 _ _ _ _ _) (by first | exact look0 _ _ _ _ _ | exact look1 _ _ _ _ _ | exact look2 _ _ _ _ _ | exact look3 _ _ _ _ _) (by dsimp only; omega) (by dsimp only; omega) (by dsimp only; omega) (by dsimp only; omega) (by dsimp only; omega) (by dsimp only; omega), ?_, fun b hb => by simp [Loc.all] at hb; omega⟩
    · exact (((((Below.refl _ _).alloc (Nat.le_refl _) _).alloc (by simp) _).alloc (by simp only [World.size_alloc]; omega) _).alloc (by simp only [World.size_alloc]; omega) _).drew
  generalize ((((w.alloc (.cells (madeCells #[.int .i64 0] (n + 1)) 3)).alloc (.cells (madeCells #[.int .i64 0] n) 3)).alloc (.cells (madeCells #[.int .i64 0] (n + 1)) 2)).alloc (.cells #[.slice (some ⟨(w.heap.size + 1), 0, none⟩) n n, .slice (some ⟨w.heap.size, 0, none⟩) (n + 1) (n + 1), .slice (some ⟨(w.heap.size + 1 + 1), 0, none⟩) (n + 1) (n + 1)] 48)).drew = W1 at *
  rotate_left
  have HW : Hid (∃ L : Loc, L.h = w.heap.size + 1 + 1 + 1 ∧ Rep (((((w.alloc (.cells (madeCells #[.int .i64 0] (n + 1)) 3)).alloc (.cells (madeCells #[.int .i64 0] (n + 1)) 2)).alloc (.cells (madeCells #[.int .i64 0] n) 3)).alloc (.cells #[.slice (some ⟨(w.heap.size + 1 + 1), 0, none⟩) n n, .slice (some ⟨w.heap.size, 0, none⟩) (n + 1) (n + 1), .slice (some ⟨(w.heap.size + 1), 0, none⟩) (n + 1) (n + 1)] 48)).drew) L n n (fun _ => 0) (fun _ => 0) (fun _ => 0) ∧ Below w.heap.size w (((((w.alloc (.cells (madeCells #[.int .i64 0] (n + 1)) 3)).alloc (.cells (madeCells #[.int .i64 0] (n + 1)) 2)).alloc (.cells (madeCells #[.int .i64 0] n) 3)).alloc (.cells #[.slice (some ⟨(w.heap.size + 1 + 1), 0, none⟩) n n, .slice (some ⟨w.heap.size, 0, none⟩) (n + 1) (n + 1), .slice (some ⟨(w.heap.size + 1), 0, none⟩) (n + 1) (n + 1)] 48)).drew) ∧ ∀ b ∈ L.all, w.heap.size ≤ b) := by
    refine ⟨⟨w.heap.size + 1 + 1 + 1, (w.heap.size + 1 + 1), w.heap.size, (w.heap.size + 1)⟩, rfl, rep_of_new (by first | exact look0 _ _ _ _ _ | exact look1 _ _ _ _ _ | exact look2 _ _ _ _ _ | exact look3 _ _ _ _ _) (by first | exact look0 _ _ _ _ _ | exact look1 _ _ _ _ _ | exact look2 _ _ _ _ _ | exact look3 _ _ _ _ _) (by first | exact look0 _ _ _ _ _ | exact look1 _ _ _ _ _ | exact look2 _ _ _ _ _ | exact look3 _ _ _ _ _) (by first | exact look0 _ _ _ _ _ | exact look1 _ _ _ _ _ | exact look2 _ _ _ _ _ | exact look3 _ _ _ _ _) (by dsimp only; omega) (by dsimp only; omega) (by dsimp only; omega) (by dsimp only; omega) (by dsimp only; omega) (by dsimp only; omega), ?_, fun b hb => by simp [Loc.all] at hb; omega⟩
    · exact (((((Below.refl _ _).alloc (Nat.le_refl _) _).alloc (by simp) _).alloc (by simp only [World.size_alloc]; omega) _).alloc (by simp only [World.size_alloc]; omega) _).drew
  generalize ((((w.alloc (.cells (madeCells #[.int .i64 0] (n + 1)) 3)).alloc (.cells (madeCells #[.int .i64 0] (n + 1)) 2)).alloc (.cells (madeCells #[.int .i64 0] n) 3)).alloc (.cells #[.slice (some ⟨(w.heap.size + 1 + 1), 0, none⟩) n n, .slice (some ⟨w.heap.size, 0, none⟩) (n + 1) (n + 1), .slice (some ⟨(w.heap.size + 1), 0, none⟩) (n + 1) (n + 1)] 48)).drew = W1 at *
  rotate_left
  have HW : Hid (∃ L : Loc, L.h = w.heap.size + 1 + 1 + 1 ∧ Rep (((((w.alloc (.cells (madeCells #[.int .i64 0] (n + 1)) 2)).alloc (.cells (madeCells #[.int .i64 0] n) 3)).alloc (.cells (madeCells #[.int .i64 0] (n + 1)) 3)).alloc (.cells #[.slice (some ⟨(w.heap.size + 1), 0, none⟩) n n, .slice (some ⟨(w.heap.size + 1 + 1), 0, none⟩) (n + 1) (n + 1), .slice (some ⟨w.heap.size, 0, none⟩) (n + 1) (n + 1)] 48)).drew) L n n (fun _ => 0) (fun _ => 0) (fun _ => 0) ∧ Below w.heap.size w (((((w.alloc (.cells (madeCells #[.int .i64 0] (n + 1)) 2)).alloc (.cells (madeCells #[.int .i64 0] n) 3)).alloc (.cells (madeCells #[.int .i64 0] (n + 1)) 3)).alloc (.cells #[.slice (some ⟨(w.heap.size + 1), 0, none⟩) n n, .slice (some ⟨(w.heap.size + 1 + 1), 0, none⟩) (n + 1) (n + 1), .slice (some ⟨w.heap.size, 0, none⟩) (n + 1) (n + 1)] 48)).drew) ∧ ∀ b ∈ L.all, w.heap.size ≤ b) := by
    refine ⟨⟨w.heap.size + 1 + 1 + 1, (w.heap.size + 1), (w.heap.size + 1 + 1), w.heap.size⟩, rfl, rep_of_new (by first | exact look0 _ _ _ _ _ | exact look1 _ _ _ _ _ | exact look2 _ _ _ _ _ | exact look3 _ _ _ _ _) (by first | exact look0 _ _ _ _ _ | exact look1 _ _ _ _ _ | exact look2 _ _ _ _ _ | exact look3 _ _ _ _ _) (by first | exact look0 _ _ _ _ _ | exact look1 _ _ _ _ _ | exact look2 _ _ _ _ _ | exact look3 _ _ _ _ _) (by first | exact look0 _ _ _ _ _ | exact look1 _ _ _ _ _ | exact look2 _ _ _ _ _ | exact look3 _ _ _ _ _) (by dsimp only; omega) (by dsimp only; omega) (by dsimp only; omega) (by dsimp only; omega) (by dsimp only; omega) (by dsimp only; omega), ?_, fun b hb => by simp [Loc.all] at hb; omega⟩
    · exact (((((Below.refl _ _).alloc (Nat.le_refl _) _).alloc (by simp) _).alloc (by simp only [World.size_alloc]; omega) _).alloc (by simp only [World.size_alloc]; omega) _).drew
  generalize ((((w.alloc (.cells (madeCells #[.int .i64 0] (n + 1)) 2)).alloc (.cells (madeCells #[.int .i64 0] n) 3)).alloc (.cells (madeCells #[.int .i64 0] (n + 1)) 3)).alloc (.cells #[.slice (some ⟨(w.heap.size + 1), 0, none⟩) n n, .slice (some ⟨(w.heap.size + 1 + 1), 0, none⟩) (n + 1) (n + 1), .slice (some ⟨w.heap.size, 0, none⟩) (n + 1) (n + 1)] 48)).drew = W1 at *
  rotate_left
  have HW : Hid (∃ L : Loc, L.h = w.heap.size + 1 + 1 + 1 ∧ Rep (((((w.alloc (.cells (madeCells #[.int .i64 0] (n + 1)) 2)).alloc (.cells (madeCells #[.int .i64 0] (n + 1)) 3)).alloc (.cells (madeCells #[.int .i64 0] n) 3)).alloc (.cells #[.slice (some ⟨(w.heap.size + 1 + 1), 0, none⟩) n n, .slice (some ⟨(w.heap.size + 1), 0, none⟩) (n + 1) (n + 1), .slice (some ⟨w.heap.size, 0, none⟩) (n + 1) (n + 1)] 48)).drew) L n n (fun _ => 0) (fun _ => 0) (fun _ => 0) ∧ Below w.heap.size w (((((w.alloc (.cells (madeCells #[.int .i64 0] (n + 1)) 2)).alloc (.cells (madeCells #[.int .i64 0] (n + 1)) 3)).alloc (.cells (madeCells #[.int .i64 0] n) 3)).alloc (.cells #[.slice (some ⟨(w.heap.size + 1 + 1), 0, none⟩) n n, .slice (some ⟨(w.heap.size + 1), 0, none⟩) (n + 1) (n + 1), .slice (some ⟨w.heap.size, 0, none⟩) (n + 1) (n + 1)] 48)).drew) ∧ ∀ b ∈ L.all, w.heap.size ≤ b) := by
    refine ⟨⟨w.heap.size + 1 + 1 + 1, (w.heap.size + 1 + 1), (w.heap.size + 1), w.heap.size⟩, rfl, rep_of_new (by first | exact look0 _ _ _ _ _ | exact look1 _ _ _ _ _ | exact look2 _ _ _ _ _ | exact look3 _ _ _ _ _) (by first | exact look0 _ _ _ _ _ | exact look1 _ _ _ _ _ | exact look2 _ _ _ _ _ | exact look3 _ _ _ _ _) (by first | exact look0 _ _ _ _ _ | exact look1 _ _ _ _ _ | exact look2 _ _ _ _ _ | exact look3 _ _ _ _ _) (by first | exact look0 _ _ _ _ _ | exact look1 _ _ _ _ _ | exact look2 _ _ _ _ _ | exact look3 _ _ _ _ _) (by dsimp only; omega) (by dsimp only; omega) (by dsimp only; omega) (by dsimp only; omega) (by dsimp only; omega) (by dsimp only; omega), ?_, fun b hb => by simp [Loc.all] at hb; omega⟩
    · exact (((((Below.refl _ _).alloc (Nat.le_refl _) _).alloc (by simp) _).alloc (by simp only [World.size_alloc]; omega) _).alloc (by simp only [World.size_alloc]; omega) _).drew
  generalize ((((w.alloc (.cells (madeCells #[.int .i64 0] (n + 1)) 2)).alloc (.cells (madeCells #[.int .i64 0] (n + 1)) 3)).alloc (.cells (madeCells #[.int .i64 0] n) 3)).alloc (.cells #[.slice (some ⟨(w.heap.size + 1 + 1), 0, none⟩) n n, .slice (some ⟨(w.heap.size + 1), 0, none⟩) (n + 1) (n + 1), .slice (some ⟨w.heap.size, 0, none⟩) (n + 1) (n + 1)] 48)).drew = W1 at *
  rotate_left
  all_goals
    obtain ⟨L, hLh, HR, HB, HL⟩ := HW.out
    rw [← hLh]
    have HL1 := Lib.hid HL
    have HB1 := Lib.hid HB
    have d0 := HR.c0
    have START : Hid (∃ P, Rep W1 L n n (newT 0) P (fun _ => 0) ∧ (∀ u, 1 ≤ u → u ≤ 0 → P u = (u : Int) - 1) ∧ Below w.heap.size w W1) :=
      ⟨_, HR.congr (fun _ _ => rfl) (fun _ _ => rfl) (fun _ _ => rfl), fun u h1 h2 => absurd h2 (by omega), HB⟩
    clear HW HR HB HL hLh hm1 hm2 hm3
    go_wp2_with fail
    go_loopw [27] (fun iv wr => ∃ j : Nat, iv = .int .i64 (j : Int) ∧ j ≤ n ∧ Hid (∃ P, Rep wr L n n (newT j) P (fun _ => 0) ∧ (∀ u, 1 ≤ u → u ≤ j → P u = (u : Int) - 1) ∧ Below w.heap.size w wr)) (fun iv _ => n - (intOf iv).toNat)
    case atStart => exact ⟨0, rfl, Nat.zero_le _, START⟩
    case round =>
      obtain ⟨j, rfl, hj, HH⟩ := hrel
      obtain ⟨P, r1, r2, r3⟩ := HH.out
      by_cases hlt : j < n
      · have hltz : (j : Int) < (n : Int) := by omega
        have hs := set_rep r1 j (j + 1) hlt (Nat.le_refl _) (by omega) hn
        rw [newT_step] at hs
        push_cast at hs
        have HS := Lib.hid hs
        have HRR := Lib.hid (And.intro r2 r3)
        clear hs r1 r2 r3 HH
        go_wp2_with fail
        refine HS.out.mono ?_
        rintro e w2 ⟨rfl, s1, s2⟩
        have HH2 : Hid (∃ P, Rep w2 L n n (newT (j + 1)) P (fun _ => 0) ∧ (∀ u, 1 ≤ u → u ≤ j + 1 → P u = (u : Int) - 1) ∧ Below w.heap.size w w2) := by
          refine ⟨_, s1, fun u h1 h2 => ?_, HRR.out.2.trans (s2.below HRR.out.2.size HL1.out)⟩
          by_cases q : u = j + 1
          · subst q; rw [upd_same]; omega
          · rw [upd_ne _ _ _ q]; exact HRR.out.1 u h1 (by omega)
        clear s1 s2
        go_wp2_with fail
        go_roundw
        case rel => exact ⟨j + 1, by go_num, by omega, HH2⟩
        case measure => simp [intOf]; omega
      · obtain rfl : j = n := by omega
        have hltz : ¬ (j : Int) < (j : Int) := by omega
        have HRR := Lib.hid (And.intro r1 (And.intro r2 r3))
        clear r1 r2 r3 HH
        go_wp2_with fail
        go_ret2
        obtain ⟨r1, r2, r3⟩ := HRR.out
        refine ⟨L, rfl, ⟨j, newT j, P, r1, ⟨Nat.le_refl _, fun i hi => ?_, fun v v1 v2 _ => Or.inr ⟨v - 1, by omega, by rw [r2 v v1 v2]; omega, ?_⟩, fun i hi => ?_⟩, fun x x0 xj _ => ?_, fun v v1 v2 => ?_, (cnt_all (fun _ _ _ => rfl)).symm, rfl, fun _ _ => ⟨Int.le_refl _, by show (0 : Int) ≤ _; decide⟩, hn⟩, r3, HL1.out⟩
        · unfold newT; rw [if_pos hi, r2 (i + 1) (by omega) (by omega)]; omega
        · unfold newT; rw [if_pos (by omega)]; omega
        · unfold newT; rw [if_pos hi]; omega
        · have := par_lt x0
          unfold newT; rw [bef_not, if_pos xj, if_pos (by omega)]; omega
        · rw [r2 v v1 v2]; simp; omega
end Go.Proofs.Ytanmpokfeidlcaa.Hp
