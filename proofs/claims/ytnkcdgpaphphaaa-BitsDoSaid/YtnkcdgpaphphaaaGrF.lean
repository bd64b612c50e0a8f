/- Contracts of fold, All, Any. -/
import Derived.Test.YtnkcdgpaphphaaaGrE
import Derived.Deep.OwnRows
namespace Go.Proofs.Ytnkcdgpaphphaaa.Gr
open Go Go.RowKit Go.Lib Go.Maps

/-- A slice of n values that came in, or that lies where nobody writes. -/
def ArgV (enc : Nat → Value) (w : World) (a : Option Addr) (n : Nat) : Prop :=
  n = 0 ∨ ∃ b off, a = some ⟨b, off, none⟩ ∧ b < w.heap.size ∧ ∀ j, j < n → w.cell? ⟨b, off + j, none⟩ = some (enc j)
abbrev ArgI (w : World) (a : Option Addr) (n : Nat) (Z : Nat → Int) : Prop := ArgV (fun j => .int .i64 (Z j)) w a n
theorem ArgV.below {enc : Nat → Value} {w w' : World} {a : Option Addr} {n : Nat} (h : ArgV enc w a n) (hb : Below w.heap.size w w') : ArgV enc w' a n := by
  rcases h with h | ⟨b, off, h1, h2, h3⟩
  · exact Or.inl h
  · exact Or.inr ⟨b, off, h1, Nat.lt_of_lt_of_le h2 hb.size, fun j hj => (hb.cell (by exact h2)).trans (h3 j hj)⟩

theorem RowAt.of_made {w : World} {b n : Nat} {ty : TypeId} {z : Value} {f : Nat → Value} (h : w.heap[b]? = some (.cells (madeCells #[z] n) ty (0, 0))) (hf : ∀ i, i < n → f i = z) : RowAt w b ty n f := by
  refine ⟨_, h, by simp [size_madeCells], fun i hi => ?_⟩
  rw [hf i hi]
  simp [madeCells, hi, Nat.mod_one]

/-- What the function that is folded with does. -/
structure Folds (fid : FuncId) (F : List Nd → Nat → Nat → Nat × List Nd) : Prop where
  run : ∀ (w : World) (G : Loc) (L : List Nd) (x y : Nat), Rep w G L → Wf L → x < 2 * (L.length + 1) → y < 2 * (L.length + 1) → L.length < 130000 → Calls Try.prog fid #[.pointer (some ⟨G.h, 0, none⟩), .int .i64 (x : Int), .int .i64 (y : Int)] w (OpE w G (F L x y))
  ans : ∀ (L : List Nd) (x y : Nat), Wf L → x < 2 * (L.length + 1) → y < 2 * (L.length + 1) → ∃ f, Ans L 1 (F L x y) f

def edgesN (L : List Nd) (Z : Nat → Int) (k : Nat) : List Nat := (List.range k).map fun i => own L (Z i)
theorem edgesN_succ (L : List Nd) (Z : Nat → Int) (k : Nat) : edgesN L Z (k + 1) = edgesN L Z k ++ [own L (Z k)] := by unfold edgesN; rw [List.range_succ, List.map_append]; rfl

set_option maxRecDepth 100000 in
set_option maxHeartbeats 1000000 in
theorem fold_and {F : List Nd → Nat → Nat → Nat × List Nd} (HF : Folds 18 F) {w : World} {G : Loc} {L : List Nd} (h : Rep w G L) (hW : Wf L) (r0 : Nat) (h0 : r0 ≤ 1) (a : Option Addr) (n c : Nat) (Z : Nat → Int) (ha : ArgI w a n Z) (hn : n ≤ 1000) (hZ : ∀ j, j < n → Z j ≤ 9223372036854775807) (hl : L.length < 120000) :
    Calls Try.prog 57 #[.pointer (some ⟨G.h, 0, none⟩), .int .i64 (r0 : Int), .slice a n c, .func (.func 18) #[.pointer (some ⟨G.h, 0, none⟩)] #[]] w (OpE w G (foldE F (r0, L) (edgesN L Z n))) := by
  have hm := fun W => run_make_row' (P := Try.prog) 31 3 (.int .i64 0) 8 Try.underlying31 infoInt rfl .i64 .i64 n (by omega) (by omega) W
  have HB := Lib.hid (And.intro hW (And.intro ha (And.intro hZ (And.intro hl (And.intro hn h0)))))
  have HF0 := Lib.hid HF
  have START : Hid (RowAt (w.alloc (.cells (madeCells #[.int .i64 0] n) 3)) w.heap.size 3 n (fun i => .int .i64 (if i < 0 then (own L (Z i) : Int) else 0)) ∧ Rep (w.alloc (.cells (madeCells #[.int .i64 0] n) 3)) G L ∧ Below w.heap.size w (w.alloc (.cells (madeCells #[.int .i64 0] n) 3))) :=
    ⟨RowAt.of_made (heap_alloc_new w _) (fun i _ => by simp), h.alloc _, (Below.refl _ _).alloc (Nat.le_refl _) _⟩
  have HSZ : Hid (∀ k, G.has k → k < w.heap.size) := h.lt
  clear h hW ha hZ HF h0
  go_enter Try.func57, Try.ntmps57
  go_wp2_with fail
  go_loopw [10, 11, 19] (fun _ _ iv wr => ∃ k : Nat, iv = .int .i64 (k : Int) ∧ k ≤ n ∧ Hid (RowAt wr w.heap.size 3 n (fun i => .int .i64 (if i < k then (own L (Z i) : Int) else 0)) ∧ Rep wr G L ∧ Below w.heap.size w wr)) (fun _ _ iv _ => n - (intOf iv).toNat)
  case atStart => exact ⟨0, rfl, Nat.zero_le _, START⟩
  case round =>
    obtain ⟨k, rfl, hk, HH⟩ := hrel
    obtain ⟨r1, r2, r3⟩ := HH.out
    by_cases hlt : k < n
    · obtain ⟨b, off, rfl, hb, hc⟩ := (HB.out.2.1).resolve_left (by omega)
      have hlz : (k : Int) < (n : Int) := by omega
      have k0 : (0 : Int) ≤ (k : Int) := by omega
      have ck : wr.cell? ⟨b, off + k, none⟩ = some (.int .i64 (Z k)) := (r3.cell (p := ⟨b, off + k, none⟩) hb).trans (hc k hlt)
      have HO := Lib.hid (own_any r2 (Z k) (HB.out.2.2.1 k hlt) (by omega))
      have fz := r1.free k
      have cc := r1.cell hlt
      have hne : ∀ x, G.has x → x ≠ w.heap.size := fun x hx e => by have := HSZ.out x hx; omega
      have HH2 : Hid (RowAt (wr.setCell ⟨w.heap.size, k, none⟩ (.int .i64 (own L (Z k) : Int))) w.heap.size 3 n (fun i => .int .i64 (if i < k + 1 then (own L (Z i) : Int) else 0)) ∧ Rep (wr.setCell ⟨w.heap.size, k, none⟩ (.int .i64 (own L (Z k) : Int))) G L ∧ Below w.heap.size w (wr.setCell ⟨w.heap.size, k, none⟩ (.int .i64 (own L (Z k) : Int)))) := by
        refine ⟨(r1.set k _).congr fun i hi => ?_, r2.of_heap fun x hx => Below.heap_setCell _ _ _ _ (hne x hx), r3.setCell (Nat.le_refl _) _⟩
        by_cases e : i = k
        · subst e; rw [upd_same, if_pos (by omega)]
        · rw [upd_ne _ _ _ e]
          by_cases q : i < k
          · rw [if_pos q, if_pos (by omega)]
          · rw [if_neg q, if_neg (by omega)]
      generalize (own L (Z k) : Int) = u at *
      generalize Z k = z at *
      clear HH r1 r2 r3 hc hb hne
      go_wp2_with fail
      refine HO.out.mono ?_
      rintro e w' ⟨rfl, rfl⟩
      go_wp2_with fail
      go_roundw
      case rel => exact ⟨k + 1, by go_num, by omega, HH2⟩
      case measure => simp [intOf]; omega
    · obtain rfl : k = n := by omega
      have hlz : ¬ (k : Int) < (k : Int) := by omega
      have START2 : Hid (∃ G', Rep wr G' (foldE F (r0, L) (edgesN L Z 0)).2 ∧ Wf (foldE F (r0, L) (edgesN L Z 0)).2 ∧ (foldE F (r0, L) (edgesN L Z 0)).1 < 2 * ((foldE F (r0, L) (edgesN L Z 0)).2.length + 1) ∧ L.length ≤ (foldE F (r0, L) (edgesN L Z 0)).2.length ∧ (foldE F (r0, L) (edgesN L Z 0)).2.length ≤ L.length + 0 ∧ RowAt wr w.heap.size 3 k (fun i => .int .i64 (own L (Z i) : Int)) ∧ Fr G wr wr G') :=
        ⟨G, r2, HB.out.1, by show r0 < _; have := HB.out.2.2.2.2.2; omega, Nat.le_refl _, Nat.le_refl _, r1.congr fun i hi => by rw [if_pos hi], Fr.refl _ _⟩
      have HGH : Hid (r0 = (foldE F (r0, L) (edgesN L Z 0)).1) := rfl
      have HW1 : Hid (Below w.heap.size w wr ∧ w.heap.size < wr.heap.size) := ⟨r3, r1.lt⟩
      clear HH r1 r2 r3
      obtain ⟨W1, hW1⟩ : ∃ W1, W1 = wr := ⟨_, rfl⟩
      subst hW1
      go_wp2_with fail
      go_loopw [1, 13, 33] (fun rv _ iv wr => ∃ j : Nat, rv = .int .i64 ((foldE F (r0, L) (edgesN L Z j)).1 : Int) ∧ iv = .int .i64 (j : Int) ∧ j ≤ k ∧ Hid (∃ G', Rep wr G' (foldE F (r0, L) (edgesN L Z j)).2 ∧ Wf (foldE F (r0, L) (edgesN L Z j)).2 ∧ (foldE F (r0, L) (edgesN L Z j)).1 < 2 * ((foldE F (r0, L) (edgesN L Z j)).2.length + 1) ∧ L.length ≤ (foldE F (r0, L) (edgesN L Z j)).2.length ∧ (foldE F (r0, L) (edgesN L Z j)).2.length ≤ L.length + j ∧ RowAt wr w.heap.size 3 k (fun i => .int .i64 (own L (Z i) : Int)) ∧ Fr G W1 wr G')) (fun _ _ iv _ => k - (intOf iv).toNat)
      case atStart => exact ⟨0, by rw [← HGH.out], rfl, Nat.zero_le _, START2⟩
      case round =>
        obtain ⟨j, rfl, rfl, hj, HH⟩ := hrel
        by_cases hlt : j < k
        · have hlz2 : (j : Int) < (k : Int) := by omega
          have j0 : (0 : Int) ≤ (j : Int) := by omega
          obtain ⟨G', r1, r2, r3, r4, r5, r6, r7⟩ := HH.out
          have cc : wr.cell? ⟨w.heap.size, j, none⟩ = some (.int .i64 (own L (Z j) : Int)) := r6.cell hlt
          have hol := own_lt L (Z j)
          have HC := HF0.out.run wr G' _ _ (own L (Z j)) r1 r2 r3 (by omega) (by have := HB.out.2.2.2.1; omega)
          obtain ⟨f, HA⟩ := HF0.out.ans _ _ (own L (Z j)) r2 r3 (by omega)
          have hEq : foldE F (r0, L) (edgesN L Z (j + 1)) = F (foldE F (r0, L) (edgesN L Z j)).2 (foldE F (r0, L) (edgesN L Z j)).1 (own L (Z j)) := by rw [edgesN_succ, foldE_snoc]
          rw [← hEq] at HC HA
          rw [r7.h] at HC
          have hA1 := HA.wf
          have hA2 := HA.own
          have hA3 := HA.le
          have hA4 := HA.lenle
          have HN : Hid (∀ w2 e, OpE wr G' (foldE F (r0, L) (edgesN L Z (j + 1))) e w2 → e = .returned (.int .i64 ((foldE F (r0, L) (edgesN L Z (j + 1))).1 : Int)) ∧ Hid (∃ G', Rep w2 G' (foldE F (r0, L) (edgesN L Z (j + 1))).2 ∧ Wf (foldE F (r0, L) (edgesN L Z (j + 1))).2 ∧ (foldE F (r0, L) (edgesN L Z (j + 1))).1 < 2 * ((foldE F (r0, L) (edgesN L Z (j + 1))).2.length + 1) ∧ L.length ≤ (foldE F (r0, L) (edgesN L Z (j + 1))).2.length ∧ (foldE F (r0, L) (edgesN L Z (j + 1))).2.length ≤ L.length + (j + 1) ∧ RowAt w2 w.heap.size 3 k (fun i => .int .i64 (own L (Z i) : Int)) ∧ Fr G W1 w2 G')) := by
            rintro w2 e ⟨he, G2, s1, s2⟩
            refine ⟨he, G2, s1, hA1, hA2, by omega, by omega, r6.of_heap (s2.block _ r6.lt fun q => ?_), r7.trans s2⟩
            rcases r7.own _ q with q | q
            · have := HSZ.out _ q; omega
            · have := HW1.out.2; omega
          have HCC := Lib.hid HC
          clear HC HA hEq hA1 hA2 hA3 hA4 r1 r2 r3 r4 r5 r6 r7 HH hol
          generalize (own L (Z j) : Int) = u at *
          go_wp2_with fail
          refine HCC.out.mono ?_
          intro e w2 hop
          obtain ⟨rfl, HH2⟩ := HN.out w2 e hop
          clear HCC HN hop
          go_wp2_with fail
          go_roundw
          case rel => exact ⟨j + 1, rfl, by go_num, by omega, HH2⟩
          case measure => simp [intOf]; omega
        · obtain rfl : j = k := by omega
          have hlz2 : ¬ (j : Int) < (j : Int) := by omega
          obtain ⟨G', r1, r2, r3, r4, r5, r6, r7⟩ := HH.out
          have HFIN : Hid (OpE w G (foldE F (r0, L) (edgesN L Z j)) (.returned (.int .i64 ((foldE F (r0, L) (edgesN L Z j)).1 : Int))) wr) := ⟨rfl, G', r1, (Fr.ofBelow HW1.out.1).trans r7⟩
          clear HH r1 r2 r3 r4 r5 r6 r7
          go_wp2_with fail
          go_ret
          exact HFIN.out
set_option maxRecDepth 100000 in
set_option maxHeartbeats 1000000 in
theorem fold_or {F : List Nd → Nat → Nat → Nat × List Nd} (HF : Folds 26 F) {w : World} {G : Loc} {L : List Nd} (h : Rep w G L) (hW : Wf L) (r0 : Nat) (h0 : r0 ≤ 1) (a : Option Addr) (n c : Nat) (Z : Nat → Int) (ha : ArgI w a n Z) (hn : n ≤ 1000) (hZ : ∀ j, j < n → Z j ≤ 9223372036854775807) (hl : L.length < 120000) :
    Calls Try.prog 57 #[.pointer (some ⟨G.h, 0, none⟩), .int .i64 (r0 : Int), .slice a n c, .func (.func 26) #[.pointer (some ⟨G.h, 0, none⟩)] #[]] w (OpE w G (foldE F (r0, L) (edgesN L Z n))) := by
  have hm := fun W => run_make_row' (P := Try.prog) 31 3 (.int .i64 0) 8 Try.underlying31 infoInt rfl .i64 .i64 n (by omega) (by omega) W
  have HB := Lib.hid (And.intro hW (And.intro ha (And.intro hZ (And.intro hl (And.intro hn h0)))))
  have HF0 := Lib.hid HF
  have START : Hid (RowAt (w.alloc (.cells (madeCells #[.int .i64 0] n) 3)) w.heap.size 3 n (fun i => .int .i64 (if i < 0 then (own L (Z i) : Int) else 0)) ∧ Rep (w.alloc (.cells (madeCells #[.int .i64 0] n) 3)) G L ∧ Below w.heap.size w (w.alloc (.cells (madeCells #[.int .i64 0] n) 3))) :=
    ⟨RowAt.of_made (heap_alloc_new w _) (fun i _ => by simp), h.alloc _, (Below.refl _ _).alloc (Nat.le_refl _) _⟩
  have HSZ : Hid (∀ k, G.has k → k < w.heap.size) := h.lt
  clear h hW ha hZ HF h0
  go_enter Try.func57, Try.ntmps57
  go_wp2_with fail
  go_loopw [10, 11, 19] (fun _ _ iv wr => ∃ k : Nat, iv = .int .i64 (k : Int) ∧ k ≤ n ∧ Hid (RowAt wr w.heap.size 3 n (fun i => .int .i64 (if i < k then (own L (Z i) : Int) else 0)) ∧ Rep wr G L ∧ Below w.heap.size w wr)) (fun _ _ iv _ => n - (intOf iv).toNat)
  case atStart => exact ⟨0, rfl, Nat.zero_le _, START⟩
  case round =>
    obtain ⟨k, rfl, hk, HH⟩ := hrel
    obtain ⟨r1, r2, r3⟩ := HH.out
    by_cases hlt : k < n
    · obtain ⟨b, off, rfl, hb, hc⟩ := (HB.out.2.1).resolve_left (by omega)
      have hlz : (k : Int) < (n : Int) := by omega
      have k0 : (0 : Int) ≤ (k : Int) := by omega
      have ck : wr.cell? ⟨b, off + k, none⟩ = some (.int .i64 (Z k)) := (r3.cell (p := ⟨b, off + k, none⟩) hb).trans (hc k hlt)
      have HO := Lib.hid (own_any r2 (Z k) (HB.out.2.2.1 k hlt) (by omega))
      have fz := r1.free k
      have cc := r1.cell hlt
      have hne : ∀ x, G.has x → x ≠ w.heap.size := fun x hx e => by have := HSZ.out x hx; omega
      have HH2 : Hid (RowAt (wr.setCell ⟨w.heap.size, k, none⟩ (.int .i64 (own L (Z k) : Int))) w.heap.size 3 n (fun i => .int .i64 (if i < k + 1 then (own L (Z i) : Int) else 0)) ∧ Rep (wr.setCell ⟨w.heap.size, k, none⟩ (.int .i64 (own L (Z k) : Int))) G L ∧ Below w.heap.size w (wr.setCell ⟨w.heap.size, k, none⟩ (.int .i64 (own L (Z k) : Int)))) := by
        refine ⟨(r1.set k _).congr fun i hi => ?_, r2.of_heap fun x hx => Below.heap_setCell _ _ _ _ (hne x hx), r3.setCell (Nat.le_refl _) _⟩
        by_cases e : i = k
        · subst e; rw [upd_same, if_pos (by omega)]
        · rw [upd_ne _ _ _ e]
          by_cases q : i < k
          · rw [if_pos q, if_pos (by omega)]
          · rw [if_neg q, if_neg (by omega)]
      generalize (own L (Z k) : Int) = u at *
      generalize Z k = z at *
      clear HH r1 r2 r3 hc hb hne
      go_wp2_with fail
      refine HO.out.mono ?_
      rintro e w' ⟨rfl, rfl⟩
      go_wp2_with fail
      go_roundw
      case rel => exact ⟨k + 1, by go_num, by omega, HH2⟩
      case measure => simp [intOf]; omega
    · obtain rfl : k = n := by omega
      have hlz : ¬ (k : Int) < (k : Int) := by omega
      have START2 : Hid (∃ G', Rep wr G' (foldE F (r0, L) (edgesN L Z 0)).2 ∧ Wf (foldE F (r0, L) (edgesN L Z 0)).2 ∧ (foldE F (r0, L) (edgesN L Z 0)).1 < 2 * ((foldE F (r0, L) (edgesN L Z 0)).2.length + 1) ∧ L.length ≤ (foldE F (r0, L) (edgesN L Z 0)).2.length ∧ (foldE F (r0, L) (edgesN L Z 0)).2.length ≤ L.length + 0 ∧ RowAt wr w.heap.size 3 k (fun i => .int .i64 (own L (Z i) : Int)) ∧ Fr G wr wr G') :=
        ⟨G, r2, HB.out.1, by show r0 < _; have := HB.out.2.2.2.2.2; omega, Nat.le_refl _, Nat.le_refl _, r1.congr fun i hi => by rw [if_pos hi], Fr.refl _ _⟩
      have HGH : Hid (r0 = (foldE F (r0, L) (edgesN L Z 0)).1) := rfl
      have HW1 : Hid (Below w.heap.size w wr ∧ w.heap.size < wr.heap.size) := ⟨r3, r1.lt⟩
      clear HH r1 r2 r3
      obtain ⟨W1, hW1⟩ : ∃ W1, W1 = wr := ⟨_, rfl⟩
      subst hW1
      go_wp2_with fail
      go_loopw [1, 13, 33] (fun rv _ iv wr => ∃ j : Nat, rv = .int .i64 ((foldE F (r0, L) (edgesN L Z j)).1 : Int) ∧ iv = .int .i64 (j : Int) ∧ j ≤ k ∧ Hid (∃ G', Rep wr G' (foldE F (r0, L) (edgesN L Z j)).2 ∧ Wf (foldE F (r0, L) (edgesN L Z j)).2 ∧ (foldE F (r0, L) (edgesN L Z j)).1 < 2 * ((foldE F (r0, L) (edgesN L Z j)).2.length + 1) ∧ L.length ≤ (foldE F (r0, L) (edgesN L Z j)).2.length ∧ (foldE F (r0, L) (edgesN L Z j)).2.length ≤ L.length + j ∧ RowAt wr w.heap.size 3 k (fun i => .int .i64 (own L (Z i) : Int)) ∧ Fr G W1 wr G')) (fun _ _ iv _ => k - (intOf iv).toNat)
      case atStart => exact ⟨0, by rw [← HGH.out], rfl, Nat.zero_le _, START2⟩
      case round =>
        obtain ⟨j, rfl, rfl, hj, HH⟩ := hrel
        by_cases hlt : j < k
        · have hlz2 : (j : Int) < (k : Int) := by omega
          have j0 : (0 : Int) ≤ (j : Int) := by omega
          obtain ⟨G', r1, r2, r3, r4, r5, r6, r7⟩ := HH.out
          have cc : wr.cell? ⟨w.heap.size, j, none⟩ = some (.int .i64 (own L (Z j) : Int)) := r6.cell hlt
          have hol := own_lt L (Z j)
          have HC := HF0.out.run wr G' _ _ (own L (Z j)) r1 r2 r3 (by omega) (by have := HB.out.2.2.2.1; omega)
          obtain ⟨f, HA⟩ := HF0.out.ans _ _ (own L (Z j)) r2 r3 (by omega)
          have hEq : foldE F (r0, L) (edgesN L Z (j + 1)) = F (foldE F (r0, L) (edgesN L Z j)).2 (foldE F (r0, L) (edgesN L Z j)).1 (own L (Z j)) := by rw [edgesN_succ, foldE_snoc]
          rw [← hEq] at HC HA
          rw [r7.h] at HC
          have hA1 := HA.wf
          have hA2 := HA.own
          have hA3 := HA.le
          have hA4 := HA.lenle
          have HN : Hid (∀ w2 e, OpE wr G' (foldE F (r0, L) (edgesN L Z (j + 1))) e w2 → e = .returned (.int .i64 ((foldE F (r0, L) (edgesN L Z (j + 1))).1 : Int)) ∧ Hid (∃ G', Rep w2 G' (foldE F (r0, L) (edgesN L Z (j + 1))).2 ∧ Wf (foldE F (r0, L) (edgesN L Z (j + 1))).2 ∧ (foldE F (r0, L) (edgesN L Z (j + 1))).1 < 2 * ((foldE F (r0, L) (edgesN L Z (j + 1))).2.length + 1) ∧ L.length ≤ (foldE F (r0, L) (edgesN L Z (j + 1))).2.length ∧ (foldE F (r0, L) (edgesN L Z (j + 1))).2.length ≤ L.length + (j + 1) ∧ RowAt w2 w.heap.size 3 k (fun i => .int .i64 (own L (Z i) : Int)) ∧ Fr G W1 w2 G')) := by
            rintro w2 e ⟨he, G2, s1, s2⟩
            refine ⟨he, G2, s1, hA1, hA2, by omega, by omega, r6.of_heap (s2.block _ r6.lt fun q => ?_), r7.trans s2⟩
            rcases r7.own _ q with q | q
            · have := HSZ.out _ q; omega
            · have := HW1.out.2; omega
          have HCC := Lib.hid HC
          clear HC HA hEq hA1 hA2 hA3 hA4 r1 r2 r3 r4 r5 r6 r7 HH hol
          generalize (own L (Z j) : Int) = u at *
          go_wp2_with fail
          refine HCC.out.mono ?_
          intro e w2 hop
          obtain ⟨rfl, HH2⟩ := HN.out w2 e hop
          clear HCC HN hop
          go_wp2_with fail
          go_roundw
          case rel => exact ⟨j + 1, rfl, by go_num, by omega, HH2⟩
          case measure => simp [intOf]; omega
        · obtain rfl : j = k := by omega
          have hlz2 : ¬ (j : Int) < (j : Int) := by omega
          obtain ⟨G', r1, r2, r3, r4, r5, r6, r7⟩ := HH.out
          have HFIN : Hid (OpE w G (foldE F (r0, L) (edgesN L Z j)) (.returned (.int .i64 ((foldE F (r0, L) (edgesN L Z j)).1 : Int))) wr) := ⟨rfl, G', r1, (Fr.ofBelow HW1.out.1).trans r7⟩
          clear HH r1 r2 r3 r4 r5 r6 r7
          go_wp2_with fail
          go_ret
          exact HFIN.out
theorem folds_and : Folds 18 andE where
  run w G L x y h _ hx hy hl := by
    have := And_any h (x : Int) (y : Int) (by omega) (by omega) (by omega)
    rwa [own_nat hx, own_nat hy] at this
  ans L x y hW hx hy := ⟨_, andE_ans hW hx hy⟩
theorem folds_or : Folds 26 orE where
  run w G L x y h hW hx hy hl := by
    have := Or_any h hW (x : Int) (y : Int) (by omega) (by omega) (by omega)
    rwa [own_nat hx, own_nat hy] at this
  ans L x y hW hx hy := ⟨_, orE_ans hW hx hy⟩

set_option maxHeartbeats 1000000 in
theorem All_any {w : World} {G : Loc} {L : List Nd} (h : Rep w G L) (hW : Wf L) (a : Option Addr) (n c : Nat) (Z : Nat → Int) (ha : ArgI w a n Z) (hn : n ≤ 1000) (hZ : ∀ j, j < n → Z j ≤ 9223372036854775807) (hl : L.length < 120000) :
    Calls Try.prog 25 #[.pointer (some ⟨G.h, 0, none⟩), .slice a n c] w (OpE w G (allE L (edgesN L Z n))) := by
  have HF := Lib.hid (fold_and folds_and h hW 1 (by omega) a n c Z ha hn hZ hl)
  clear h hW ha hn hZ hl
  go_enter Try.func25, Try.ntmps25
  go_wp2_with fail
  refine HF.out.mono ?_
  intro e w3 hop
  have HP : Hid (OpE w G (allE L (edgesN L Z n)) e w3) := hop
  obtain ⟨rfl, _⟩ := hop.thenE
  clear hop
  go_wp2_with fail
  go_ret
  exact HP.out
set_option maxHeartbeats 1000000 in
theorem Any_any {w : World} {G : Loc} {L : List Nd} (h : Rep w G L) (hW : Wf L) (a : Option Addr) (n c : Nat) (Z : Nat → Int) (ha : ArgI w a n Z) (hn : n ≤ 1000) (hZ : ∀ j, j < n → Z j ≤ 9223372036854775807) (hl : L.length < 120000) :
    Calls Try.prog 29 #[.pointer (some ⟨G.h, 0, none⟩), .slice a n c] w (OpE w G (anyE L (edgesN L Z n))) := by
  have HF := Lib.hid (fold_or folds_or h hW 0 (by omega) a n c Z ha hn hZ hl)
  clear h hW ha hn hZ hl
  go_enter Try.func29, Try.ntmps29
  go_wp2_with fail
  refine HF.out.mono ?_
  intro e w3 hop
  have HP : Hid (OpE w G (anyE L (edgesN L Z n)) e w3) := hop
  obtain ⟨rfl, _⟩ := hop.thenE
  clear hop
  go_wp2_with fail
  go_ret
  exact HP.out
end Go.Proofs.Ytnkcdgpaphphaaa.Gr
