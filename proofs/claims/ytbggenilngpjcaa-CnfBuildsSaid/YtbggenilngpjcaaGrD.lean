/- Contracts of And, Input. -/
import Derived.Test.YtbggenilngpjcaaGrC
namespace Go.Proofs.Ytbggenilngpjcaa.Gr
open Go Go.RowKit Go.Lib Go.Maps

theorem quiet_same {P : Program} {f : FuncId} {args : Array Value} {w : World} {n : Nat} {v : Value}
    (h : Calls P f args (w.drewN n) fun e w' => e = .returned v ∧ w.drewN n = w') : Calls P f args (w.drewN n) fun e w'' => e = .returned v ∧ ∃ m, w'' = w.drewN m :=
  h.mono fun _ _ ⟨p, q⟩ => ⟨p, n, q.symm⟩

theorem andP_eq (L : List Nd) (a b : Nat) : andP L a b = if a = 0 ∨ a = neg b then (0, L) else if a = 1 ∨ a = b then (b, L) else jn L (a, b) := rfl
theorem OpE.pre {w w1 : World} {G : Loc} {r : Nat × List Nd} {e : Ending} {w' : World} (h : OpE w1 G r e w') (f : Fr G w w1 G) : OpE w G r e w' := by
  obtain ⟨h1, G', h2, h3⟩ := h; exact ⟨h1, G', h2, f.trans h3⟩

set_option maxRecDepth 100000 in
set_option maxHeartbeats 4000000 in
theorem And_lt {w : World} {G : Loc} {L : List Nd} (h : Rep w G L) (x y : Int) (hx : x ≤ 9223372036854775807) (hy : y ≤ 9223372036854775807) (hl : L.length < 150000) (hc : own L x < own L y) :
    Calls Try.prog 23 #[.pointer (some ⟨G.h, 0, none⟩), .int .i64 x, .int .i64 y] w (OpE w G (andE L (own L x) (own L y))) := by
  have HX := Lib.hid (own_any h x hx (by omega))
  have HY := Lib.hid (own_any h y hy (by omega))
  have ha := own_lt L x
  have hb := own_lt L y
  have HE0 : Hid (andE L (own L x) (own L y) = andP L (min (own L x) (own L y)) (max (own L x) (own L y))) := rfl
  generalize own L x = a at *
  generalize own L y = b at *
  have f1 : (a : Int) ≤ (b : Int) := by omega
  have f2 : (a : Int) < (b : Int) := by omega
  have f3 : ¬ (b : Int) ≤ (a : Int) := by omega
  have f4 : ¬ (b : Int) < (a : Int) := by omega
  have HE1 : Hid (andE L a b = andP L a b) := by rw [Hid, HE0.out, Nat.min_eq_left (by omega), Nat.max_eq_right (by omega)]
  have HR : Hid (Rep (w.alloc (.cells #[.int .i64 (a : Int), .int .i64 (b : Int)] 69)) G L) := h.alloc _
  have HF : Hid (Fr G w (w.alloc (.cells #[.int .i64 (a : Int), .int .i64 (b : Int)] 69)) G) := Fr.alloc _ _ _
  have HXX : (w.alloc (.cells #[.int .i64 (a : Int), .int .i64 (b : Int)] 69)).heap[w.heap.size]? = some (.cells #[.int .i64 (a : Int), .int .i64 (b : Int)] 69 (0, 0)) := heap_alloc_new w _
  have hx0 : (w.alloc (.cells #[.int .i64 (a : Int), .int .i64 (b : Int)] 69)).cell? ⟨w.heap.size, 0, none⟩ = some (.int .i64 (a : Int)) := by simp only [World.cell?, HXX]; rfl
  have hx1 : (w.alloc (.cells #[.int .i64 (a : Int), .int .i64 (b : Int)] 69)).cell? ⟨w.heap.size, 1, none⟩ = some (.int .i64 (b : Int)) := by simp only [World.cell?, HXX]; rfl
  have HN : Hid (∀ w2, Calls Try.prog 22 #[.int .i64 (b : Int)] w2 fun r w' => r = .returned (.int .i64 (neg b : Int)) ∧ w2 = w') := fun w2 => Not_any b w2 (by omega)
  have HJ : Hid (∀ q, Calls Try.prog 40 #[.pointer (some ⟨G.h, 0, none⟩), .agg #[.int .i64 (a : Int), .int .i64 (b : Int)]] ((w.alloc (.cells #[.int .i64 (a : Int), .int .i64 (b : Int)] 69)).drewN q) (OpE ((w.alloc (.cells #[.int .i64 (a : Int), .int .i64 (b : Int)] 69)).drewN q) G (jn L (a, b)))) := fun q => join_any (HR.out.drewN q) a b (by omega) (by omega) hl
  have HFIN : Hid (∀ q r, andE L a b = (r, L) → OpE w G (andE L a b) (.returned (.int .i64 (r : Int))) ((w.alloc (.cells #[.int .i64 (a : Int), .int .i64 (b : Int)] 69)).drewN q)) := fun q r e => by
    rw [e]; exact ⟨rfl, G, HR.out.drewN q, HF.out.drewN q⟩
  have HC := Lib.hid hc
  clear h HXX ha hb hl hc
  by_cases c0 : a = 0
  · have e0 : ((a : Int) == 0) = true := by simp [c0]
    have HE : Hid (andE L a b = (0, L)) := by rw [Hid, HE1.out, andP_eq, if_pos (Or.inl c0)]
    clear c0
    go_enter Try.func23, Try.ntmps23
    go_wp2_with fail
    refine HX.out.mono ?_
    rintro e w' ⟨rfl, rfl⟩
    go_wp2_with fail
    refine HY.out.mono ?_
    rintro e w' ⟨rfl, rfl⟩
    go_wp2_with fail
    go_quiet ((go_at_call 22; exact quiet_same (HN.out _)))
    go_wp2_with fail
    go_ret
    exact HFIN.out _ _ HE.out
  · have e0 : ((a : Int) == 0) = false := by simp; omega
    by_cases c1 : a = neg b
    · have e1 : ((a : Int) == (neg b : Int)) = true := by rw [← c1]; simp
      have HE : Hid (andE L a b = (0, L)) := by rw [Hid, HE1.out, andP_eq, if_pos (Or.inr c1)]
      generalize neg b = nb at *
      clear c0 c1
      go_enter Try.func23, Try.ntmps23
      go_wp2_with fail
      refine HX.out.mono ?_
      rintro e w' ⟨rfl, rfl⟩
      go_wp2_with fail
      refine HY.out.mono ?_
      rintro e w' ⟨rfl, rfl⟩
      go_wp2_with fail
      go_quiet ((go_at_call 22; exact quiet_same (HN.out _)))
      go_wp2_with fail
      go_ret
      exact HFIN.out _ _ HE.out
    · have e1 : ((a : Int) == (neg b : Int)) = false := by simp; omega
      have HC1 := Lib.hid (And.intro c0 c1)
      by_cases c2 : a = 1
      · have e2 : ((a : Int) == 1) = true := by simp [c2]
        have HE : Hid (andE L a b = (b, L)) := by rw [Hid, HE1.out, andP_eq, if_neg (by omega), if_pos (Or.inl c2)]
        generalize neg b = nb at *
        clear c0 c1 c2
        go_enter Try.func23, Try.ntmps23
        go_wp2_with fail
        refine HX.out.mono ?_
        rintro e w' ⟨rfl, rfl⟩
        go_wp2_with fail
        refine HY.out.mono ?_
        rintro e w' ⟨rfl, rfl⟩
        go_wp2_with fail
        go_quiet ((go_at_call 22; exact quiet_same (HN.out _)))
        go_wp2_with fail
        go_ret
        exact HFIN.out _ _ HE.out
      · have e2 : ((a : Int) == 1) = false := by simp; omega
        have e3 : ((a : Int) == (b : Int)) = false := by have := HC.out; simp; omega
        have HE : Hid (andE L a b = jn L (a, b)) := by rw [Hid, HE1.out, andP_eq, if_neg (by omega), if_neg (by have := HC.out; omega)]
        generalize neg b = nb at *
        clear c0 c1 c2 HFIN
        go_enter Try.func23, Try.ntmps23
        go_wp2_with fail
        refine HX.out.mono ?_
        rintro e w' ⟨rfl, rfl⟩
        go_wp2_with fail
        refine HY.out.mono ?_
        rintro e w' ⟨rfl, rfl⟩
        go_wp2_with fail
        go_quiet ((go_at_call 22; exact quiet_same (HN.out _)))
        go_wp2_with fail
        have HJQ := Lib.hid (HJ.out nq)
        have HFQ := Lib.hid (HF.out.drewN nq)
        refine HJQ.out.mono ?_
        rintro e w2 ⟨rfl, G2, r1, r2⟩
        have HFF : Hid (OpE w G (andE L a b) (.returned (.int .i64 ((jn L (a, b)).1 : Int))) w2) := by
          rw [HE.out]; exact ⟨rfl, G2, r1, HFQ.out.trans r2⟩
        clear r1 r2 HJQ HFQ HJ
        go_wp2_with fail
        go_ret
        exact HFF.out

set_option maxRecDepth 100000 in
set_option maxHeartbeats 4000000 in
theorem And_gt {w : World} {G : Loc} {L : List Nd} (h : Rep w G L) (x y : Int) (hx : x ≤ 9223372036854775807) (hy : y ≤ 9223372036854775807) (hl : L.length < 150000) (hc : own L y < own L x) :
    Calls Try.prog 23 #[.pointer (some ⟨G.h, 0, none⟩), .int .i64 x, .int .i64 y] w (OpE w G (andE L (own L x) (own L y))) := by
  have HX := Lib.hid (own_any h x hx (by omega))
  have HY := Lib.hid (own_any h y hy (by omega))
  have ha := own_lt L x
  have hb := own_lt L y
  have HE0 : Hid (andE L (own L x) (own L y) = andP L (min (own L x) (own L y)) (max (own L x) (own L y))) := rfl
  generalize own L x = a at *
  generalize own L y = b at *
  have f1 : (b : Int) ≤ (a : Int) := by omega
  have f2 : (b : Int) < (a : Int) := by omega
  have f3 : ¬ (a : Int) ≤ (b : Int) := by omega
  have f4 : ¬ (a : Int) < (b : Int) := by omega
  have HE1 : Hid (andE L a b = andP L b a) := by rw [Hid, HE0.out, Nat.min_eq_right (by omega), Nat.max_eq_left (by omega)]
  have HR : Hid (Rep (w.alloc (.cells #[.int .i64 (b : Int), .int .i64 (a : Int)] 69)) G L) := h.alloc _
  have HF : Hid (Fr G w (w.alloc (.cells #[.int .i64 (b : Int), .int .i64 (a : Int)] 69)) G) := Fr.alloc _ _ _
  have HXX : (w.alloc (.cells #[.int .i64 (b : Int), .int .i64 (a : Int)] 69)).heap[w.heap.size]? = some (.cells #[.int .i64 (b : Int), .int .i64 (a : Int)] 69 (0, 0)) := heap_alloc_new w _
  have hx0 : (w.alloc (.cells #[.int .i64 (b : Int), .int .i64 (a : Int)] 69)).cell? ⟨w.heap.size, 0, none⟩ = some (.int .i64 (b : Int)) := by simp only [World.cell?, HXX]; rfl
  have hx1 : (w.alloc (.cells #[.int .i64 (b : Int), .int .i64 (a : Int)] 69)).cell? ⟨w.heap.size, 1, none⟩ = some (.int .i64 (a : Int)) := by simp only [World.cell?, HXX]; rfl
  have HN : Hid (∀ w2, Calls Try.prog 22 #[.int .i64 (a : Int)] w2 fun r w' => r = .returned (.int .i64 (neg a : Int)) ∧ w2 = w') := fun w2 => Not_any a w2 (by omega)
  have HJ : Hid (∀ q, Calls Try.prog 40 #[.pointer (some ⟨G.h, 0, none⟩), .agg #[.int .i64 (b : Int), .int .i64 (a : Int)]] ((w.alloc (.cells #[.int .i64 (b : Int), .int .i64 (a : Int)] 69)).drewN q) (OpE ((w.alloc (.cells #[.int .i64 (b : Int), .int .i64 (a : Int)] 69)).drewN q) G (jn L (b, a)))) := fun q => join_any (HR.out.drewN q) b a (by omega) (by omega) hl
  have HFIN : Hid (∀ q r, andE L a b = (r, L) → OpE w G (andE L a b) (.returned (.int .i64 (r : Int))) ((w.alloc (.cells #[.int .i64 (b : Int), .int .i64 (a : Int)] 69)).drewN q)) := fun q r e => by
    rw [e]; exact ⟨rfl, G, HR.out.drewN q, HF.out.drewN q⟩
  have HC := Lib.hid hc
  clear h HXX ha hb hl hc
  by_cases c0 : b = 0
  · have e0 : ((b : Int) == 0) = true := by simp [c0]
    have HE : Hid (andE L a b = (0, L)) := by rw [Hid, HE1.out, andP_eq, if_pos (Or.inl c0)]
    clear c0
    go_enter Try.func23, Try.ntmps23
    go_wp2_with fail
    refine HX.out.mono ?_
    rintro e w' ⟨rfl, rfl⟩
    go_wp2_with fail
    refine HY.out.mono ?_
    rintro e w' ⟨rfl, rfl⟩
    go_wp2_with fail
    go_quiet ((go_at_call 22; exact quiet_same (HN.out _)))
    go_wp2_with fail
    go_ret
    exact HFIN.out _ _ HE.out
  · have e0 : ((b : Int) == 0) = false := by simp; omega
    by_cases c1 : b = neg a
    · have e1 : ((b : Int) == (neg a : Int)) = true := by rw [← c1]; simp
      have HE : Hid (andE L a b = (0, L)) := by rw [Hid, HE1.out, andP_eq, if_pos (Or.inr c1)]
      generalize neg a = nb at *
      clear c0 c1
      go_enter Try.func23, Try.ntmps23
      go_wp2_with fail
      refine HX.out.mono ?_
      rintro e w' ⟨rfl, rfl⟩
      go_wp2_with fail
      refine HY.out.mono ?_
      rintro e w' ⟨rfl, rfl⟩
      go_wp2_with fail
      go_quiet ((go_at_call 22; exact quiet_same (HN.out _)))
      go_wp2_with fail
      go_ret
      exact HFIN.out _ _ HE.out
    · have e1 : ((b : Int) == (neg a : Int)) = false := by simp; omega
      have HC1 := Lib.hid (And.intro c0 c1)
      by_cases c2 : b = 1
      · have e2 : ((b : Int) == 1) = true := by simp [c2]
        have HE : Hid (andE L a b = (a, L)) := by rw [Hid, HE1.out, andP_eq, if_neg (by omega), if_pos (Or.inl c2)]
        generalize neg a = nb at *
        clear c0 c1 c2
        go_enter Try.func23, Try.ntmps23
        go_wp2_with fail
        refine HX.out.mono ?_
        rintro e w' ⟨rfl, rfl⟩
        go_wp2_with fail
        refine HY.out.mono ?_
        rintro e w' ⟨rfl, rfl⟩
        go_wp2_with fail
        go_quiet ((go_at_call 22; exact quiet_same (HN.out _)))
        go_wp2_with fail
        go_ret
        exact HFIN.out _ _ HE.out
      · have e2 : ((b : Int) == 1) = false := by simp; omega
        have e3 : ((b : Int) == (a : Int)) = false := by have := HC.out; simp; omega
        have HE : Hid (andE L a b = jn L (b, a)) := by rw [Hid, HE1.out, andP_eq, if_neg (by omega), if_neg (by have := HC.out; omega)]
        generalize neg a = nb at *
        clear c0 c1 c2 HFIN
        go_enter Try.func23, Try.ntmps23
        go_wp2_with fail
        refine HX.out.mono ?_
        rintro e w' ⟨rfl, rfl⟩
        go_wp2_with fail
        refine HY.out.mono ?_
        rintro e w' ⟨rfl, rfl⟩
        go_wp2_with fail
        go_quiet ((go_at_call 22; exact quiet_same (HN.out _)))
        go_wp2_with fail
        have HJQ := Lib.hid (HJ.out nq)
        have HFQ := Lib.hid (HF.out.drewN nq)
        refine HJQ.out.mono ?_
        rintro e w2 ⟨rfl, G2, r1, r2⟩
        have HFF : Hid (OpE w G (andE L a b) (.returned (.int .i64 ((jn L (b, a)).1 : Int))) w2) := by
          rw [HE.out]; exact ⟨rfl, G2, r1, HFQ.out.trans r2⟩
        clear r1 r2 HJQ HFQ HJ
        go_wp2_with fail
        go_ret
        exact HFF.out

set_option maxRecDepth 100000 in
set_option maxHeartbeats 4000000 in
theorem And_eq {w : World} {G : Loc} {L : List Nd} (h : Rep w G L) (x y : Int) (hx : x ≤ 9223372036854775807) (hy : y ≤ 9223372036854775807) (hl : L.length < 150000) (hc : own L x = own L y) :
    Calls Try.prog 23 #[.pointer (some ⟨G.h, 0, none⟩), .int .i64 x, .int .i64 y] w (OpE w G (andE L (own L x) (own L y))) := by
  have HX := Lib.hid (own_any h x hx (by omega))
  have HY := Lib.hid (own_any h y hy (by omega))
  have ha := own_lt L x
  have hb := own_lt L y
  have HE0 : Hid (andE L (own L x) (own L y) = andP L (min (own L x) (own L y)) (max (own L x) (own L y))) := rfl
  generalize own L x = a at *
  generalize own L y = b at *
  subst hc
  have hc : a = a := rfl
  have HE1 : Hid (andE L a a = andP L a a) := by rw [Hid, HE0.out, Nat.min_self, Nat.max_self]
  have HR : Hid (Rep (w.alloc (.cells #[.int .i64 (a : Int), .int .i64 (a : Int)] 69)) G L) := h.alloc _
  have HF : Hid (Fr G w (w.alloc (.cells #[.int .i64 (a : Int), .int .i64 (a : Int)] 69)) G) := Fr.alloc _ _ _
  have HXX : (w.alloc (.cells #[.int .i64 (a : Int), .int .i64 (a : Int)] 69)).heap[w.heap.size]? = some (.cells #[.int .i64 (a : Int), .int .i64 (a : Int)] 69 (0, 0)) := heap_alloc_new w _
  have hx0 : (w.alloc (.cells #[.int .i64 (a : Int), .int .i64 (a : Int)] 69)).cell? ⟨w.heap.size, 0, none⟩ = some (.int .i64 (a : Int)) := by simp only [World.cell?, HXX]; rfl
  have hx1 : (w.alloc (.cells #[.int .i64 (a : Int), .int .i64 (a : Int)] 69)).cell? ⟨w.heap.size, 1, none⟩ = some (.int .i64 (a : Int)) := by simp only [World.cell?, HXX]; rfl
  have HN : Hid (∀ w2, Calls Try.prog 22 #[.int .i64 (a : Int)] w2 fun r w' => r = .returned (.int .i64 (neg a : Int)) ∧ w2 = w') := fun w2 => Not_any a w2 (by omega)
  have HJ : Hid (∀ q, Calls Try.prog 40 #[.pointer (some ⟨G.h, 0, none⟩), .agg #[.int .i64 (a : Int), .int .i64 (a : Int)]] ((w.alloc (.cells #[.int .i64 (a : Int), .int .i64 (a : Int)] 69)).drewN q) (OpE ((w.alloc (.cells #[.int .i64 (a : Int), .int .i64 (a : Int)] 69)).drewN q) G (jn L (a, a)))) := fun q => join_any (HR.out.drewN q) a a (by omega) (by omega) hl
  have HFIN : Hid (∀ q r, andE L a a = (r, L) → OpE w G (andE L a a) (.returned (.int .i64 (r : Int))) ((w.alloc (.cells #[.int .i64 (a : Int), .int .i64 (a : Int)] 69)).drewN q)) := fun q r e => by
    rw [e]; exact ⟨rfl, G, HR.out.drewN q, HF.out.drewN q⟩
  have HC := Lib.hid hc
  clear h HXX ha hb hl hc
  by_cases c0 : a = 0
  · have e0 : ((a : Int) == 0) = true := by simp [c0]
    have HE : Hid (andE L a a = (0, L)) := by rw [Hid, HE1.out, andP_eq, if_pos (Or.inl c0)]
    clear c0
    go_enter Try.func23, Try.ntmps23
    go_wp2_with fail
    refine HX.out.mono ?_
    rintro e w' ⟨rfl, rfl⟩
    go_wp2_with fail
    refine HY.out.mono ?_
    rintro e w' ⟨rfl, rfl⟩
    go_wp2_with fail
    go_quiet ((go_at_call 22; exact quiet_same (HN.out _)))
    go_wp2_with fail
    go_ret
    exact HFIN.out _ _ HE.out
  · have e0 : ((a : Int) == 0) = false := by simp; omega
    by_cases c1 : a = neg a
    · have e1 : ((a : Int) == (neg a : Int)) = true := by rw [← c1]; simp
      have HE : Hid (andE L a a = (0, L)) := by rw [Hid, HE1.out, andP_eq, if_pos (Or.inr c1)]
      generalize neg a = nb at *
      clear c0 c1
      go_enter Try.func23, Try.ntmps23
      go_wp2_with fail
      refine HX.out.mono ?_
      rintro e w' ⟨rfl, rfl⟩
      go_wp2_with fail
      refine HY.out.mono ?_
      rintro e w' ⟨rfl, rfl⟩
      go_wp2_with fail
      go_quiet ((go_at_call 22; exact quiet_same (HN.out _)))
      go_wp2_with fail
      go_ret
      exact HFIN.out _ _ HE.out
    · have e1 : ((a : Int) == (neg a : Int)) = false := by simp; omega
      have HC1 := Lib.hid (And.intro c0 c1)
      by_cases c2 : a = 1
      · have e2 : ((a : Int) == 1) = true := by simp [c2]
        have HE : Hid (andE L a a = (a, L)) := by rw [Hid, HE1.out, andP_eq, if_neg (by omega), if_pos (Or.inl c2)]
        generalize neg a = nb at *
        clear c0 c1 c2
        go_enter Try.func23, Try.ntmps23
        go_wp2_with fail
        refine HX.out.mono ?_
        rintro e w' ⟨rfl, rfl⟩
        go_wp2_with fail
        refine HY.out.mono ?_
        rintro e w' ⟨rfl, rfl⟩
        go_wp2_with fail
        go_quiet ((go_at_call 22; exact quiet_same (HN.out _)))
        go_wp2_with fail
        go_ret
        exact HFIN.out _ _ HE.out
      · have e2 : ((a : Int) == 1) = false := by simp; omega
        have HE : Hid (andE L a a = (a, L)) := by rw [Hid, HE1.out, andP_eq, if_neg (by omega), if_pos (Or.inr rfl)]
        generalize neg a = nb at *
        clear c0 c1 c2
        go_enter Try.func23, Try.ntmps23
        go_wp2_with fail
        refine HX.out.mono ?_
        rintro e w' ⟨rfl, rfl⟩
        go_wp2_with fail
        refine HY.out.mono ?_
        rintro e w' ⟨rfl, rfl⟩
        go_wp2_with fail
        go_quiet ((go_at_call 22; exact quiet_same (HN.out _)))
        go_wp2_with fail
        go_ret
        exact HFIN.out _ _ HE.out

theorem And_any {w : World} {G : Loc} {L : List Nd} (h : Rep w G L) (x y : Int) (hx : x ≤ 9223372036854775807) (hy : y ≤ 9223372036854775807) (hl : L.length < 150000) :
    Calls Try.prog 23 #[.pointer (some ⟨G.h, 0, none⟩), .int .i64 x, .int .i64 y] w (OpE w G (andE L (own L x) (own L y))) := by
  rcases Nat.lt_trichotomy (own L x) (own L y) with q | q | q
  · exact And_lt h x y hx hy hl q
  · exact And_eq h x y hx hy hl q
  · exact And_gt h x y hx hy hl q
end Go.Proofs.Ytbggenilngpjcaa.Gr
