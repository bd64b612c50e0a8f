/- The document's own graph: contract of And. -/
import Derived.Test.YthnbocgippjhgaaGrRef
namespace Go.Proofs.Ythnbocgippjhgaa.Gr
open Go Go.RowKit Go.Lib Go.Maps

theorem findIdx_of {L : List Nd} {p : Nat × Nat} {k : Nat} (hW : Wf L) (hk : L[k]? = some (some p)) : jn L p = (2 * (k + 1), L) := by
  unfold jn; rw [look_of hW hk]
theorem jn_none {L : List Nd} {p : Nat × Nat} (h : ∀ n : Nat, n < L.length → L[n]? ≠ some (some p)) : jn L p = (2 * (L.length + 1), L ++ [some p]) := by
  unfold jn
  rw [look_no fun n hn => ?_]
  exact h n (List.getElem?_eq_some_iff.1 hn).1 hn

/-- Behind both edges, the lesser first. -/
structure RAnd (L : List Nd) (x y : Int) (A B : Nat) : Prop where
  res : andE L (own L x) (own L y) = andP L A B
  le : A ≤ B
  lt : B < 2 * (L.length + 1)

set_option maxRecDepth 100000 in
set_option maxHeartbeats 2000000 in
theorem refAnd_lt {w : World} {r : Nat} {lv : Value} {L : List Nd} (h : RRep w r lv L) (hW : Wf L) (x y : Int) (hl : L.length < 150000) (hc : own L x < own L y) :
    Calls Try.prog 11 #[.pointer (some ⟨r, 0, none⟩), .int .i64 x, .int .i64 y] w (ROpE w r lv (andE L (own L x) (own L y))) := by
  have HX := Lib.hid (refEdge_any h x (by omega))
  have HY := Lib.hid (refEdge_any h y (by omega))
  have ha := own_lt L x
  have hb := own_lt L y
  have HE0 : Hid (andE L (own L x) (own L y) = andP L (min (own L x) (own L y)) (max (own L x) (own L y))) := rfl
  generalize own L x = a at *
  generalize own L y = b at *
  have f1 : (a : Int) ≤ (b : Int) := by omega
  have f2 : (a : Int) < (b : Int) := by omega
  have f3 : ¬ (b : Int) ≤ (a : Int) := by omega
  have f4 : ¬ (b : Int) < (a : Int) := by omega
  have HE1 : Hid (andE L a b = andP L a b) := by rw [Hid, HE0.out, Nat.min_eq_left (by omega), Nat.max_eq_right (by omega)]
  obtain ⟨ad, c, elv, c0⟩ := h.form
  obtain ⟨n, hn⟩ : ∃ n, n = L.length := ⟨_, rfl⟩
  have HR := Lib.hid h
  have ho := h.nodes
  have hs := h.head.lt
  have z0 := h.head.free 0
  have hne := Ne.symm h.hn
  rw [elv, ← hn] at ho
  rw [← hn] at c0
  rw [elv, ← hn] at hne
  have HO := Lib.hid ho
  have HN := Lib.hid hn
  rw [← hn] at elv
  have HLV := Lib.hid elv
  have n9 : (n : Int) ≤ 150000 := by omega
  have n8 : n ≤ 150000 := by omega
  have HNT : Hid (∀ w2, Calls Try.prog 27 #[.int .i64 (a : Int)] w2 fun r w' => r = .returned (.int .i64 (neg a : Int)) ∧ w2 = w') := fun w2 => refNot_any a w2 (by omega)
  have HFIN : Hid (∀ s, andE L a b = (s, L) → ROpE w r lv (andE L a b) (.returned (.int .i64 (s : Int))) w) := fun s e => by
    rw [e]; exact ⟨rfl, lv, HR.out, RFr.refl _ _ _⟩
  have HWW := Lib.hid hW
  have HC := Lib.hid hc
  obtain ⟨ii, hi, hz0, hz1, hz2⟩ := info_parts infoNode
  clear h ha hb hl hc elv ho hn hW
  go_enter Try.func11, Try.ntmps11
  go_wp2_with fail
  refine HX.out.mono ?_
  rintro e w' ⟨rfl, rfl⟩
  go_wp2_with fail
  refine HY.out.mono ?_
  rintro e w' ⟨rfl, rfl⟩
  go_wp2_with fail
  refine HX.out.mono ?_
  rintro e w' ⟨rfl, rfl⟩
  go_wp2_with fail
  refine HY.out.mono ?_
  rintro e w' ⟨rfl, rfl⟩
  by_cases q0 : a = 0
  · have e0 : ((a : Int) == 0) = true := by simp [q0]
    have HE : Hid (andE L a b = (0, L)) := by rw [Hid, HE1.out, andP_eq, if_pos (Or.inl q0)]
    clear q0
    go_wp2_with fail
    go_ret
    exact HFIN.out _ HE.out
  · have e0 : ((a : Int) == 0) = false := by simp; omega
    by_cases q1 : a = neg b
    · have e1 : ((b : Int) == (neg a : Int)) = true := by first | (rw [neg_comm.2 q1]; simp; done) | exact absurd q1.symm (neg_ne _)
      have HE : Hid (andE L a b = (0, L)) := by rw [Hid, HE1.out, andP_eq, if_pos (Or.inr q1)]
      clear q0 q1
      go_wp2_with fail
      refine (HNT.out _).mono ?_
      rintro e w' ⟨rfl, rfl⟩
      go_wp2_with fail
      go_ret
      exact HFIN.out _ HE.out
    · have e1 : ((b : Int) == (neg a : Int)) = false := by
        have : b ≠ neg a := fun e => q1 (neg_comm.1 e)
        simp; omega
      by_cases q2 : a = 1
      · have e2 : ((a : Int) == 1) = true := by simp [q2]
        have HE : Hid (andE L a b = (b, L)) := by rw [Hid, HE1.out, andP_eq, if_neg (by omega), if_pos (Or.inl q2)]
        clear q0 q1 q2
        go_wp2_with fail
        refine (HNT.out _).mono ?_
        rintro e w' ⟨rfl, rfl⟩
        go_wp2_with fail
        go_ret
        exact HFIN.out _ HE.out
      · have e2 : ((a : Int) == 1) = false := by simp; omega
        have e3 : ((a : Int) == (b : Int)) = false := by have := HC.out; simp; omega
        have HE : Hid (andE L a b = jn L (a, b)) := by rw [Hid, HE1.out, andP_eq, if_neg (by omega), if_neg (by have := HC.out; omega)]
        have START : Hid (∀ k, k < 0 → L[k]? ≠ some (some (a, b))) := fun k hk => absurd hk (by omega)
        have HQ := Lib.hid q0
        clear q0 q1 q2
        go_wp2_with fail
        refine (HNT.out _).mono ?_
        rintro e w' ⟨rfl, rfl⟩
        clear HX HY HNT
        go_wp2_with fail
        have SW : SameW w w := rfl
        go_loopw [9] (fun iv wr => ∃ k : Nat, iv = .int .i64 (k : Int) ∧ k ≤ n ∧ Hid (∀ j, j < k → L[j]? ≠ some (some (a, b))) ∧ SameW wr w) (fun iv _ => n - (intOf iv).toNat)
        case atStart => exact ⟨0, rfl, Nat.zero_le _, START, SW⟩
        case round =>
          obtain ⟨k, rfl, hk, HH, hsw⟩ := hrel
          unfold SameW at hsw
          obtain rfl := hsw
          by_cases hlt : k < n
          · have hkz : (k : Int) < (n : Int) := by omega
            have k0 : (0 : Int) ≤ (k : Int) := by omega
            obtain ⟨d, hd⟩ : ∃ d, L[k]? = some d := ⟨_, List.getElem?_eq_getElem (by rw [← HN.out]; exact hlt)⟩
            obtain ⟨g, c', e', x0, x1, x2⟩ := HR.out.node hd
            have e9 : Value.slice ad n c = .slice (some ⟨g, 0, none⟩) n c' := by rw [← HLV.out, e', HN.out]
            simp only [Value.slice.injEq, true_and] at e9
            obtain ⟨rfl, rfl⟩ := e9
            have HK : Hid (∀ p, d = some p → p ≠ (a, b) → ∀ j, j < k + 1 → L[j]? ≠ some (some (a, b))) := fun p hp hne j hj => by
              by_cases q : j < k
              · exact HH.out j q
              · obtain rfl : j = k := by omega
                rw [hd, hp]; intro e; exact hne (by simpa using e)
            have HK0 : Hid (d = none → ∀ j, j < k + 1 → L[j]? ≠ some (some (a, b))) := fun hp j hj => by
              by_cases q : j < k
              · exact HH.out j q
              · obtain rfl : j = k := by omega
                rw [hd, hp]; simp
            cases d with
            | none =>
              have y0 : wr.cell? ⟨g, k * 3, none⟩ = some (.bool true) := x0
              have HEND := Lib.hid (HK0.out rfl)
              clear x0 x1 x2 e' hd HK HK0 HH START
              go_wp2_with fail
              go_roundw
              case rel => exact ⟨k + 1, by go_num, by omega, HEND, rfl⟩
              case measure => simp [intOf]; omega
            | some p =>
              obtain ⟨p1, p2⟩ := p
              have y0 : wr.cell? ⟨g, k * 3, none⟩ = some (.bool false) := x0
              have y1 : wr.cell? ⟨g, k * 3 + 1, none⟩ = some (.int .i64 (p1 : Int)) := x1
              have y2 : wr.cell? ⟨g, k * 3 + 2, none⟩ = some (.int .i64 (p2 : Int)) := x2
              by_cases c1 : p1 = a
              · have f1 : ((p1 : Int) == (a : Int)) = true := by simp [c1]
                by_cases c2 : p2 = b
                · have f2 : ((p2 : Int) == (b : Int)) = true := by simp [c2]
                  have HJ : Hid (jn L (a, b) = (2 * (k + 1), L)) := findIdx_of HWW.out (by rw [hd, c1, c2])
                  have HF := Lib.hid (HFIN.out (2 * (k + 1)) (by rw [HE.out, HJ.out]))
                  have HZ : Hid (((2 * (k + 1) : Nat) : Int) = 2 * ((k : Int) + 1)) := by rw [Hid]; omega
                  clear x0 x1 x2 e' hd HK HK0 HH START c1 c2 HJ HFIN
                  go_wp2_with fail
                  go_ret
                  rw [← HZ.out]
                  exact HF.out
                · have f2 : ((p2 : Int) == (b : Int)) = false := by simp; omega
                  have HEND := Lib.hid (HK.out _ rfl (fun e => c2 (congrArg Prod.snd e)))
                  clear x0 x1 x2 e' hd HK HK0 HH START c1 c2 HFIN
                  go_wp2_with fail
                  go_roundw
                  case rel => exact ⟨k + 1, by go_num, by omega, HEND, rfl⟩
                  case measure => simp [intOf]; omega
              · have f1 : ((p1 : Int) == (a : Int)) = false := by simp; omega
                have HEND := Lib.hid (HK.out _ rfl (fun e => c1 (congrArg Prod.fst e)))
                clear x0 x1 x2 e' hd HK HK0 HH START c1 HFIN
                go_wp2_with fail
                go_roundw
                case rel => exact ⟨k + 1, by go_num, by omega, HEND, rfl⟩
                case measure => simp [intOf]; omega
          · obtain rfl : k = n := by omega
            have hkz : ¬ (k : Int) < (k : Int) := by omega
            have HJ : Hid (jn L (a, b) = (2 * (k + 1), L ++ [some (a, b)])) := by rw [Hid, jn_none (fun j hj => HH.out j (by rw [HN.out]; exact hj)), HN.out]
            clear HH START SW HFIN
            go_wp2_with (at_builtin; refine wpList_append_lies _ rfl _ _ 28 rfl 0 42 ii _ 3 24 Try.underlying28 hi hz0 hz1 hz2 rfl (by decide) _ _ _ rfl (HO.out.alloc _) ⟨wr.heap.size, 0, none⟩ 1 1 [.bool false, .int .i64 (a : Int), .int .i64 (b : Int)] rfl rfl (World.news_of_block (cs := #[.bool false, .int .i64 (a : Int), .int .i64 (b : Int)]) (t := 42) (fr := (0, 0)) (heap_alloc_new wr _)) (by simp [Value.oneCell']) (by decide) (by unfold maxLen; omega) (by omega) (Nat.zero_le _) (wr.heap.size + 1) (by simp) ?_; intro g cap w3 hown hgrow hat hlt1; have cl := hgrow.cell ((World.cell?_of_block (a := ⟨r, 0, none⟩) (Below.heap_alloc wr _ _ hs)).trans c0) hne; have fz := (hgrow.frozen_far ⟨r, 0, none⟩ (by simp; omega) hne).trans ((World.frozen?_of_block (Below.heap_alloc wr _ _ hs)).trans z0))
            have HW : Hid (RRep (wr.alloc (.cells #[.bool false, .int .i64 (a : Int), .int .i64 (b : Int)] 42)) r lv L) := HR.out.below ((Below.refl _ _).alloc (Nat.le_refl _) _)
            have R := HW.out.push (d := some (a, b)) (g := g) (cap := cap) (w3 := w3) (by rw [HLV.out]; exact hgrow) (by rw [HLV.out]; exact hat.imp id (fun e => by simp; omega)) (by rw [← HN.out]; exact hown)
            rw [← HN.out] at R
            have HFF : Hid (ROpE wr r lv (andE L a b) (.returned (.int .i64 (2 * ((k : Int) + 1)))) (w3.setCell ⟨r, 0, none⟩ (.slice (some ⟨g, 0, none⟩) (k + 1) cap))) := by
              rw [HE.out, HJ.out]
              exact ⟨rfl, _, R.1, (RFr.below ((Below.refl _ _).alloc (Nat.le_refl _) _)).trans R.2⟩
            have c9 : (w3.setCell ⟨r, 0, none⟩ (.slice (some ⟨g, 0, none⟩) (k + 1) cap)).cell? ⟨r, 0, none⟩ = some (.slice (some ⟨g, 0, none⟩) (k + 1) cap) := R.1.c0
            clear R HW hown hgrow hat hlt1
            generalize w3.setCell ⟨r, 0, none⟩ (.slice (some ⟨g, 0, none⟩) (k + 1) cap) = W4 at *
            go_wp2_with fail
            go_ret
            exact HFF.out

set_option maxRecDepth 100000 in
set_option maxHeartbeats 2000000 in
theorem refAnd_gt {w : World} {r : Nat} {lv : Value} {L : List Nd} (h : RRep w r lv L) (hW : Wf L) (x y : Int) (hl : L.length < 150000) (hc : own L y < own L x) :
    Calls Try.prog 11 #[.pointer (some ⟨r, 0, none⟩), .int .i64 x, .int .i64 y] w (ROpE w r lv (andE L (own L x) (own L y))) := by
  have HX := Lib.hid (refEdge_any h x (by omega))
  have HY := Lib.hid (refEdge_any h y (by omega))
  have ha := own_lt L x
  have hb := own_lt L y
  have HE0 : Hid (andE L (own L x) (own L y) = andP L (min (own L x) (own L y)) (max (own L x) (own L y))) := rfl
  generalize own L x = a at *
  generalize own L y = b at *
  have f1 : (b : Int) ≤ (a : Int) := by omega
  have f2 : (b : Int) < (a : Int) := by omega
  have f3 : ¬ (a : Int) ≤ (b : Int) := by omega
  have f4 : ¬ (a : Int) < (b : Int) := by omega
  have HE1 : Hid (andE L a b = andP L b a) := by rw [Hid, HE0.out, Nat.min_eq_right (by omega), Nat.max_eq_left (by omega)]
  obtain ⟨ad, c, elv, c0⟩ := h.form
  obtain ⟨n, hn⟩ : ∃ n, n = L.length := ⟨_, rfl⟩
  have HR := Lib.hid h
  have ho := h.nodes
  have hs := h.head.lt
  have z0 := h.head.free 0
  have hne := Ne.symm h.hn
  rw [elv, ← hn] at ho
  rw [← hn] at c0
  rw [elv, ← hn] at hne
  have HO := Lib.hid ho
  have HN := Lib.hid hn
  rw [← hn] at elv
  have HLV := Lib.hid elv
  have n9 : (n : Int) ≤ 150000 := by omega
  have n8 : n ≤ 150000 := by omega
  have HNT : Hid (∀ w2, Calls Try.prog 27 #[.int .i64 (b : Int)] w2 fun r w' => r = .returned (.int .i64 (neg b : Int)) ∧ w2 = w') := fun w2 => refNot_any b w2 (by omega)
  have HFIN : Hid (∀ s, andE L a b = (s, L) → ROpE w r lv (andE L a b) (.returned (.int .i64 (s : Int))) w) := fun s e => by
    rw [e]; exact ⟨rfl, lv, HR.out, RFr.refl _ _ _⟩
  have HWW := Lib.hid hW
  have HC := Lib.hid hc
  obtain ⟨ii, hi, hz0, hz1, hz2⟩ := info_parts infoNode
  clear h ha hb hl hc elv ho hn hW
  go_enter Try.func11, Try.ntmps11
  go_wp2_with fail
  refine HX.out.mono ?_
  rintro e w' ⟨rfl, rfl⟩
  go_wp2_with fail
  refine HY.out.mono ?_
  rintro e w' ⟨rfl, rfl⟩
  go_wp2_with fail
  refine HX.out.mono ?_
  rintro e w' ⟨rfl, rfl⟩
  go_wp2_with fail
  refine HY.out.mono ?_
  rintro e w' ⟨rfl, rfl⟩
  by_cases q0 : b = 0
  · have e0 : ((b : Int) == 0) = true := by simp [q0]
    have HE : Hid (andE L a b = (0, L)) := by rw [Hid, HE1.out, andP_eq, if_pos (Or.inl q0)]
    clear q0
    go_wp2_with fail
    go_ret
    exact HFIN.out _ HE.out
  · have e0 : ((b : Int) == 0) = false := by simp; omega
    by_cases q1 : b = neg a
    · have e1 : ((a : Int) == (neg b : Int)) = true := by first | (rw [neg_comm.2 q1]; simp; done) | exact absurd q1.symm (neg_ne _)
      have HE : Hid (andE L a b = (0, L)) := by rw [Hid, HE1.out, andP_eq, if_pos (Or.inr q1)]
      clear q0 q1
      go_wp2_with fail
      refine (HNT.out _).mono ?_
      rintro e w' ⟨rfl, rfl⟩
      go_wp2_with fail
      go_ret
      exact HFIN.out _ HE.out
    · have e1 : ((a : Int) == (neg b : Int)) = false := by
        have : a ≠ neg b := fun e => q1 (neg_comm.1 e)
        simp; omega
      by_cases q2 : b = 1
      · have e2 : ((b : Int) == 1) = true := by simp [q2]
        have HE : Hid (andE L a b = (a, L)) := by rw [Hid, HE1.out, andP_eq, if_neg (by omega), if_pos (Or.inl q2)]
        clear q0 q1 q2
        go_wp2_with fail
        refine (HNT.out _).mono ?_
        rintro e w' ⟨rfl, rfl⟩
        go_wp2_with fail
        go_ret
        exact HFIN.out _ HE.out
      · have e2 : ((b : Int) == 1) = false := by simp; omega
        have e3 : ((b : Int) == (a : Int)) = false := by have := HC.out; simp; omega
        have HE : Hid (andE L a b = jn L (b, a)) := by rw [Hid, HE1.out, andP_eq, if_neg (by omega), if_neg (by have := HC.out; omega)]
        have START : Hid (∀ k, k < 0 → L[k]? ≠ some (some (b, a))) := fun k hk => absurd hk (by omega)
        have HQ := Lib.hid q0
        clear q0 q1 q2
        go_wp2_with fail
        refine (HNT.out _).mono ?_
        rintro e w' ⟨rfl, rfl⟩
        clear HX HY HNT
        go_wp2_with fail
        have SW : SameW w w := rfl
        go_loopw [9] (fun iv wr => ∃ k : Nat, iv = .int .i64 (k : Int) ∧ k ≤ n ∧ Hid (∀ j, j < k → L[j]? ≠ some (some (b, a))) ∧ SameW wr w) (fun iv _ => n - (intOf iv).toNat)
        case atStart => exact ⟨0, rfl, Nat.zero_le _, START, SW⟩
        case round =>
          obtain ⟨k, rfl, hk, HH, hsw⟩ := hrel
          unfold SameW at hsw
          obtain rfl := hsw
          by_cases hlt : k < n
          · have hkz : (k : Int) < (n : Int) := by omega
            have k0 : (0 : Int) ≤ (k : Int) := by omega
            obtain ⟨d, hd⟩ : ∃ d, L[k]? = some d := ⟨_, List.getElem?_eq_getElem (by rw [← HN.out]; exact hlt)⟩
            obtain ⟨g, c', e', x0, x1, x2⟩ := HR.out.node hd
            have e9 : Value.slice ad n c = .slice (some ⟨g, 0, none⟩) n c' := by rw [← HLV.out, e', HN.out]
            simp only [Value.slice.injEq, true_and] at e9
            obtain ⟨rfl, rfl⟩ := e9
            have HK : Hid (∀ p, d = some p → p ≠ (b, a) → ∀ j, j < k + 1 → L[j]? ≠ some (some (b, a))) := fun p hp hne j hj => by
              by_cases q : j < k
              · exact HH.out j q
              · obtain rfl : j = k := by omega
                rw [hd, hp]; intro e; exact hne (by simpa using e)
            have HK0 : Hid (d = none → ∀ j, j < k + 1 → L[j]? ≠ some (some (b, a))) := fun hp j hj => by
              by_cases q : j < k
              · exact HH.out j q
              · obtain rfl : j = k := by omega
                rw [hd, hp]; simp
            cases d with
            | none =>
              have y0 : wr.cell? ⟨g, k * 3, none⟩ = some (.bool true) := x0
              have HEND := Lib.hid (HK0.out rfl)
              clear x0 x1 x2 e' hd HK HK0 HH START
              go_wp2_with fail
              go_roundw
              case rel => exact ⟨k + 1, by go_num, by omega, HEND, rfl⟩
              case measure => simp [intOf]; omega
            | some p =>
              obtain ⟨p1, p2⟩ := p
              have y0 : wr.cell? ⟨g, k * 3, none⟩ = some (.bool false) := x0
              have y1 : wr.cell? ⟨g, k * 3 + 1, none⟩ = some (.int .i64 (p1 : Int)) := x1
              have y2 : wr.cell? ⟨g, k * 3 + 2, none⟩ = some (.int .i64 (p2 : Int)) := x2
              by_cases c1 : p1 = b
              · have f1 : ((p1 : Int) == (b : Int)) = true := by simp [c1]
                by_cases c2 : p2 = a
                · have f2 : ((p2 : Int) == (a : Int)) = true := by simp [c2]
                  have HJ : Hid (jn L (b, a) = (2 * (k + 1), L)) := findIdx_of HWW.out (by rw [hd, c1, c2])
                  have HF := Lib.hid (HFIN.out (2 * (k + 1)) (by rw [HE.out, HJ.out]))
                  have HZ : Hid (((2 * (k + 1) : Nat) : Int) = 2 * ((k : Int) + 1)) := by rw [Hid]; omega
                  clear x0 x1 x2 e' hd HK HK0 HH START c1 c2 HJ HFIN
                  go_wp2_with fail
                  go_ret
                  rw [← HZ.out]
                  exact HF.out
                · have f2 : ((p2 : Int) == (a : Int)) = false := by simp; omega
                  have HEND := Lib.hid (HK.out _ rfl (fun e => c2 (congrArg Prod.snd e)))
                  clear x0 x1 x2 e' hd HK HK0 HH START c1 c2 HFIN
                  go_wp2_with fail
                  go_roundw
                  case rel => exact ⟨k + 1, by go_num, by omega, HEND, rfl⟩
                  case measure => simp [intOf]; omega
              · have f1 : ((p1 : Int) == (b : Int)) = false := by simp; omega
                have HEND := Lib.hid (HK.out _ rfl (fun e => c1 (congrArg Prod.fst e)))
                clear x0 x1 x2 e' hd HK HK0 HH START c1 HFIN
                go_wp2_with fail
                go_roundw
                case rel => exact ⟨k + 1, by go_num, by omega, HEND, rfl⟩
                case measure => simp [intOf]; omega
          · obtain rfl : k = n := by omega
            have hkz : ¬ (k : Int) < (k : Int) := by omega
            have HJ : Hid (jn L (b, a) = (2 * (k + 1), L ++ [some (b, a)])) := by rw [Hid, jn_none (fun j hj => HH.out j (by rw [HN.out]; exact hj)), HN.out]
            clear HH START SW HFIN
            go_wp2_with (at_builtin; refine wpList_append_lies _ rfl _ _ 28 rfl 0 42 ii _ 3 24 Try.underlying28 hi hz0 hz1 hz2 rfl (by decide) _ _ _ rfl (HO.out.alloc _) ⟨wr.heap.size, 0, none⟩ 1 1 [.bool false, .int .i64 (b : Int), .int .i64 (a : Int)] rfl rfl (World.news_of_block (cs := #[.bool false, .int .i64 (b : Int), .int .i64 (a : Int)]) (t := 42) (fr := (0, 0)) (heap_alloc_new wr _)) (by simp [Value.oneCell']) (by decide) (by unfold maxLen; omega) (by omega) (Nat.zero_le _) (wr.heap.size + 1) (by simp) ?_; intro g cap w3 hown hgrow hat hlt1; have cl := hgrow.cell ((World.cell?_of_block (a := ⟨r, 0, none⟩) (Below.heap_alloc wr _ _ hs)).trans c0) hne; have fz := (hgrow.frozen_far ⟨r, 0, none⟩ (by simp; omega) hne).trans ((World.frozen?_of_block (Below.heap_alloc wr _ _ hs)).trans z0))
            have HW : Hid (RRep (wr.alloc (.cells #[.bool false, .int .i64 (b : Int), .int .i64 (a : Int)] 42)) r lv L) := HR.out.below ((Below.refl _ _).alloc (Nat.le_refl _) _)
            have R := HW.out.push (d := some (b, a)) (g := g) (cap := cap) (w3 := w3) (by rw [HLV.out]; exact hgrow) (by rw [HLV.out]; exact hat.imp id (fun e => by simp; omega)) (by rw [← HN.out]; exact hown)
            rw [← HN.out] at R
            have HFF : Hid (ROpE wr r lv (andE L a b) (.returned (.int .i64 (2 * ((k : Int) + 1)))) (w3.setCell ⟨r, 0, none⟩ (.slice (some ⟨g, 0, none⟩) (k + 1) cap))) := by
              rw [HE.out, HJ.out]
              exact ⟨rfl, _, R.1, (RFr.below ((Below.refl _ _).alloc (Nat.le_refl _) _)).trans R.2⟩
            have c9 : (w3.setCell ⟨r, 0, none⟩ (.slice (some ⟨g, 0, none⟩) (k + 1) cap)).cell? ⟨r, 0, none⟩ = some (.slice (some ⟨g, 0, none⟩) (k + 1) cap) := R.1.c0
            clear R HW hown hgrow hat hlt1
            generalize w3.setCell ⟨r, 0, none⟩ (.slice (some ⟨g, 0, none⟩) (k + 1) cap) = W4 at *
            go_wp2_with fail
            go_ret
            exact HFF.out

set_option maxRecDepth 100000 in
set_option maxHeartbeats 2000000 in
theorem refAnd_eq {w : World} {r : Nat} {lv : Value} {L : List Nd} (h : RRep w r lv L) (hW : Wf L) (x y : Int) (hl : L.length < 150000) (hc : own L x = own L y) :
    Calls Try.prog 11 #[.pointer (some ⟨r, 0, none⟩), .int .i64 x, .int .i64 y] w (ROpE w r lv (andE L (own L x) (own L y))) := by
  have HX := Lib.hid (refEdge_any h x (by omega))
  have HY := Lib.hid (refEdge_any h y (by omega))
  have ha := own_lt L x
  have hb := own_lt L y
  have HE0 : Hid (andE L (own L x) (own L y) = andP L (min (own L x) (own L y)) (max (own L x) (own L y))) := rfl
  generalize own L x = a at *
  generalize own L y = b at *
  subst hc
  have hc : a = a := rfl
  have HE1 : Hid (andE L a a = andP L a a) := by rw [Hid, HE0.out, Nat.min_self, Nat.max_self]
  obtain ⟨ad, c, elv, c0⟩ := h.form
  obtain ⟨n, hn⟩ : ∃ n, n = L.length := ⟨_, rfl⟩
  have HR := Lib.hid h
  have ho := h.nodes
  have hs := h.head.lt
  have z0 := h.head.free 0
  have hne := Ne.symm h.hn
  rw [elv, ← hn] at ho
  rw [← hn] at c0
  rw [elv, ← hn] at hne
  have HO := Lib.hid ho
  have HN := Lib.hid hn
  rw [← hn] at elv
  have HLV := Lib.hid elv
  have n9 : (n : Int) ≤ 150000 := by omega
  have n8 : n ≤ 150000 := by omega
  have HNT : Hid (∀ w2, Calls Try.prog 27 #[.int .i64 (a : Int)] w2 fun r w' => r = .returned (.int .i64 (neg a : Int)) ∧ w2 = w') := fun w2 => refNot_any a w2 (by omega)
  have HFIN : Hid (∀ s, andE L a a = (s, L) → ROpE w r lv (andE L a a) (.returned (.int .i64 (s : Int))) w) := fun s e => by
    rw [e]; exact ⟨rfl, lv, HR.out, RFr.refl _ _ _⟩
  have HWW := Lib.hid hW
  have HC := Lib.hid hc
  obtain ⟨ii, hi, hz0, hz1, hz2⟩ := info_parts infoNode
  clear h ha hb hl hc elv ho hn hW
  go_enter Try.func11, Try.ntmps11
  go_wp2_with fail
  refine HX.out.mono ?_
  rintro e w' ⟨rfl, rfl⟩
  go_wp2_with fail
  refine HY.out.mono ?_
  rintro e w' ⟨rfl, rfl⟩
  go_wp2_with fail
  refine HX.out.mono ?_
  rintro e w' ⟨rfl, rfl⟩
  go_wp2_with fail
  refine HY.out.mono ?_
  rintro e w' ⟨rfl, rfl⟩
  by_cases q0 : a = 0
  · have e0 : ((a : Int) == 0) = true := by simp [q0]
    have HE : Hid (andE L a a = (0, L)) := by rw [Hid, HE1.out, andP_eq, if_pos (Or.inl q0)]
    clear q0
    go_wp2_with fail
    go_ret
    exact HFIN.out _ HE.out
  · have e0 : ((a : Int) == 0) = false := by simp; omega
    by_cases q1 : a = neg a
    · have e1 : ((a : Int) == (neg a : Int)) = true := by first | (rw [neg_comm.2 q1]; simp; done) | exact absurd q1.symm (neg_ne _)
      have HE : Hid (andE L a a = (0, L)) := by rw [Hid, HE1.out, andP_eq, if_pos (Or.inr q1)]
      clear q0 q1
      go_wp2_with fail
      refine (HNT.out _).mono ?_
      rintro e w' ⟨rfl, rfl⟩
      go_wp2_with fail
      go_ret
      exact HFIN.out _ HE.out
    · have e1 : ((a : Int) == (neg a : Int)) = false := by
        have : a ≠ neg a := fun e => q1 (neg_comm.1 e)
        simp; omega
      by_cases q2 : a = 1
      · have e2 : ((a : Int) == 1) = true := by simp [q2]
        have HE : Hid (andE L a a = (a, L)) := by rw [Hid, HE1.out, andP_eq, if_neg (by omega), if_pos (Or.inl q2)]
        clear q0 q1 q2
        go_wp2_with fail
        refine (HNT.out _).mono ?_
        rintro e w' ⟨rfl, rfl⟩
        go_wp2_with fail
        go_ret
        exact HFIN.out _ HE.out
      · have e2 : ((a : Int) == 1) = false := by simp; omega
        have HE : Hid (andE L a a = (a, L)) := by rw [Hid, HE1.out, andP_eq, if_neg (by omega), if_pos (Or.inr rfl)]
        clear q0 q1 q2
        go_wp2_with fail
        refine (HNT.out _).mono ?_
        rintro e w' ⟨rfl, rfl⟩
        go_wp2_with fail
        go_ret
        exact HFIN.out _ HE.out

theorem refAnd_any {w : World} {r : Nat} {lv : Value} {L : List Nd} (h : RRep w r lv L) (hW : Wf L) (x y : Int) (hl : L.length < 150000) :
    Calls Try.prog 11 #[.pointer (some ⟨r, 0, none⟩), .int .i64 x, .int .i64 y] w (ROpE w r lv (andE L (own L x) (own L y))) := by
  rcases Nat.lt_trichotomy (own L x) (own L y) with q | q | q
  · exact refAnd_lt h hW x y hl q
  · exact refAnd_eq h hW x y hl q
  · exact refAnd_gt h hW x y hl q
end Go.Proofs.Ythnbocgippjhgaa.Gr
