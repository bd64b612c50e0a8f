/- What the laws of layer 6 come to as mathematics of bits; appended models. -/
import Derived.Test.YtnkcdgpaphphaaaBtX
namespace Go.Proofs.Ytnkcdgpaphphaaa.Gr
open Go Go.RowKit Go.Lib Go.Maps

theorem doF_len (op : Nat) (xs ys : List Bool) (h : xs.length = ys.length) : (doF op xs ys).length = xs.length := by
  match op with
  | 0 => exact addL_len _ _ _ h
  | 1 => exact subL_len _ _ h
  | 2 => exact mulL_len _ _ _ (Nat.le_refl _)
  | 3 =>
    show (maskL _ (turnL _ (divL (magL ys) (magL xs)).1)).length = _
    have la : (magL xs).length = xs.length := turnL_len _ _
    have lb : (magL ys).length = ys.length := turnL_len _ _
    have := (divL_len (magL ys) (magL xs) (by omega)).1
    unfold maskL; rw [List.length_map, turnL_len, this, la]
  | n + 4 =>
    show (maskL _ (turnL _ (divL (magL ys) (magL xs)).2)).length = _
    have la : (magL xs).length = xs.length := turnL_len _ _
    have lb : (magL ys).length = ys.length := turnL_len _ _
    have := (divL_len (magL ys) (magL xs) (by omega)).2
    unfold maskL; rw [List.length_map, turnL_len, this, la]
theorem sg_trim (v : List Bool) : trimZ (sg v) v.length = sg v := by unfold sg; rw [trimZ_trimZ]

section
variable {xs ys zs : List Bool} {k : Nat}
theorem law_back (hx : xs.length = k) (hy : ys.length = k) (hk : 1 ≤ k) : doF 0 (doF 1 xs ys) ys = xs := by
  have l1 := doF_len 1 xs ys (by omega)
  have hne : xs ≠ [] := fun e => by rw [e] at hx; simp at hx; omega
  have hne1 : doF 1 xs ys ≠ [] := fun e => by rw [e] at l1; simp at l1; omega
  refine (sg_inj (by rw [doF_len 0 _ _ (by omega)]; omega)).1 ?_
  rw [do_sg 0 _ _ (by omega) hne1, do_sg 1 _ _ (by omega) hne, l1]
  show trimZ (trimZ (sg xs - sg ys) xs.length + sg ys) xs.length = _
  unfold trimZ
  rw [Int.bmod_add_bmod, show sg xs - sg ys + sg ys = sg xs by omega]
  exact sg_trim xs
theorem law_quot (hx : xs.length = k) (hy : ys.length = k) (hk : 1 ≤ k) (hnz : ys.any id = true) : doF 0 (doF 2 (doF 3 xs ys) ys) (doF 4 xs ys) = xs := by
  have l3 := doF_len 3 xs ys (by omega)
  have l4 := doF_len 4 xs ys (by omega)
  have l2 := doF_len 2 (doF 3 xs ys) ys (by omega)
  have hne : xs ≠ [] := fun e => by rw [e] at hx; simp at hx; omega
  have hney : ys ≠ [] := fun e => by rw [e] at hy; simp at hy; omega
  have hne3 : doF 3 xs ys ≠ [] := fun e => by rw [e] at l3; simp at l3; omega
  have hne2 : doF 2 (doF 3 xs ys) ys ≠ [] := fun e => by rw [e] at l2; simp at l2; omega
  rw [any_sg ys hney] at hnz
  have hz : sg ys ≠ 0 := of_decide_eq_true hnz
  refine (sg_inj (by rw [doF_len 0 _ _ (by omega)]; omega)).1 ?_
  rw [do_sg 0 _ _ (by omega) hne2, do_sg 2 _ _ (by omega) hne3, do_sg 3 _ _ (by omega) hne, do_sg 4 _ _ (by omega) hne, l2, l3]
  simp only [doZ, if_neg hz]
  generalize hA : sg xs = A at *
  generalize hB : sg ys = B at *
  generalize hq : (if (decide (A < 0) != decide (B < 0)) then -((A.natAbs / B.natAbs : Nat) : Int) else ((A.natAbs / B.natAbs : Nat) : Int)) = q
  generalize hr : (if (decide (A < 0)) then -((A.natAbs % B.natAbs : Nat) : Int) else ((A.natAbs % B.natAbs : Nat) : Int)) = r
  have key : q * B + r = A := by
    have hd := Nat.div_add_mod A.natAbs B.natAbs
    have hdz : ((B.natAbs * (A.natAbs / B.natAbs) + A.natAbs % B.natAbs : Nat) : Int) = (A.natAbs : Int) := by rw [hd]
    generalize A.natAbs / B.natAbs = u at *
    generalize A.natAbs % B.natAbs = v at *
    push_cast at hdz
    by_cases ha : A < 0 <;> by_cases hb : B < 0
    · have e1 : (B.natAbs : Int) = -B := by omega
      have e2 : (A.natAbs : Int) = -A := by omega
      rw [e1, e2] at hdz
      simp [ha, hb] at hq hr
      rw [← hq, ← hr, Int.mul_comm]
      rw [Int.neg_mul] at hdz
      omega
    · have e1 : (B.natAbs : Int) = B := by omega
      have e2 : (A.natAbs : Int) = -A := by omega
      rw [e1, e2] at hdz
      simp [ha, hb] at hq hr
      rw [← hq, ← hr, Int.neg_mul, Int.mul_comm]
      omega
    · have e1 : (B.natAbs : Int) = -B := by omega
      have e2 : (A.natAbs : Int) = A := by omega
      rw [e1, e2] at hdz
      simp [ha, hb] at hq hr
      rw [← hq, ← hr, Int.neg_mul, Int.mul_comm]
      rw [Int.neg_mul] at hdz
      omega
    · have e1 : (B.natAbs : Int) = B := by omega
      have e2 : (A.natAbs : Int) = A := by omega
      rw [e1, e2] at hdz
      simp [ha, hb] at hq hr
      rw [← hq, ← hr, Int.mul_comm]
      omega
  rw [trimZ_add (trimZ q xs.length * B), ← hA, ← sg_trim xs, hA]
  show trimZ (trimZ q xs.length * B + r) xs.length = _
  have h1 : trimZ (trimZ q xs.length * B + r) xs.length = trimZ (q * B + r) xs.length := by
    unfold trimZ
    rw [Int.add_bmod, Int.bmod_mul_bmod, ← Int.add_bmod]
  rw [h1, key]
theorem law_self (hx : xs.length = k) (hk : 1 ≤ k) : (doF 1 xs xs).any id = false := by
  have l1 := doF_len 1 xs xs rfl
  have hne : xs ≠ [] := fun e => by rw [e] at hx; simp at hx; omega
  have hne1 : doF 1 xs xs ≠ [] := fun e => by rw [e] at l1; simp at l1; omega
  rw [any_sg _ hne1, do_sg 1 _ _ rfl hne]
  simp [doZ, trimZ_zero]
theorem law_neg (hx : xs.length = k) (hy : ys.length = k) (hk : 1 ≤ k) (hz : sg ys = 0) : doF 1 ys (doF 1 ys xs) = xs := by
  have l1 := doF_len 1 ys xs (by omega)
  have hney : ys ≠ [] := fun e => by rw [e] at hy; simp at hy; omega
  refine (sg_inj (by rw [doF_len 1 _ _ (by omega)]; omega)).1 ?_
  rw [do_sg 1 _ _ (by omega) hney, do_sg 1 _ _ (by omega) hney, hz]
  show trimZ (0 - trimZ (0 - sg xs) ys.length) ys.length = _
  unfold trimZ
  rw [Int.sub_bmod_bmod, show (0 : Int) - (0 - sg xs) = sg xs by omega, hy, ← hx]
  exact sg_trim xs
theorem law_comm (hx : xs.length = k) (hy : ys.length = k) (hk : 1 ≤ k) : doF 2 xs ys = doF 2 ys xs := by
  have hne : xs ≠ [] := fun e => by rw [e] at hx; simp at hx; omega
  have hney : ys ≠ [] := fun e => by rw [e] at hy; simp at hy; omega
  refine (sg_inj (by rw [doF_len 2 _ _ (by omega), doF_len 2 _ _ (by omega)]; omega)).1 ?_
  rw [do_sg 2 _ _ (by omega) hne, do_sg 2 _ _ (by omega) hney, hx, hy]
  simp only [doZ, Int.mul_comm]
theorem law_keep (hx : xs.length = k) (hy : ys.length = k) (hz : zs.length = k) (hk : 1 ≤ k) : decide (doF 0 xs zs = doF 0 ys zs) = decide (xs = ys) := by
  have hne : xs ≠ [] := fun e => by rw [e] at hx; simp at hx; omega
  have hney : ys ≠ [] := fun e => by rw [e] at hy; simp at hy; omega
  refine decide_eq_decide.2 ⟨fun e => ?_, fun e => by rw [e]⟩
  have h := congrArg sg e
  rw [do_sg 0 _ _ (by omega) hne, do_sg 0 _ _ (by omega) hney, hx, hy] at h
  simp only [doZ] at h
  refine (sg_inj (by omega)).1 ?_
  have h2 : trimZ (trimZ (sg xs + sg zs) k - sg zs) k = trimZ (trimZ (sg ys + sg zs) k - sg zs) k := congrArg (fun z => trimZ (z - sg zs) k) h
  unfold trimZ at h2
  rw [Int.bmod_sub_bmod, Int.bmod_sub_bmod, show sg xs + sg zs - sg zs = sg xs by omega, show sg ys + sg zs - sg zs = sg ys by omega] at h2
  have a := sg_trim xs
  have b := sg_trim ys
  rw [hx] at a
  rw [hy] at b
  unfold trimZ at a b
  rw [a, b] at h2
  exact h2
end

theorem BLaw.back {W w5 w7 : World} {G : Loc} {L : List Nd} (h : BLaw W w5 G L) (hb : Below w5.heap.size w5 w7) : BLaw W w7 G L := h.after hb
/-- A model whose row is none of the graph's. -/
theorem ModV.of_own {W w : World} {G : Loc} {g c n : Nat} {bs : List Bool} (h : w.ownsRow W.heap.size 4 1 (.slice (some ⟨g, 0, none⟩) n c) n (bs.map Value.bool)) (hn : bs.length = n) (h0 : 0 < n) (hG : ¬ G.has g) : ModV w G (some ⟨g, 0, none⟩) bs := by
  have hO : OwnB W w (.slice (some ⟨g, 0, none⟩) n c) bs := by unfold OwnB; rw [hn]; exact h
  obtain ⟨b, c', e, _, h2, h3⟩ := hO.arg (by omega)
  cases e
  refine ⟨g, rfl, h2, hG, fun j hj => ?_⟩
  rcases h3 with q | ⟨b', off, e, _, q⟩
  · omega
  · cases e
    have := q j hj
    rwa [Nat.zero_add] at this
theorem grown_below {w5 w6 w7 : World} {b : Nat} (h : Below w5.heap.size w5 w6) (hg : w6.grownBy w7 (some b)) (hb : w5.heap.size ≤ b) : Below w5.heap.size w5 w7 :=
  h.grown hg h.size (fun k e => by cases e; exact hb)
end Go.Proofs.Ytnkcdgpaphphaaa.Gr
