/- Contracts of Input, Or, Xor, Mux. -/
import Derived.Test.YtbggenilngpjcaaGrD
namespace Go.Proofs.Ytbggenilngpjcaa.Gr
open Go Go.RowKit Go.Lib Go.Maps

set_option maxRecDepth 100000 in
set_option maxHeartbeats 4000000 in
theorem Input_any {w : World} {G : Loc} {L : List Nd} (h : Rep w G L) (hl : L.length < 150000) :
    Calls Try.prog 26 #[.pointer (some ⟨G.h, 0, none⟩)] w (OpE w G (2 * (L.length + 1), L ++ [none])) := by
  have HADD : Hid (Calls Try.prog 41 #[.pointer (some ⟨G.h, 0, none⟩), .agg #[.int .i64 0, .int .i64 0]] w (AddE w G L L (ins L) none)) := add_any h none hl
  obtain ⟨K, hK⟩ : ∃ K, K = 2 * (L.length + 1) := ⟨_, rfl⟩
  have HK := Lib.hid hK
  have hne : ((K : Int) != 0) = true := by simp; omega
  have hil : ins L ≤ L.length := List.countP_le_length
  have HIL : Hid (ins L < 1000000) := by show ins L < _; omega
  clear h hl hK hil
  go_enter Try.func26, Try.ntmps26
  go_wp2_with fail
  refine HADD.out.mono ?_
  rintro e w2 ⟨rfl, G2, r1, r2, r3, r4⟩
  rw [← HK.out]
  obtain ⟨xs, x1, x2⟩ := r1.inps
  obtain ⟨a, k, e2, _, _⟩ := own_form x2
  have c2 := r1.c2
  have z2 := r1.head.free 2
  have hs := r1.head.lt
  rw [r2.h] at c2 z2 hs
  rw [e2] at c2
  have HH := Lib.hid x2
  have HR := Lib.hid r1
  have HF := Lib.hid r2
  have E2 := Lib.hid e2
  have HX := Lib.hid x1
  rw [e2] at HH
  have hne2 : some G.h ≠ (Value.slice a (ins L) k).ownBlock := by rw [← e2, ← r2.h]; exact Ne.symm r1.hi
  obtain ⟨ii, hi, hz0, hz1, hz2⟩ := info_parts infoInt
  clear r1 r2 r3 r4 x1 x2 e2
  have hil := HIL.out
  have hil2 : ins L + 1 ≤ maxLen := by unfold maxLen; omega
  have HIL2 := Lib.hid hil2
  obtain ⟨j, hj⟩ : ∃ j, j = ins L := ⟨_, rfl⟩
  rw [← hj] at c2 HH HR E2 HX hne2 HIL HIL2
  have HJ := Lib.hid hj
  have HIN : Hid ((inE (L ++ [none]))[j]? = some (K : Int)) := by
    rw [Hid, inE_snoc, HJ.out, ← inE_len, List.getElem?_append_right (Nat.le_refl _), Nat.sub_self, HK.out]
    simp
  clear hil hil2 hj HADD
  go_wp2_with (at_builtin; refine wpList_append_lies _ rfl _ _ 26 rfl 0 3 ii _ 1 8 Try.underlying26 hi hz0 hz1 hz2 rfl (by decide) _ _ _ rfl (HH.out.alloc _) ⟨w2.heap.size, 0, none⟩ 1 1 [.int .i64 (K : Int)] rfl rfl (World.news_of_block (cs := #[.int .i64 (K : Int)]) (t := 3) (fr := (0, 0)) (heap_alloc_new w2 _)) (by simp [Value.oneCell']) (by decide) HIL2.out (by have := HIL.out; omega) (Nat.zero_le _) (w2.heap.size + 1) (by simp) ?_; intro g cap w3 hown hgrow hat hlt1; have cl := hgrow.cell ((World.cell?_of_block (a := ⟨G.h, 2, none⟩) (Below.heap_alloc w2 _ _ hs)).trans c2) hne2; have fz := (hgrow.frozen_far ⟨G.h, 2, none⟩ (by simp; omega) hne2).trans ((World.frozen?_of_block (Below.heap_alloc w2 _ _ hs)).trans z2))
  go_ret
  have HW := HR.out.alloc (.cells #[.int .i64 (K : Int)] 3)
  have R := HW.pushIn HX.out HIN.out (by rw [E2.out]; exact hgrow) (by rw [E2.out]; exact hat.imp id (fun e => by simp; omega)) hown
  rw [HF.out.h] at R
  refine ⟨by rw [HK.out]; rfl, _, ?_, HF.out.trans ((Fr.alloc _ _ _).trans R.2)⟩
  have e : ins (L ++ [none]) = j + 1 := by
    rw [ins_snoc]
    show ins L + (if true = true then 1 else 0) = _
    rw [if_pos rfl, HJ.out]
  show RepX _ _ _ _ (ins (L ++ [none]))
  rw [e]
  exact R.1.asInput

theorem OpE.pre' {w w1 : World} {G G1 : Loc} {r : Nat × List Nd} {e : Ending} {w' : World} (h : OpE w1 G1 r e w') (f : Fr G w w1 G1) : OpE w G r e w' := by
  obtain ⟨h1, G', h2, h3⟩ := h; exact ⟨h1, G', h2, f.trans h3⟩
theorem OpE.thenE {w : World} {G : Loc} {r : Nat × List Nd} {e : Ending} {w1 : World} (h : OpE w G r e w1) : e = .returned (.int .i64 (r.1 : Int)) ∧ ∃ G', G'.h = G.h ∧ Rep w1 G' r.2 ∧ Fr G w w1 G' := by
  obtain ⟨h1, G', h2, h3⟩ := h; exact ⟨h1, G', h3.h, h2, h3⟩

set_option maxHeartbeats 1000000 in
theorem Or_any {w : World} {G : Loc} {L : List Nd} (h : Rep w G L) (hW : Wf L) (x y : Int) (hx : x ≤ 9223372036854775807) (hy : y ≤ 9223372036854775807) (hl : L.length < 140000) :
    Calls Try.prog 29 #[.pointer (some ⟨G.h, 0, none⟩), .int .i64 x, .int .i64 y] w (OpE w G (orE L (own L x) (own L y))) := by
  have HX := Lib.hid (not_any h x hx (by omega))
  have HY := Lib.hid (not_any h y hy (by omega))
  have ha := own_lt L x
  have hb := own_lt L y
  have HA := And_any h (neg (own L x) : Nat) (neg (own L y) : Nat) (by have := neg_lt ha; omega) (by have := neg_lt hb; omega) (by omega)
  rw [own_nat (neg_lt ha), own_nat (neg_lt hb)] at HA
  have HAns := andE_ans hW (neg_lt ha) (neg_lt hb)
  have HAA := Lib.hid HA
  have hlen := HAns.lenle
  have hown := HAns.own
  have HN : Hid (∀ w2, Calls Try.prog 22 #[.int .i64 ((andE L (neg (own L x)) (neg (own L y))).1 : Int)] w2 fun r w' => r = .returned (.int .i64 (neg (andE L (neg (own L x)) (neg (own L y))).1 : Int)) ∧ w2 = w') := fun w2 => Not_any _ w2 (by omega)
  have HE : Hid (orE L (own L x) (own L y) = (neg (andE L (neg (own L x)) (neg (own L y))).1, (andE L (neg (own L x)) (neg (own L y))).2)) := rfl
  generalize andE L (neg (own L x)) (neg (own L y)) = r at *
  generalize neg (own L x) = a at *
  generalize neg (own L y) = b at *
  clear h hW ha hb HA HAns hlen hown hl
  go_enter Try.func29, Try.ntmps29
  go_wp2_with fail
  refine HX.out.mono ?_
  rintro e w' ⟨rfl, rfl⟩
  go_wp2_with fail
  refine HY.out.mono ?_
  rintro e w' ⟨rfl, rfl⟩
  go_wp2_with fail
  refine HAA.out.mono ?_
  rintro e w1 ⟨rfl, G1, r1, r2⟩
  have HR := Lib.hid (And.intro r1 r2)
  clear r1 r2
  go_wp2_with fail
  refine (HN.out w1).mono ?_
  rintro e w' ⟨rfl, rfl⟩
  go_wp2_with fail
  go_ret
  rw [HE.out]
  exact ⟨rfl, G1, HR.out.1, HR.out.2⟩

set_option maxHeartbeats 1000000 in
theorem Xor_any {w : World} {G : Loc} {L : List Nd} (h : Rep w G L) (hW : Wf L) (x y : Nat) (hx : x < 2 * (L.length + 1)) (hy : y < 2 * (L.length + 1)) (hl : L.length < 130000) :
    Calls Try.prog 28 #[.pointer (some ⟨G.h, 0, none⟩), .int .i64 (x : Int), .int .i64 (y : Int)] w (OpE w G (xorE L x y)) := by
  have a1 := orE_ans hW hx hy
  have l1 := a1.le
  have m1 := a1.lenle
  have a2 := andE_ans a1.wf (x := x) (y := y) (by omega) (by omega)
  have l2 := a2.le
  have m2 := a2.lenle
  have o1 := a1.own
  have o2 := a2.own
  have H1 := Or_any h hW (x : Int) (y : Int) (by omega) (by omega) (by omega)
  rw [own_nat hx, own_nat hy] at H1
  have HH1 := Lib.hid H1
  have HE : Hid (xorE L x y = andE (andE (orE L x y).2 x y).2 (orE L x y).1 (neg (andE (orE L x y).2 x y).1)) := rfl
  generalize hr : orE L x y = r at *
  have HR : Hid (Wf r.2 ∧ r.2.length < 131000 ∧ x < 2 * (r.2.length + 1) ∧ y < 2 * (r.2.length + 1)) := ⟨a1.wf, by omega, by omega, by omega⟩
  generalize hs : andE r.2 x y = s at *
  have HS : Hid (Wf s.2 ∧ s.2.length < 132000 ∧ r.1 < 2 * (s.2.length + 1) ∧ s.1 < 2 * (s.2.length + 1)) := ⟨a2.wf, by omega, by omega, by omega⟩
  have HHS := Lib.hid hs
  clear h hW a1 l1 m1 a2 l2 m2 o1 o2 H1 hl hr hs
  go_enter Try.func28, Try.ntmps28
  go_wp2_with fail
  refine HH1.out.mono ?_
  intro e w1 hop
  obtain ⟨rfl, G1, g1, r1, r2⟩ := hop.thenE
  have H2 := And_any r1 (x : Int) (y : Int) (by have := HR.out.2; omega) (by have := HR.out.2; omega) (by have := HR.out.2.1; omega)
  rw [own_nat HR.out.2.2.1, own_nat HR.out.2.2.2, HHS.out, g1] at H2
  have HH2 := Lib.hid H2
  have HF1 := Lib.hid r2
  clear r1 r2 H2 hop
  go_wp2_with fail
  refine HH2.out.mono ?_
  intro e w2 hop
  obtain ⟨rfl, G2, g2, r1, r2⟩ := hop.thenE
  have HN := Lib.hid (Not_any s.1 w2 (by have := HS.out.2; omega))
  have H3 := And_any r1 (r.1 : Int) (neg s.1 : Int) (by have := HS.out.2; omega) (by have := neg_lt HS.out.2.2.2; have := HS.out.2; omega) (by have := HS.out.2.1; omega)
  rw [own_nat HS.out.2.2.1, own_nat (neg_lt HS.out.2.2.2), g2, g1] at H3
  have HH3 := Lib.hid H3
  have HF2 := Lib.hid (HF1.out.trans r2)
  clear r1 r2 H3 hop
  go_wp2_with fail
  refine HN.out.mono ?_
  rintro e w' ⟨rfl, rfl⟩
  go_wp2_with fail
  refine HH3.out.mono ?_
  intro e w3 hop
  have HP := Lib.hid (hop.pre' HF2.out)
  obtain ⟨rfl, _⟩ := hop.thenE
  clear hop
  go_wp2_with fail
  go_ret
  rw [HE.out]
  exact HP.out

end Go.Proofs.Ytbggenilngpjcaa.Gr
