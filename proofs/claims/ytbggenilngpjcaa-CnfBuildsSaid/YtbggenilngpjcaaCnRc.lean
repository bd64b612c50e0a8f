/- Contracts of the document's own Need, Lit. -/
import Derived.Test.YtbggenilngpjcaaCnRb
import Derived.Test.YtbggenilngpjcaaCnRg
namespace Go.Proofs.Ytbggenilngpjcaa.Cn
open Go Go.RowKit Go.Lib Go.Maps Go.Proofs.Ytbggenilngpjcaa.Gr

/-- What Need answers. -/
def RNE (w : World) (r : Nat) (gv : Value) (L : List Nd) (R : RLoc) (S' : Mk) (e : Ending) (w' : World) : Prop :=
  e = .returned (.tuple #[]) ∧ ∃ R', R'.h = R.h ∧ RM w' r gv L R' S' ∧ XFr (R.has r gv) w w' (R'.has r gv)

theorem bel {w w' : World} (h : Below w.heap.size w w') (o : Obj) : Below w.heap.size w (w'.alloc o) := h.alloc h.size o
theorem belD {w w' : World} (h : Below w.heap.size w w') : Below w.heap.size w w'.drew := h.drew
theorem hlast (Y : World) (o : Obj) (B : Nat) (hB : B = Y.heap.size) : (Y.alloc o).drew.heap[B]? = some o := by subst hB; exact heap_alloc_new Y o
theorem at4D (w : World) (a b c d : Obj) : ((((w.alloc a).alloc b).alloc c).alloc d).drew.heap[w.heap.size]? = some a ∧ ((((w.alloc a).alloc b).alloc c).alloc d).drew.heap[w.heap.size + 1]? = some b ∧ ((((w.alloc a).alloc b).alloc c).alloc d).drew.heap[w.heap.size + 1 + 1]? = some c := at4 w a b c d
/-- Three clauses in three new blocks, whatever their order. -/
theorem cls_any {w : World} {p1 p2 q1 q2 r1 r2 r3 : Int} {i j k : Nat} (h1 : w.heap[i]? = some (.cells #[.int .i64 p1, .int .i64 p2] 3 (0, 0))) (h2 : w.heap[j]? = some (.cells #[.int .i64 q1, .int .i64 q2] 3 (0, 0))) (h3 : w.heap[k]? = some (.cells #[.int .i64 r1, .int .i64 r2, .int .i64 r3] 3 (0, 0))) :
    Cls w [.slice (some ⟨i, 0, none⟩) 2 2, .slice (some ⟨j, 0, none⟩) 2 2, .slice (some ⟨k, 0, none⟩) 3 3] [[p1, p2], [q1, q2], [r1, r2, r3]] := by
  refine ⟨rfl, fun x v c g1 g2 => ?_⟩
  match x with
  | 0 => simp at g1 g2; subst g1 g2; exact ⟨_, rfl, h1⟩
  | 1 => simp at g1 g2; subst g1 g2; exact ⟨_, rfl, h2⟩
  | 2 => simp at g1 g2; subst g1 g2; exact ⟨_, rfl, h3⟩
  | x + 3 => simp at g1

set_option maxRecDepth 100000 in
set_option maxHeartbeats 4000000 in
theorem RNeed_old {w : World} {r : Nat} {gv : Value} {L : List Nd} {R : RLoc} {S : Mk} (h : RM w r gv L R S) (hO : Ok L S.vs) (hl : L.length ≤ 400) (n : Nat) (hn : n ∈ S.vs) :
    Calls Try.prog 34 #[.pointer (some ⟨R.h, 0, none⟩), .int .i64 (n : Int)] w (RNE w r gv L R S) := by
  have hvl := hO.len
  have hnl := hO.own n hn
  have HV := Lib.hid (Var_any h n (by omega) (by omega) (fun x hx => by have := hO.own x hx; omega))
  have hp := var_pos hn
  have HFIN : Hid (RNE w r gv L R S (.returned (.tuple #[])) w) := ⟨rfl, R, rfl, h, XFr.refl _ _⟩
  generalize var S.vs n = v at *
  have v0 : (0 : Int) < (v : Int) := by omega
  clear h hO hn hvl hnl hp hl
  go_enter Try.func34, Try.ntmps34
  go_wp2_with fail
  refine HV.out.mono ?_
  rintro e w' ⟨rfl, rfl⟩
  go_wp2_with fail
  go_end0
  exact HFIN.out

set_option maxRecDepth 100000 in
set_option maxHeartbeats 4000000 in
theorem RNeed_leaf {w : World} {r : Nat} {gv : Value} {L : List Nd} {R : RLoc} {S : Mk} (h : RM w r gv L R S) (hO : Ok L S.vs) (hl : L.length ≤ 400) (k : Nat) (hn : k + 1 ∉ S.vs) (hk : L[k]? = some none) :
    Calls Try.prog 34 #[.pointer (some ⟨R.h, 0, none⟩), .int .i64 ((k + 1 : Nat) : Int)] w (RNE w r gv L R ⟨S.vs ++ [k + 1], S.cs⟩) := by
  have hvl := hO.len
  have hkl : k < L.length := (List.getElem?_eq_some_iff.1 hk).1
  have HV := Var_any h (k + 1) (by omega) (by omega) (fun x hx => by have := hO.own x hx; omega)
  rw [var_zero hn] at HV
  have HV := Lib.hid HV
  have c0 := h.c0
  have c1 := h.c1
  have z1 := h.head.free 1
  have hs := h.head.lt
  obtain ⟨gg, gc, eg, d0, d1, d2⟩ := h.gr.node hk
  have g0 := h.gr.c0
  rw [eg] at g0
  obtain ⟨a, c, e, _⟩ := own_form h.vs
  have HOW := h.vs
  have hne : some R.h ≠ R.lv.ownBlock := fun q => h.nh R.h (Or.inr (Or.inl q.symm)) rfl
  rw [e] at c1 HOW hne
  obtain ⟨V, hV⟩ : ∃ V, V = S.vs.length := ⟨_, rfl⟩
  rw [← hV] at c1 HOW hne e
  have HOW := Lib.hid HOW
  have HE := Lib.hid (And.intro e hV)
  have HR := Lib.hid h
  obtain ⟨LL, hLL⟩ : ∃ l, l = L.length := ⟨_, rfl⟩
  rw [← hLL] at g0
  have kl : (k : Int) < (LL : Int) := by omega
  have k0 : (0 : Int) ≤ (k : Int) := by omega
  have k9 : (k : Int) ≤ 400 := by omega
  have HLN : Hid (V + 1 ≤ maxLen ∧ (V + 1) * 8 ≤ 140737488355328) := ⟨by unfold maxLen; omega, by omega⟩
  obtain ⟨ii, hi, hz0, hz1, hz2⟩ := info_parts Cn.infoInt
  have d0' : w.cell? ⟨gg, k * 3, none⟩ = some (.bool true) := d0
  clear h hO hl hn hk hvl hkl eg e hV hLL d0 d1 d2
  go_enter Try.func34, Try.ntmps34
  go_wp2_with fail
  refine HV.out.mono ?_
  rintro e w' ⟨rfl, rfl⟩
  go_wp2_with (at_builtin; refine wpList_append_lies _ rfl _ _ 26 rfl 0 3 ii _ 1 8 Try.underlying26 hi hz0 hz1 hz2 rfl (by decide) _ _ _ rfl (HOW.out.alloc _) ⟨w.heap.size, 0, none⟩ 1 1 [.int .i64 ((k : Int) + 1)] rfl rfl (World.news_of_block (cs := #[.int .i64 ((k : Int) + 1)]) (t := 3) (fr := (0, 0)) (heap_alloc_new w _)) (by simp [Value.oneCell']) (by decide) HLN.out.1 HLN.out.2 (Nat.zero_le _) (w.heap.size + 1) (by simp) ?_; intro g cap w3 hown hgrow hat hlt1; have cl := hgrow.cell ((World.cell?_of_block (a := ⟨R.h, 1, none⟩) (Below.heap_alloc w _ _ hs)).trans c1) hne; have fz := (hgrow.frozen_far ⟨R.h, 1, none⟩ (by simp; omega) hne).trans ((World.frozen?_of_block (Below.heap_alloc w _ _ hs)).trans z1))
  have hba : Below w.heap.size w (w.alloc (.cells #[.int .i64 ((k : Int) + 1)] 3)) := (Below.refl _ _).alloc (Nat.le_refl _) _
  have P := (HR.out.below hba).pushV (n := k + 1) (g := g) (cap := cap) (w3 := w3) (by rw [HE.out.1]; exact hgrow) (by rw [HE.out.1]; exact hat.imp id (fun e => by simp; omega)) (by rw [← HE.out.2]; exact hown)
  rw [← HE.out.2] at P
  have HFIN : Hid (RNE w r gv L R ⟨S.vs ++ [k + 1], S.cs⟩ (.returned (.tuple #[])) (w3.setCell ⟨R.h, 1, none⟩ (.slice (some ⟨g, 0, none⟩) (V + 1) cap))) := ⟨rfl, _, by rfl, P.1, (XFr.ofBelow hba).trans P.2⟩
  clear P hba hown hgrow hat hlt1
  go_wp2_with fail
  go_end0
  exact HFIN.out

theorem RM.pushC3 {w4 X w9 : World} {r : Nat} {gv : Value} {L : List Nd} {R : RLoc} {S : Mk} {h0 Nc k2 g cap i j k H : Nat} {a2 : Option Addr} {p1 p2 q1 q2 r1 r2 r3 : Int} (h : RM w4 r gv L R S) (hR : R.h = h0) (hcv : R.cv = .slice a2 Nc k2) (hN : Nc = S.cs.length) (hb : Below w4.heap.size w4 X)
    (hi : w4.heap.size ≤ i) (hj : w4.heap.size ≤ j) (hk : w4.heap.size ≤ k) (f1 : X.heap[i]? = some (.cells #[.int .i64 p1, .int .i64 p2] 3 (0, 0))) (f2 : X.heap[j]? = some (.cells #[.int .i64 q1, .int .i64 q2] 3 (0, 0))) (f3 : X.heap[k]? = some (.cells #[.int .i64 r1, .int .i64 r2, .int .i64 r3] 3 (0, 0)))
    (hgrow : X.grownBy w9 (Value.slice a2 Nc k2).ownBlock) (hat : (Value.slice a2 Nc k2).ownBlock = some g ∨ g = H) (hH : H = X.heap.size) (hown : w9.ownsRow 0 26 1 (.slice (some ⟨g, 0, none⟩) (Nc + 3) cap) (Nc + 3) (R.rs ++ [.slice (some ⟨i, 0, none⟩) 2 2, .slice (some ⟨j, 0, none⟩) 2 2, .slice (some ⟨k, 0, none⟩) 3 3])) :
    ∃ R', R'.h = h0 ∧ RM (w9.setCell ⟨h0, 2, none⟩ (.slice (some ⟨g, 0, none⟩) (Nc + 3) cap)) r gv L R' ⟨S.vs, S.cs ++ [[p1, p2], [q1, q2], [r1, r2, r3]]⟩ ∧ XFr (R.has r gv) w4 (w9.setCell ⟨h0, 2, none⟩ (.slice (some ⟨g, 0, none⟩) (Nc + 3) cap)) (R'.has r gv) := by
  have P := h.pushC (m := Nc + 3) hb (by rw [hN]; rfl) (cls_any f1 f2 f3) (fun x ⟨v, hv, hx⟩ => by
    simp at hv
    rcases hv with rfl | rfl | rfl <;> (have e := Option.some.inj (show some _ = some x from hx); simp at e; omega)) (by rw [hcv]; exact hgrow) (by rw [hcv]; exact hat.imp id (fun e => by omega)) hown
  rw [hR] at P
  exact ⟨_, rfl, P.1, P.2⟩

set_option maxRecDepth 100000 in
set_option maxHeartbeats 8000000 in
theorem RNeed_and {w : World} {r : Nat} {gv : Value} {L : List Nd} {R : RLoc} {S S1 S2 : Mk} (h : RM w r gv L R S) (hO : Ok L S.vs) (hO2 : Ok L S2.vs) (hl : L.length ≤ 400) (k a b : Nat) (hn : k + 1 ∉ S.vs) (hk : L[k]? = some (some (a, b))) (hab : a < 2 * (k + 1) ∧ b < 2 * (k + 1)) (hcs : S2.cs.length ≤ 10000) (_ha : k + 1 ∉ S2.vs)
    (H1 : Calls Try.prog 34 #[.pointer (some ⟨R.h, 0, none⟩), .int .i64 ((a / 2 : Nat) : Int)] w (RNE w r gv L R S1))
    (H2 : ∀ w1 R1, R1.h = R.h → RM w1 r gv L R1 S1 → Calls Try.prog 34 #[.pointer (some ⟨R.h, 0, none⟩), .int .i64 ((b / 2 : Nat) : Int)] w1 (RNE w1 r gv L R1 S2)) :
    Calls Try.prog 34 #[.pointer (some ⟨R.h, 0, none⟩), .int .i64 ((k + 1 : Nat) : Int)] w (RNE w r gv L R ⟨S2.vs ++ [k + 1], S2.cs ++ [[-((S2.vs.length : Int) + 1), lit (S2.vs ++ [k + 1]) a], [-((S2.vs.length : Int) + 1), lit (S2.vs ++ [k + 1]) b], [(S2.vs.length : Int) + 1, -lit (S2.vs ++ [k + 1]) a, -lit (S2.vs ++ [k + 1]) b]]⟩) := by
  have hvl := hO.len
  have hvl2 := hO2.len
  have hkl : k < L.length := (List.getElem?_eq_some_iff.1 hk).1
  have HV := Var_any h (k + 1) (by omega) (by omega) (fun x hx => by have := hO.own x hx; omega)
  rw [var_zero hn] at HV
  have HV := Lib.hid HV
  have c0 := h.c0
  obtain ⟨gg, gc, eg, d0, d1, d2⟩ := h.gr.node hk
  have g0 := h.gr.c0
  rw [eg] at g0
  obtain ⟨LL, hLL⟩ : ∃ l, l = L.length := ⟨_, rfl⟩
  rw [← hLL] at g0
  have kl : (k : Int) < (LL : Int) := by omega
  have k0 : (0 : Int) ≤ (k : Int) := by omega
  have k9 : (k : Int) ≤ 400 := by omega
  have hda : (a : Int).tdiv 2 = ((a / 2 : Nat) : Int) := by rw [Int.tdiv_eq_ediv_of_nonneg (by omega)]; omega
  have hdb : (b : Int).tdiv 2 = ((b / 2 : Nat) : Int) := by rw [Int.tdiv_eq_ediv_of_nonneg (by omega)]; omega
  have HH1 := Lib.hid H1
  have HH2 := Lib.hid H2
  have HBD : Hid (a < 1000 ∧ b < 1000) := ⟨by omega, by omega⟩
  have ha9 : (a : Int) ≤ 1000 := by omega
  have hb9 : (b : Int) ≤ 1000 := by omega
  have a0 : ¬ (a : Int) < 0 := by omega
  have b0 : ¬ (b : Int) < 0 := by omega
  have HX2 : Hid (S2.vs.length ≤ 401 ∧ S2.cs.length ≤ 10000 ∧ ∀ x ∈ S2.vs ++ [k + 1], x < 1000000) := ⟨by omega, hcs, fun x hx => by
    rcases List.mem_append.1 hx with q | q
    · have := hO2.own x q; omega
    · simp at q; omega⟩
  have d0' : w.cell? ⟨gg, k * 3, none⟩ = some (.bool false) := d0
  have d1' : w.cell? ⟨gg, k * 3 + 1, none⟩ = some (.int .i64 (a : Int)) := d1
  have d2' : w.cell? ⟨gg, k * 3 + 2, none⟩ = some (.int .i64 (b : Int)) := d2
  have x9 : ((a / 2 : Nat) : Int) ≤ 1000 := by omega
  have y9 : ((b / 2 : Nat) : Int) ≤ 1000 := by omega
  generalize a / 2 = x at *
  generalize b / 2 = y at *
  clear h hO hO2 hl hn hk hvl hvl2 hkl eg hLL d0 d1 d2 H1 H2 hab hcs
  go_enter Try.func34, Try.ntmps34
  go_wp2_with fail
  refine HV.out.mono ?_
  rintro e w' ⟨rfl, rfl⟩
  go_wp2_with fail
  refine HH1.out.mono ?_
  rintro e w1 ⟨rfl, R1, p1, p2, p3⟩
  have HH3 := Lib.hid (HH2.out w1 R1 p1 p2)
  have HF1 := Lib.hid p3
  have HP1 := Lib.hid p1
  clear p1 p2 p3
  go_wp2_with fail
  refine HH3.out.mono ?_
  rintro e w2 ⟨rfl, R2, p1, p2, p3⟩
  have hh2 : R2.h = R.h := p1.trans HP1.out
  have HF2 := Lib.hid (HF1.out.trans p3)
  obtain ⟨la, lc, el, _⟩ := own_form p2.vs
  have HOW := p2.vs
  have c1 := p2.c1
  have z1 := p2.head.free 1
  have hs := p2.head.lt
  have hne : some R2.h ≠ R2.lv.ownBlock := fun q => p2.nh R2.h (Or.inr (Or.inl q.symm)) rfl
  rw [el] at c1 HOW hne
  rw [hh2] at c1 z1 hs hne
  obtain ⟨V, hV⟩ : ∃ V, V = S2.vs.length := ⟨_, rfl⟩
  rw [← hV] at c1 HOW hne el
  have HOW := Lib.hid HOW
  have HE := Lib.hid (And.intro el (And.intro hV hh2))
  have HR := Lib.hid p2
  have HLN : Hid (V + 1 ≤ maxLen ∧ (V + 1) * 8 ≤ 140737488355328) := ⟨by have := HX2.out.1; unfold maxLen; omega, by have := HX2.out.1; omega⟩
  obtain ⟨ii, hi, hz0, hz1, hz2⟩ := info_parts Cn.infoInt
  clear p1 p2 p3 el hV hh2 HF1 HP1
  go_wp2_with (at_builtin; refine wpList_append_lies _ rfl _ _ 26 rfl 0 3 ii _ 1 8 Try.underlying26 hi hz0 hz1 hz2 rfl (by decide) _ _ _ rfl (HOW.out.alloc _) ⟨w2.heap.size, 0, none⟩ 1 1 [.int .i64 ((k : Int) + 1)] rfl rfl (World.news_of_block (cs := #[.int .i64 ((k : Int) + 1)]) (t := 3) (fr := (0, 0)) (heap_alloc_new w2 _)) (by simp [Value.oneCell']) (by decide) HLN.out.1 HLN.out.2 (Nat.zero_le _) (w2.heap.size + 1) (by simp) ?_; intro g cap w3 hown hgrow hat hlt1; have cl := hgrow.cell ((World.cell?_of_block (a := ⟨R.h, 1, none⟩) (Below.heap_alloc w2 _ _ hs)).trans c1) hne; have fz := (hgrow.frozen_far ⟨R.h, 1, none⟩ (by simp; omega) hne).trans ((World.frozen?_of_block (Below.heap_alloc w2 _ _ hs)).trans z1))
  have hba : Below w2.heap.size w2 (w2.alloc (.cells #[.int .i64 ((k : Int) + 1)] 3)) := (Below.refl _ _).alloc (Nat.le_refl _) _
  have P := (HR.out.below hba).pushV (n := k + 1) (g := g) (cap := cap) (w3 := w3) (by rw [HE.out.1]; exact hgrow) (by rw [HE.out.1]; exact hat.imp id (fun e => by simp; omega)) (by rw [← HE.out.2.1]; exact hown)
  rw [← HE.out.2.1, HE.out.2.2] at P
  have HP := Lib.hid P.1
  have HF3 := Lib.hid (HF2.out.trans ((XFr.ofBelow hba).trans P.2))
  clear P hba hown hgrow hat hlt1 HF2 cl fz c1 z1 hs hne HOW HR
  generalize hR3 : ({ h := R.h, lv := Value.slice (some ⟨g, 0, none⟩) (V + 1) cap, cv := R2.cv, rs := R2.rs } : RLoc) = R3 at *
  have HR3 : Hid (R3.h = R.h ∧ R3.lv = Value.slice (some ⟨g, 0, none⟩) (V + 1) cap) := ⟨by rw [← hR3], by rw [← hR3]⟩
  clear hR3
  generalize w3.setCell ⟨R.h, 1, none⟩ (.slice (some ⟨g, 0, none⟩) (V + 1) cap) = w4 at *
  have e1 := HP.out.c1
  have e2 := HP.out.c2
  have z2 := HP.out.head.free 2
  have hs := HP.out.head.lt
  obtain ⟨a2, k2, ec, _⟩ := own_form HP.out.cs
  have HOW := HP.out.cs
  have hne : some R3.h ≠ R3.cv.ownBlock := fun q => HP.out.nh R3.h (Or.inr (Or.inr (Or.inl q.symm))) rfl
  rw [ec] at e2 HOW hne
  rw [HR3.out.2] at e1
  rw [HR3.out.1] at e1 e2 z2 hs hne
  have HEC := Lib.hid ec
  have HLA : Hid (∀ w', Hid (VRep w' R.h R3.lv (S2.vs ++ [k + 1])) → Calls Try.prog 35 #[.pointer (some ⟨R.h, 0, none⟩), .int .i64 (a : Int)] w' fun x w'' => x = .returned (.int .i64 (lit (S2.vs ++ [k + 1]) a)) ∧ w' = w'') := fun w' hv =>
    reflit_v hv.out a (by have := HBD.out.1; omega) (by have := HX2.out.1; simp; omega) HX2.out.2.2
  have HLB : Hid (∀ w', Hid (VRep w' R.h R3.lv (S2.vs ++ [k + 1])) → Calls Try.prog 35 #[.pointer (some ⟨R.h, 0, none⟩), .int .i64 (b : Int)] w' fun x w'' => x = .returned (.int .i64 (lit (S2.vs ++ [k + 1]) b)) ∧ w' = w'') := fun w' hv =>
    reflit_v hv.out b (by have := HBD.out.2; omega) (by have := HX2.out.1; simp; omega) HX2.out.2.2
  have bda := lit_bd (S2.vs ++ [k + 1]) a
  have bdb := lit_bd (S2.vs ++ [k + 1]) b
  rw [List.length_append, List.length_singleton] at bda bdb
  have V9 : (V : Int) ≤ 401 := by have := HX2.out.1; have := HE.out.2.1; omega
  have hVV := HE.out.2.1
  rw [← hVV] at bda bdb
  rw [← hVV]
  have HVV := Lib.hid hVV
  clear hVV
  generalize lit (S2.vs ++ [k + 1]) a = p at *
  generalize lit (S2.vs ++ [k + 1]) b = q at *
  have p1 : -1000 ≤ p := by omega
  have p2 : p ≤ 1000 := by omega
  have q1 : -1000 ≤ q := by omega
  have q2 : q ≤ 1000 := by omega
  obtain ⟨Nc, hNc⟩ : ∃ n, n = S2.cs.length := ⟨_, rfl⟩
  have HOW' : w4.ownsRow 0 26 1 (.slice a2 S2.cs.length k2) S2.cs.length R3.rs := HOW
  have e2' : w4.cell? ⟨R.h, 2, none⟩ = some (.slice a2 S2.cs.length k2) := e2
  have hne' : some R.h ≠ (Value.slice a2 S2.cs.length k2).ownBlock := hne
  have HEC' : Hid (R3.cv = .slice a2 S2.cs.length k2) := HEC.out
  rw [← hNc] at HOW' e2' hne' HEC'
  have HOWB : Hid (∀ w', Below w4.heap.size w4 w' → w'.ownsRow 0 26 1 (.slice a2 Nc k2) Nc R3.rs) := fun w' hb => owns_of_heap HOW' fun j hj => hb.block j (HOW'.lt j hj).2
  have HCB : Hid (∀ w', Below w4.heap.size w4 w' → w'.cell? ⟨R.h, 2, none⟩ = some (.slice a2 Nc k2) ∧ w'.frozen? ⟨R.h, 2, none⟩ = false ∧ R.h < w'.heap.size) := fun w' hb => ⟨(hb.cell (p := ⟨R.h, 2, none⟩) hs).trans e2', (hb.frozen (p := ⟨R.h, 2, none⟩) hs).trans z2, Nat.lt_of_lt_of_le hs hb.size⟩
  have HL3 : Hid (Nc + 3 ≤ maxLen ∧ (Nc + 3) * 24 ≤ 140737488355328) := ⟨by have := HX2.out.2.1; unfold maxLen; omega, by have := HX2.out.2.1; omega⟩
  have HNC := Lib.hid hNc
  obtain ⟨ji, ji0, jz0, jz1, jz2⟩ := info_parts infoRow
  clear HOW HOW' e2 hne HEC ec hNc bda bdb
  have hw1 : IntKind.i64.wrap (-((V : Int) + 1)) = -((V : Int) + 1) := wrap_i64 (by omega) (by omega)
  have hw2 : IntKind.i64.wrap (-p) = -p := wrap_i64 (by omega) (by omega)
  have hw3 : IntKind.i64.wrap (-q) = -q := wrap_i64 (by omega) (by omega)
  go_wp2_with fail
  have HVB : Hid (∀ w', Below w4.heap.size w4 w' → Hid (VRep w' R.h R3.lv (S2.vs ++ [k + 1]))) := fun w' hb => by
    have := (HP.out.below hb).v
    rw [HR3.out.1] at this; exact this
  have HVG : Hid (∀ X w', Below w4.heap.size w4 X → X.grownBy w' (Value.slice a2 Nc k2).ownBlock → Hid (VRep w' R.h R3.lv (S2.vs ++ [k + 1]))) := fun X w' hb hg => by
    have h1 := HP.out.below hb
    have h2 := h1.v
    rw [HR3.out.1] at h2
    have hlh := h1.lt _ (Or.inl rfl)
    rw [HR3.out.1] at hlh
    refine ⟨(World.cell?_of_block (a := ⟨R.h, 1, none⟩) (hg.block R.h hlh (fun e => hne' e))).trans h2.1, owns_of_heap h2.2 fun j hj => hg.block j (h2.2.lt j hj).2 (fun e => ?_)⟩
    have := (h1.nl j hj).2.1
    rw [HEC'] at this
    exact this e.symm
  have HB : Hid (Below w4.heap.size w4 w4.drew) := (Below.refl _ _).drew
  refine wp_region_L (S := fun w' => w'.cell? ⟨R.h, 2, none⟩ = some (.slice a2 Nc k2) ∧ Hid (VRep w' R.h R3.lv (S2.vs ++ [k + 1]))) 32 (by kernel_rfl) (⟨e2', HVB.out _ (Below.refl _ _).drew⟩) (fun hSx => ?_)
  refine wpAnyL_take (i := 0) (v := ?vr1) rfl (by kernel_rfl) (fun _ _ _ h => h) ?r1 rfl hSx ?_
  case r1 => (intro w' hSw; (try dsimp only at hSw); go_split_ands; go_simp; try with_reducible rfl)
  clear hSx; intro hSx
  try simp only [Act.put, List.getElem_toArray, List.getElem_cons_zero, List.setIfInBounds_toArray, List.set_cons_zero, List.set_cons_succ]
  refine wpAnyL_take (i := 1) (v := ?vr2) rfl (by kernel_rfl) (fun _ _ _ h => h) ?r2 rfl hSx ?_
  case r2 => (intro w' hSw; (try dsimp only at hSw); go_split_ands; go_simp; try with_reducible rfl)
  clear hSx; intro hSx
  try simp only [Act.put, List.getElem_toArray, List.getElem_cons_succ, List.getElem_cons_zero, List.setIfInBounds_toArray, List.set_cons_zero, List.set_cons_succ]
  refine wpAnyL_take (i := 2) (v := ?vr3) rfl (by kernel_rfl) (fun _ _ _ h => h) ?r3 rfl hSx ?_
  case r3 => (intro w' hSw; (try dsimp only at hSw); go_split_ands; go_simp; try with_reducible rfl)
  clear hSx; intro hSx
  try simp only [Act.put, List.getElem_toArray, List.getElem_cons_succ, List.getElem_cons_zero, List.setIfInBounds_toArray, List.set_cons_zero, List.set_cons_succ]
  refine wpAnyL_take (i := 3) (v := ?vr4) rfl (by kernel_rfl) (fun _ _ _ h => h) ?r4 rfl hSx ?_
  case r4 => (intro w' hSw; (try dsimp only at hSw); go_split_ands; go_simp; try with_reducible rfl)
  clear hSx; intro hSx
  try simp only [Act.put, List.getElem_toArray, List.getElem_cons_succ, List.getElem_cons_zero, List.setIfInBounds_toArray, List.set_cons_zero, List.set_cons_succ]
  refine wpAnyL_take (i := 4) (v := ?vr5) rfl (by kernel_rfl) (fun _ _ _ h => h) ?r5 rfl hSx ?_
  case r5 => (intro w' hSw; (try dsimp only at hSw); go_split_ands; go_simp; try with_reducible rfl)
  clear hSx; intro hSx
  try simp only [Act.put, List.getElem_toArray, List.getElem_cons_succ, List.getElem_cons_zero, List.setIfInBounds_toArray, List.set_cons_zero, List.set_cons_succ]
  refine wpAnyL_take (i := 5) (v := ?vr6) rfl (by kernel_rfl) (fun _ _ _ h => h) ?r6 rfl hSx ?_
  case r6 => (intro w' hSw; (try dsimp only at hSw); go_split_ands; go_simp; try with_reducible rfl)
  clear hSx; intro hSx
  try simp only [Act.put, List.getElem_toArray, List.getElem_cons_succ, List.getElem_cons_zero, List.setIfInBounds_toArray, List.set_cons_zero, List.set_cons_succ]
  refine wpAnyL_take (i := 6) (v := ?vr7) rfl (by kernel_rfl) (fun _ _ _ h => h) ?r7 rfl hSx ?_
  case r7 => (intro w' hSw; (try dsimp only at hSw); go_split_ands; go_simp; try with_reducible rfl)
  clear hSx; intro hSx
  try simp only [Act.put, List.getElem_toArray, List.getElem_cons_succ, List.getElem_cons_zero, List.setIfInBounds_toArray, List.set_cons_zero, List.set_cons_succ]
  refine wpAnyL_take (i := 7) (v := ?vr8) rfl (by kernel_rfl) (fun _ _ _ h => h) ?r8 rfl hSx ?_
  case r8 => (intro w' hSw; (try dsimp only at hSw); go_split_ands; go_simp; try with_reducible rfl)
  clear hSx; intro hSx
  try simp only [Act.put, List.getElem_toArray, List.getElem_cons_succ, List.getElem_cons_zero, List.setIfInBounds_toArray, List.set_cons_zero, List.set_cons_succ]
  refine wpAnyL_take (i := 8) (v := ?vr9) rfl (by kernel_rfl) (fun _ _ _ h => h) ?r9 rfl hSx ?_
  case r9 => (intro w' hSw; (try dsimp only at hSw); go_split_ands; go_simp; try with_reducible rfl)
  clear hSx; intro hSx
  try simp only [Act.put, List.getElem_toArray, List.getElem_cons_succ, List.getElem_cons_zero, List.setIfInBounds_toArray, List.set_cons_zero, List.set_cons_succ]
  refine wpAnyL_take (i := 11) (v := ?vr10) rfl (by kernel_rfl) (fun _ _ _ h => h) ?r10 rfl hSx ?_
  case r10 => (intro w' hSw; (try dsimp only at hSw); go_split_ands; go_simp; try with_reducible rfl)
  clear hSx; intro hSx
  try simp only [Act.put, List.getElem_toArray, List.getElem_cons_succ, List.getElem_cons_zero, List.setIfInBounds_toArray, List.set_cons_zero, List.set_cons_succ]
  refine wpAnyL_take (i := 12) (v := ?vr11) rfl (by kernel_rfl) (fun _ _ _ h => h) ?r11 rfl hSx ?_
  case r11 => (intro w' hSw; (try dsimp only at hSw); go_split_ands; go_simp; try with_reducible rfl)
  clear hSx; intro hSx
  try simp only [Act.put, List.getElem_toArray, List.getElem_cons_succ, List.getElem_cons_zero, List.setIfInBounds_toArray, List.set_cons_zero, List.set_cons_succ]
  refine wpAnyL_take (i := 13) (v := ?vr12) rfl (by kernel_rfl) (fun _ _ _ h => h) ?r12 rfl hSx ?_
  case r12 => (intro w' hSw; (try dsimp only at hSw); go_split_ands; go_simp; try with_reducible rfl)
  clear hSx; intro hSx
  try simp only [Act.put, List.getElem_toArray, List.getElem_cons_succ, List.getElem_cons_zero, List.setIfInBounds_toArray, List.set_cons_zero, List.set_cons_succ]
  refine wpAnyL_take (i := 14) (v := ?vr13) rfl (by kernel_rfl) (fun _ _ _ h => h) ?r13 rfl hSx ?_
  case r13 => (intro w' hSw; (try dsimp only at hSw); go_split_ands; go_simp; try with_reducible rfl)
  clear hSx; intro hSx
  try simp only [Act.put, List.getElem_toArray, List.getElem_cons_succ, List.getElem_cons_zero, List.setIfInBounds_toArray, List.set_cons_zero, List.set_cons_succ]
  refine wpAnyL_take (i := 17) (v := ?vr14) rfl (by kernel_rfl) (fun _ _ _ h => h) ?r14 rfl hSx ?_
  case r14 => (intro w' hSw; (try dsimp only at hSw); go_split_ands; go_simp; try with_reducible rfl)
  clear hSx; intro hSx
  try simp only [Act.put, List.getElem_toArray, List.getElem_cons_succ, List.getElem_cons_zero, List.setIfInBounds_toArray, List.set_cons_zero, List.set_cons_succ]
  refine wpAnyL_take (i := 18) (v := ?vr15) rfl (by kernel_rfl) (fun _ _ _ h => h) ?r15 rfl hSx ?_
  case r15 => (intro w' hSw; (try dsimp only at hSw); go_split_ands; go_simp; try with_reducible rfl)
  clear hSx; intro hSx
  try simp only [Act.put, List.getElem_toArray, List.getElem_cons_succ, List.getElem_cons_zero, List.setIfInBounds_toArray, List.set_cons_zero, List.set_cons_succ]
  refine wpAnyL_take (i := 19) (v := ?vr16) rfl (by kernel_rfl) (fun _ _ _ h => h) ?r16 rfl hSx ?_
  case r16 => (intro w' hSw; (try dsimp only at hSw); go_split_ands; go_simp; try with_reducible rfl)
  clear hSx; intro hSx
  try simp only [Act.put, List.getElem_toArray, List.getElem_cons_succ, List.getElem_cons_zero, List.setIfInBounds_toArray, List.set_cons_zero, List.set_cons_succ]
  refine wpAnyL_take (i := 22) (v := ?vr17) rfl (by kernel_rfl) (fun _ _ _ h => h) ?r17 rfl hSx ?_
  case r17 => (intro w' hSw; (try dsimp only at hSw); go_split_ands; go_simp; try with_reducible rfl)
  clear hSx; intro hSx
  try simp only [Act.put, List.getElem_toArray, List.getElem_cons_succ, List.getElem_cons_zero, List.setIfInBounds_toArray, List.set_cons_zero, List.set_cons_succ]
  refine wpAnyL_take (i := 23) (v := ?vr18) rfl (by kernel_rfl) (fun _ _ _ h => h) ?r18 rfl hSx ?_
  case r18 => (intro w' hSw; (try dsimp only at hSw); go_split_ands; go_simp; try with_reducible rfl)
  clear hSx; intro hSx
  try simp only [Act.put, List.getElem_toArray, List.getElem_cons_succ, List.getElem_cons_zero, List.setIfInBounds_toArray, List.set_cons_zero, List.set_cons_succ]
  refine wpAnyL_call (i := 9) (f := 35) (args := #[.pointer (some ⟨R.h, 0, none⟩), .int .i64 (a : Int)]) (v := .int .i64 p) rfl (by kernel_rfl) (fun _ _ _ h => h) rfl ?r19 (fun w' hw' => HLA.out w' hw'.2) hSx ?_
  case r19 => (intro w'; go_simp; try with_reducible rfl)
  clear hSx; intro hSx
  try simp only [Act.put, List.getElem_toArray, List.getElem_cons_succ, List.getElem_cons_zero, List.setIfInBounds_toArray, List.set_cons_zero, List.set_cons_succ]
  refine wpAnyL_call (i := 15) (f := 35) (args := #[.pointer (some ⟨R.h, 0, none⟩), .int .i64 (b : Int)]) (v := .int .i64 q) rfl (by kernel_rfl) (fun _ _ _ h => h) rfl ?r20 (fun w' hw' => HLB.out w' hw'.2) hSx ?_
  case r20 => (intro w'; go_simp; try with_reducible rfl)
  clear hSx; intro hSx
  try simp only [Act.put, List.getElem_toArray, List.getElem_cons_succ, List.getElem_cons_zero, List.setIfInBounds_toArray, List.set_cons_zero, List.set_cons_succ]
  refine wpAnyL_call (i := 20) (f := 35) (args := #[.pointer (some ⟨R.h, 0, none⟩), .int .i64 (a : Int)]) (v := .int .i64 p) rfl (by kernel_rfl) (fun _ _ _ h => h) rfl ?r21 (fun w' hw' => HLA.out w' hw'.2) hSx ?_
  case r21 => (intro w'; go_simp; try with_reducible rfl)
  clear hSx; intro hSx
  try simp only [Act.put, List.getElem_toArray, List.getElem_cons_succ, List.getElem_cons_zero, List.setIfInBounds_toArray, List.set_cons_zero, List.set_cons_succ]
  refine wpAnyL_take (i := 21) (v := ?vr22) rfl (by kernel_rfl) (fun _ _ _ h => h) ?r22 rfl hSx ?_
  case r22 => (intro w' hSw; (try dsimp only at hSw); go_split_ands; go_simp; try with_reducible rfl)
  clear hSx; intro hSx
  try simp only [Act.put, List.getElem_toArray, List.getElem_cons_succ, List.getElem_cons_zero, List.setIfInBounds_toArray, List.set_cons_zero, List.set_cons_succ]
  refine wpAnyL_call (i := 24) (f := 35) (args := #[.pointer (some ⟨R.h, 0, none⟩), .int .i64 (b : Int)]) (v := .int .i64 q) rfl (by kernel_rfl) (fun _ _ _ h => h) rfl ?r23 (fun w' hw' => HLB.out w' hw'.2) hSx ?_
  case r23 => (intro w'; go_simp; try with_reducible rfl)
  clear hSx; intro hSx
  try simp only [Act.put, List.getElem_toArray, List.getElem_cons_succ, List.getElem_cons_zero, List.setIfInBounds_toArray, List.set_cons_zero, List.set_cons_succ]
  refine wpAnyL_take (i := 25) (v := ?vr24) rfl (by kernel_rfl) (fun _ _ _ h => h) ?r24 rfl hSx ?_
  case r24 => (intro w' hSw; (try dsimp only at hSw); go_split_ands; go_simp; try with_reducible rfl)
  clear hSx; intro hSx
  try simp only [Act.put, List.getElem_toArray, List.getElem_cons_succ, List.getElem_cons_zero, List.setIfInBounds_toArray, List.set_cons_zero, List.set_cons_succ]
  refine' wpAnyL_three (i := 10) (j := 16) (k := 26) ?tar25 ?tbr25 ?tb2r25 ?tb3r25 ?tcr25 ?tc2r25 ?tc3r25 ?tdr25 ?ter25 ?tfr25
  case tbr25 => rfl
  case tb2r25 => rfl
  case tb3r25 => rfl
  case tar25 => kernel_rfl
  case tcr25 => rfl
  case tc2r25 => rfl
  case tc3r25 => rfl
  case tdr25 =>
    intro K hK
    go_simp; first | refine genNew _ (fun wx hBx Fx => ?_) | refine genNewD _ (fun wx hBx Fx => ?_)
    have Gx : Hid (w4.heap.size ≤ _) := HB.out.size
    (try replace Fx := Shut.keepF Fx hBx); (try replace Fy := Shut.keepF Fy hBx); (try replace Fz := Shut.keepF Fz hBx)
    replace HB : Hid (Below w4.heap.size w4 wx) := (by first | exact bStep HB (Nat.le_refl _) hBx | exact hBx)
    refine hK.out _ _ ⟨(HCB.out _ HB.out).1, HVB.out _ HB.out⟩ (fun hSx => ?_)
    clear hK K
    try simp only [Act.put, List.getElem_toArray, List.getElem_cons_succ, List.getElem_cons_zero, List.setIfInBounds_toArray, List.set_cons_zero, List.set_cons_succ]
    refine' wpAnyL_two (i := 16) (j := 26) ?tar26 ?tbr26 ?tb2r26 ?tcr26 ?tc2r26 ?tdr26 ?ter26
    case tbr26 => rfl
    case tb2r26 => rfl
    case tar26 => kernel_rfl
    case tcr26 => rfl
    case tc2r26 => rfl
    case tdr26 =>
      intro K hK
      go_simp; first | refine genNew _ (fun wy hBy Fy => ?_) | refine genNewD _ (fun wy hBy Fy => ?_)
      have Gy : Hid (w4.heap.size ≤ _) := HB.out.size
      (try replace Fx := Shut.keepF Fx hBy); (try replace Fy := Shut.keepF Fy hBy); (try replace Fz := Shut.keepF Fz hBy)
      replace HB : Hid (Below w4.heap.size w4 wy) := (by first | exact bStep HB (Nat.le_refl _) hBy | exact hBy)
      refine hK.out _ _ ⟨(HCB.out _ HB.out).1, HVB.out _ HB.out⟩ (fun hSx => ?_)
      clear hK K
      try simp only [Act.put, List.getElem_toArray, List.getElem_cons_succ, List.getElem_cons_zero, List.setIfInBounds_toArray, List.set_cons_zero, List.set_cons_succ]
      refine' wpAnyL_one (i := 26) ?tar27 ?tbr27 ?tcr27 ?tdr27
      case tbr27 => rfl
      case tar27 => kernel_rfl
      case tcr27 => rfl
      intro K hK
      go_simp; first | refine genNew _ (fun wz hBz Fz => ?_) | refine genNewD _ (fun wz hBz Fz => ?_)
      have Gz : Hid (w4.heap.size ≤ _) := HB.out.size
      (try replace Fx := Shut.keepF Fx hBz); (try replace Fy := Shut.keepF Fy hBz); (try replace Fz := Shut.keepF Fz hBz)
      replace HB : Hid (Below w4.heap.size w4 wz) := (by first | exact bStep HB (Nat.le_refl _) hBz | exact hBz)
      refine hK.out _ _ ⟨(HCB.out _ HB.out).1, HVB.out _ HB.out⟩ (fun hSx => ?_)
      clear hK K
      try simp only [Act.put, List.getElem_toArray, List.getElem_cons_succ, List.getElem_cons_zero, List.setIfInBounds_toArray, List.set_cons_zero, List.set_cons_succ]
      refine' wpAnyL_one (i := 27) ?tar28 ?tbr28 ?tcr28 ?tdr28
      case tbr28 => rfl
      case tar28 => kernel_rfl
      case tcr28 => rfl
      intro K hK
      go_simp; first | refine genNew _ (fun wo hBo Fo => ?_) | refine genNewD _ (fun wo hBo Fo => ?_)
      have Go : Hid (w4.heap.size ≤ _) := HB.out.size
      (try replace Fx := Shut.keepF Fx hBo); (try replace Fy := Shut.keepF Fy hBo); (try replace Fz := Shut.keepF Fz hBo)
      replace HB : Hid (Below w4.heap.size w4 wo) := (by first | exact bStep HB (Nat.le_refl _) hBo | exact hBo)
      refine hK.out _ _ ⟨(HCB.out _ HB.out).1, HVB.out _ HB.out⟩ (fun hSx => ?_)
      clear hK K
      try simp only [Act.put, List.getElem_toArray, List.getElem_cons_succ, List.getElem_cons_zero, List.setIfInBounds_toArray, List.set_cons_zero, List.set_cons_succ]
      refine' wpAnyL_one (i := 28) ?tar29 ?tbr29 ?tcr29 ?tdr29
      case tbr29 => rfl
      case tar29 => kernel_rfl
      case tcr29 => rfl
      intro K hK
      refine wp_append_lies _ (.tmp 82) (.tmp 105) 35 rfl 0 26 ji (.slice none 0 0) 1 24 Try.underlying35 ji0 jz0 jz1 jz2 rfl (by decide) (.slice a2 Nc k2) Nc R3.rs (by rfl) (HOWB.out _ HB.out) _ 3 3 _ (by rfl) (by rfl) (World.news_of_block Fo) (by simp [Value.oneCell']) (by decide) HL3.out.1 HL3.out.2 (Nat.zero_le _) _ rfl ?_
      intro g9 cap9 w9 hown hgrow hat hlt1
      have cl := World.grownBy.cell (row := (Value.slice a2 Nc k2).ownBlock) hgrow (HCB.out _ HB.out).1 hne'
      have fz := (World.grownBy.frozen_far (row := (Value.slice a2 Nc k2).ownBlock) hgrow ⟨R.h, 2, none⟩ (HCB.out _ HB.out).2.2 hne').trans (HCB.out _ HB.out).2.1
      have HOWN := Lib.hid hown
      have HGRO := Lib.hid hgrow
      have HAT := Lib.hid hat
      have HVN := HVG.out _ w9 HB.out hgrow
      clear hown hgrow hat hlt1
      refine hK.out _ _ ⟨cl, HVN⟩ (fun hSx => ?_)
      clear hK K
      try simp only [Act.put, List.getElem_toArray, List.getElem_cons_succ, List.getElem_cons_zero, List.setIfInBounds_toArray, List.set_cons_zero, List.set_cons_succ]
      refine wpAnyL_take (i := 29) (v := ?vr30) rfl (by kernel_rfl) (fun _ _ _ h => h) ?r30 rfl hSx ?_
      case r30 => (intro w' hSw; (try dsimp only at hSw); go_split_ands; go_simp; try with_reducible rfl)
      clear hSx; intro hSx
      try simp only [Act.put, List.getElem_toArray, List.getElem_cons_succ, List.getElem_cons_zero, List.setIfInBounds_toArray, List.set_cons_zero, List.set_cons_succ]
      refine wpAnyL_take (i := 30) (v := ?vr31) rfl (by kernel_rfl) (fun _ _ _ h => h) ?r31 rfl hSx ?_
      case r31 => (intro w' hSw; (try dsimp only at hSw); go_split_ands; go_simp; try with_reducible rfl)
      clear hSx; intro hSx
      try simp only [Act.put, List.getElem_toArray, List.getElem_cons_succ, List.getElem_cons_zero, List.setIfInBounds_toArray, List.set_cons_zero, List.set_cons_succ]
      refine' wpAnyL_last (i := 31) ?tar32 ?tbr32 ?tcr32 ?tdr32
      case tbr32 => rfl
      case tar32 => kernel_rfl
      case tcr32 => rfl
      intro K hK
      go_simp
      refine hK.out _ _ ?_
      clear hK K
      obtain ⟨R9, t1, t2, t3⟩ := HP.out.pushC3 HR3.out.1 HEC' HNC.out HB.out Gx.out Gy.out Gz.out Fx Fy Fz HGRO.out HAT.out rfl HOWN.out
      have T := Lib.hid (And.intro t1 (And.intro t2 (HF3.out.trans t3)))
      clear t1 t2 t3 HGRO HAT HOWN hSx cl fz
      go_wp2_with fail
      go_end0
      exact ⟨rfl, R9, T.out.1, T.out.2.1, T.out.2.2⟩
    case ter26 =>
      intro K hK
      go_simp; first | refine genNew _ (fun wz hBz Fz => ?_) | refine genNewD _ (fun wz hBz Fz => ?_)
      have Gz : Hid (w4.heap.size ≤ _) := HB.out.size
      (try replace Fx := Shut.keepF Fx hBz); (try replace Fy := Shut.keepF Fy hBz); (try replace Fz := Shut.keepF Fz hBz)
      replace HB : Hid (Below w4.heap.size w4 wz) := (by first | exact bStep HB (Nat.le_refl _) hBz | exact hBz)
      refine hK.out _ _ ⟨(HCB.out _ HB.out).1, HVB.out _ HB.out⟩ (fun hSx => ?_)
      clear hK K
      try simp only [Act.put, List.getElem_toArray, List.getElem_cons_succ, List.getElem_cons_zero, List.setIfInBounds_toArray, List.set_cons_zero, List.set_cons_succ]
      refine' wpAnyL_one (i := 16) ?tar33 ?tbr33 ?tcr33 ?tdr33
      case tbr33 => rfl
      case tar33 => kernel_rfl
      case tcr33 => rfl
      intro K hK
      go_simp; first | refine genNew _ (fun wy hBy Fy => ?_) | refine genNewD _ (fun wy hBy Fy => ?_)
      have Gy : Hid (w4.heap.size ≤ _) := HB.out.size
      (try replace Fx := Shut.keepF Fx hBy); (try replace Fy := Shut.keepF Fy hBy); (try replace Fz := Shut.keepF Fz hBy)
      replace HB : Hid (Below w4.heap.size w4 wy) := (by first | exact bStep HB (Nat.le_refl _) hBy | exact hBy)
      refine hK.out _ _ ⟨(HCB.out _ HB.out).1, HVB.out _ HB.out⟩ (fun hSx => ?_)
      clear hK K
      try simp only [Act.put, List.getElem_toArray, List.getElem_cons_succ, List.getElem_cons_zero, List.setIfInBounds_toArray, List.set_cons_zero, List.set_cons_succ]
      refine' wpAnyL_one (i := 27) ?tar34 ?tbr34 ?tcr34 ?tdr34
      case tbr34 => rfl
      case tar34 => kernel_rfl
      case tcr34 => rfl
      intro K hK
      go_simp; first | refine genNew _ (fun wo hBo Fo => ?_) | refine genNewD _ (fun wo hBo Fo => ?_)
      have Go : Hid (w4.heap.size ≤ _) := HB.out.size
      (try replace Fx := Shut.keepF Fx hBo); (try replace Fy := Shut.keepF Fy hBo); (try replace Fz := Shut.keepF Fz hBo)
      replace HB : Hid (Below w4.heap.size w4 wo) := (by first | exact bStep HB (Nat.le_refl _) hBo | exact hBo)
      refine hK.out _ _ ⟨(HCB.out _ HB.out).1, HVB.out _ HB.out⟩ (fun hSx => ?_)
      clear hK K
      try simp only [Act.put, List.getElem_toArray, List.getElem_cons_succ, List.getElem_cons_zero, List.setIfInBounds_toArray, List.set_cons_zero, List.set_cons_succ]
      refine' wpAnyL_one (i := 28) ?tar35 ?tbr35 ?tcr35 ?tdr35
      case tbr35 => rfl
      case tar35 => kernel_rfl
      case tcr35 => rfl
      intro K hK
      refine wp_append_lies _ (.tmp 82) (.tmp 105) 35 rfl 0 26 ji (.slice none 0 0) 1 24 Try.underlying35 ji0 jz0 jz1 jz2 rfl (by decide) (.slice a2 Nc k2) Nc R3.rs (by rfl) (HOWB.out _ HB.out) _ 3 3 _ (by rfl) (by rfl) (World.news_of_block Fo) (by simp [Value.oneCell']) (by decide) HL3.out.1 HL3.out.2 (Nat.zero_le _) _ rfl ?_
      intro g9 cap9 w9 hown hgrow hat hlt1
      have cl := World.grownBy.cell (row := (Value.slice a2 Nc k2).ownBlock) hgrow (HCB.out _ HB.out).1 hne'
      have fz := (World.grownBy.frozen_far (row := (Value.slice a2 Nc k2).ownBlock) hgrow ⟨R.h, 2, none⟩ (HCB.out _ HB.out).2.2 hne').trans (HCB.out _ HB.out).2.1
      have HOWN := Lib.hid hown
      have HGRO := Lib.hid hgrow
      have HAT := Lib.hid hat
      have HVN := HVG.out _ w9 HB.out hgrow
      clear hown hgrow hat hlt1
      refine hK.out _ _ ⟨cl, HVN⟩ (fun hSx => ?_)
      clear hK K
      try simp only [Act.put, List.getElem_toArray, List.getElem_cons_succ, List.getElem_cons_zero, List.setIfInBounds_toArray, List.set_cons_zero, List.set_cons_succ]
      refine wpAnyL_take (i := 29) (v := ?vr36) rfl (by kernel_rfl) (fun _ _ _ h => h) ?r36 rfl hSx ?_
      case r36 => (intro w' hSw; (try dsimp only at hSw); go_split_ands; go_simp; try with_reducible rfl)
      clear hSx; intro hSx
      try simp only [Act.put, List.getElem_toArray, List.getElem_cons_succ, List.getElem_cons_zero, List.setIfInBounds_toArray, List.set_cons_zero, List.set_cons_succ]
      refine wpAnyL_take (i := 30) (v := ?vr37) rfl (by kernel_rfl) (fun _ _ _ h => h) ?r37 rfl hSx ?_
      case r37 => (intro w' hSw; (try dsimp only at hSw); go_split_ands; go_simp; try with_reducible rfl)
      clear hSx; intro hSx
      try simp only [Act.put, List.getElem_toArray, List.getElem_cons_succ, List.getElem_cons_zero, List.setIfInBounds_toArray, List.set_cons_zero, List.set_cons_succ]
      refine' wpAnyL_last (i := 31) ?tar38 ?tbr38 ?tcr38 ?tdr38
      case tbr38 => rfl
      case tar38 => kernel_rfl
      case tcr38 => rfl
      intro K hK
      go_simp
      refine hK.out _ _ ?_
      clear hK K
      obtain ⟨R9, t1, t2, t3⟩ := HP.out.pushC3 HR3.out.1 HEC' HNC.out HB.out Gx.out Gy.out Gz.out Fx Fy Fz HGRO.out HAT.out rfl HOWN.out
      have T := Lib.hid (And.intro t1 (And.intro t2 (HF3.out.trans t3)))
      clear t1 t2 t3 HGRO HAT HOWN hSx cl fz
      go_wp2_with fail
      go_end0
      exact ⟨rfl, R9, T.out.1, T.out.2.1, T.out.2.2⟩
  case ter25 =>
    intro K hK
    go_simp; first | refine genNew _ (fun wy hBy Fy => ?_) | refine genNewD _ (fun wy hBy Fy => ?_)
    have Gy : Hid (w4.heap.size ≤ _) := HB.out.size
    (try replace Fx := Shut.keepF Fx hBy); (try replace Fy := Shut.keepF Fy hBy); (try replace Fz := Shut.keepF Fz hBy)
    replace HB : Hid (Below w4.heap.size w4 wy) := (by first | exact bStep HB (Nat.le_refl _) hBy | exact hBy)
    refine hK.out _ _ ⟨(HCB.out _ HB.out).1, HVB.out _ HB.out⟩ (fun hSx => ?_)
    clear hK K
    try simp only [Act.put, List.getElem_toArray, List.getElem_cons_succ, List.getElem_cons_zero, List.setIfInBounds_toArray, List.set_cons_zero, List.set_cons_succ]
    refine' wpAnyL_two (i := 10) (j := 26) ?tar39 ?tbr39 ?tb2r39 ?tcr39 ?tc2r39 ?tdr39 ?ter39
    case tbr39 => rfl
    case tb2r39 => rfl
    case tar39 => kernel_rfl
    case tcr39 => rfl
    case tc2r39 => rfl
    case tdr39 =>
      intro K hK
      go_simp; first | refine genNew _ (fun wx hBx Fx => ?_) | refine genNewD _ (fun wx hBx Fx => ?_)
      have Gx : Hid (w4.heap.size ≤ _) := HB.out.size
      (try replace Fx := Shut.keepF Fx hBx); (try replace Fy := Shut.keepF Fy hBx); (try replace Fz := Shut.keepF Fz hBx)
      replace HB : Hid (Below w4.heap.size w4 wx) := (by first | exact bStep HB (Nat.le_refl _) hBx | exact hBx)
      refine hK.out _ _ ⟨(HCB.out _ HB.out).1, HVB.out _ HB.out⟩ (fun hSx => ?_)
      clear hK K
      try simp only [Act.put, List.getElem_toArray, List.getElem_cons_succ, List.getElem_cons_zero, List.setIfInBounds_toArray, List.set_cons_zero, List.set_cons_succ]
      refine' wpAnyL_one (i := 26) ?tar40 ?tbr40 ?tcr40 ?tdr40
      case tbr40 => rfl
      case tar40 => kernel_rfl
      case tcr40 => rfl
      intro K hK
      go_simp; first | refine genNew _ (fun wz hBz Fz => ?_) | refine genNewD _ (fun wz hBz Fz => ?_)
      have Gz : Hid (w4.heap.size ≤ _) := HB.out.size
      (try replace Fx := Shut.keepF Fx hBz); (try replace Fy := Shut.keepF Fy hBz); (try replace Fz := Shut.keepF Fz hBz)
      replace HB : Hid (Below w4.heap.size w4 wz) := (by first | exact bStep HB (Nat.le_refl _) hBz | exact hBz)
      refine hK.out _ _ ⟨(HCB.out _ HB.out).1, HVB.out _ HB.out⟩ (fun hSx => ?_)
      clear hK K
      try simp only [Act.put, List.getElem_toArray, List.getElem_cons_succ, List.getElem_cons_zero, List.setIfInBounds_toArray, List.set_cons_zero, List.set_cons_succ]
      refine' wpAnyL_one (i := 27) ?tar41 ?tbr41 ?tcr41 ?tdr41
      case tbr41 => rfl
      case tar41 => kernel_rfl
      case tcr41 => rfl
      intro K hK
      go_simp; first | refine genNew _ (fun wo hBo Fo => ?_) | refine genNewD _ (fun wo hBo Fo => ?_)
      have Go : Hid (w4.heap.size ≤ _) := HB.out.size
      (try replace Fx := Shut.keepF Fx hBo); (try replace Fy := Shut.keepF Fy hBo); (try replace Fz := Shut.keepF Fz hBo)
      replace HB : Hid (Below w4.heap.size w4 wo) := (by first | exact bStep HB (Nat.le_refl _) hBo | exact hBo)
      refine hK.out _ _ ⟨(HCB.out _ HB.out).1, HVB.out _ HB.out⟩ (fun hSx => ?_)
      clear hK K
      try simp only [Act.put, List.getElem_toArray, List.getElem_cons_succ, List.getElem_cons_zero, List.setIfInBounds_toArray, List.set_cons_zero, List.set_cons_succ]
      refine' wpAnyL_one (i := 28) ?tar42 ?tbr42 ?tcr42 ?tdr42
      case tbr42 => rfl
      case tar42 => kernel_rfl
      case tcr42 => rfl
      intro K hK
      refine wp_append_lies _ (.tmp 82) (.tmp 105) 35 rfl 0 26 ji (.slice none 0 0) 1 24 Try.underlying35 ji0 jz0 jz1 jz2 rfl (by decide) (.slice a2 Nc k2) Nc R3.rs (by rfl) (HOWB.out _ HB.out) _ 3 3 _ (by rfl) (by rfl) (World.news_of_block Fo) (by simp [Value.oneCell']) (by decide) HL3.out.1 HL3.out.2 (Nat.zero_le _) _ rfl ?_
      intro g9 cap9 w9 hown hgrow hat hlt1
      have cl := World.grownBy.cell (row := (Value.slice a2 Nc k2).ownBlock) hgrow (HCB.out _ HB.out).1 hne'
      have fz := (World.grownBy.frozen_far (row := (Value.slice a2 Nc k2).ownBlock) hgrow ⟨R.h, 2, none⟩ (HCB.out _ HB.out).2.2 hne').trans (HCB.out _ HB.out).2.1
      have HOWN := Lib.hid hown
      have HGRO := Lib.hid hgrow
      have HAT := Lib.hid hat
      have HVN := HVG.out _ w9 HB.out hgrow
      clear hown hgrow hat hlt1
      refine hK.out _ _ ⟨cl, HVN⟩ (fun hSx => ?_)
      clear hK K
      try simp only [Act.put, List.getElem_toArray, List.getElem_cons_succ, List.getElem_cons_zero, List.setIfInBounds_toArray, List.set_cons_zero, List.set_cons_succ]
      refine wpAnyL_take (i := 29) (v := ?vr43) rfl (by kernel_rfl) (fun _ _ _ h => h) ?r43 rfl hSx ?_
      case r43 => (intro w' hSw; (try dsimp only at hSw); go_split_ands; go_simp; try with_reducible rfl)
      clear hSx; intro hSx
      try simp only [Act.put, List.getElem_toArray, List.getElem_cons_succ, List.getElem_cons_zero, List.setIfInBounds_toArray, List.set_cons_zero, List.set_cons_succ]
      refine wpAnyL_take (i := 30) (v := ?vr44) rfl (by kernel_rfl) (fun _ _ _ h => h) ?r44 rfl hSx ?_
      case r44 => (intro w' hSw; (try dsimp only at hSw); go_split_ands; go_simp; try with_reducible rfl)
      clear hSx; intro hSx
      try simp only [Act.put, List.getElem_toArray, List.getElem_cons_succ, List.getElem_cons_zero, List.setIfInBounds_toArray, List.set_cons_zero, List.set_cons_succ]
      refine' wpAnyL_last (i := 31) ?tar45 ?tbr45 ?tcr45 ?tdr45
      case tbr45 => rfl
      case tar45 => kernel_rfl
      case tcr45 => rfl
      intro K hK
      go_simp
      refine hK.out _ _ ?_
      clear hK K
      obtain ⟨R9, t1, t2, t3⟩ := HP.out.pushC3 HR3.out.1 HEC' HNC.out HB.out Gx.out Gy.out Gz.out Fx Fy Fz HGRO.out HAT.out rfl HOWN.out
      have T := Lib.hid (And.intro t1 (And.intro t2 (HF3.out.trans t3)))
      clear t1 t2 t3 HGRO HAT HOWN hSx cl fz
      go_wp2_with fail
      go_end0
      exact ⟨rfl, R9, T.out.1, T.out.2.1, T.out.2.2⟩
    case ter39 =>
      intro K hK
      go_simp; first | refine genNew _ (fun wz hBz Fz => ?_) | refine genNewD _ (fun wz hBz Fz => ?_)
      have Gz : Hid (w4.heap.size ≤ _) := HB.out.size
      (try replace Fx := Shut.keepF Fx hBz); (try replace Fy := Shut.keepF Fy hBz); (try replace Fz := Shut.keepF Fz hBz)
      replace HB : Hid (Below w4.heap.size w4 wz) := (by first | exact bStep HB (Nat.le_refl _) hBz | exact hBz)
      refine hK.out _ _ ⟨(HCB.out _ HB.out).1, HVB.out _ HB.out⟩ (fun hSx => ?_)
      clear hK K
      try simp only [Act.put, List.getElem_toArray, List.getElem_cons_succ, List.getElem_cons_zero, List.setIfInBounds_toArray, List.set_cons_zero, List.set_cons_succ]
      refine' wpAnyL_one (i := 10) ?tar46 ?tbr46 ?tcr46 ?tdr46
      case tbr46 => rfl
      case tar46 => kernel_rfl
      case tcr46 => rfl
      intro K hK
      go_simp; first | refine genNew _ (fun wx hBx Fx => ?_) | refine genNewD _ (fun wx hBx Fx => ?_)
      have Gx : Hid (w4.heap.size ≤ _) := HB.out.size
      (try replace Fx := Shut.keepF Fx hBx); (try replace Fy := Shut.keepF Fy hBx); (try replace Fz := Shut.keepF Fz hBx)
      replace HB : Hid (Below w4.heap.size w4 wx) := (by first | exact bStep HB (Nat.le_refl _) hBx | exact hBx)
      refine hK.out _ _ ⟨(HCB.out _ HB.out).1, HVB.out _ HB.out⟩ (fun hSx => ?_)
      clear hK K
      try simp only [Act.put, List.getElem_toArray, List.getElem_cons_succ, List.getElem_cons_zero, List.setIfInBounds_toArray, List.set_cons_zero, List.set_cons_succ]
      refine' wpAnyL_one (i := 27) ?tar47 ?tbr47 ?tcr47 ?tdr47
      case tbr47 => rfl
      case tar47 => kernel_rfl
      case tcr47 => rfl
      intro K hK
      go_simp; first | refine genNew _ (fun wo hBo Fo => ?_) | refine genNewD _ (fun wo hBo Fo => ?_)
      have Go : Hid (w4.heap.size ≤ _) := HB.out.size
      (try replace Fx := Shut.keepF Fx hBo); (try replace Fy := Shut.keepF Fy hBo); (try replace Fz := Shut.keepF Fz hBo)
      replace HB : Hid (Below w4.heap.size w4 wo) := (by first | exact bStep HB (Nat.le_refl _) hBo | exact hBo)
      refine hK.out _ _ ⟨(HCB.out _ HB.out).1, HVB.out _ HB.out⟩ (fun hSx => ?_)
      clear hK K
      try simp only [Act.put, List.getElem_toArray, List.getElem_cons_succ, List.getElem_cons_zero, List.setIfInBounds_toArray, List.set_cons_zero, List.set_cons_succ]
      refine' wpAnyL_one (i := 28) ?tar48 ?tbr48 ?tcr48 ?tdr48
      case tbr48 => rfl
      case tar48 => kernel_rfl
      case tcr48 => rfl
      intro K hK
      refine wp_append_lies _ (.tmp 82) (.tmp 105) 35 rfl 0 26 ji (.slice none 0 0) 1 24 Try.underlying35 ji0 jz0 jz1 jz2 rfl (by decide) (.slice a2 Nc k2) Nc R3.rs (by rfl) (HOWB.out _ HB.out) _ 3 3 _ (by rfl) (by rfl) (World.news_of_block Fo) (by simp [Value.oneCell']) (by decide) HL3.out.1 HL3.out.2 (Nat.zero_le _) _ rfl ?_
      intro g9 cap9 w9 hown hgrow hat hlt1
      have cl := World.grownBy.cell (row := (Value.slice a2 Nc k2).ownBlock) hgrow (HCB.out _ HB.out).1 hne'
      have fz := (World.grownBy.frozen_far (row := (Value.slice a2 Nc k2).ownBlock) hgrow ⟨R.h, 2, none⟩ (HCB.out _ HB.out).2.2 hne').trans (HCB.out _ HB.out).2.1
      have HOWN := Lib.hid hown
      have HGRO := Lib.hid hgrow
      have HAT := Lib.hid hat
      have HVN := HVG.out _ w9 HB.out hgrow
      clear hown hgrow hat hlt1
      refine hK.out _ _ ⟨cl, HVN⟩ (fun hSx => ?_)
      clear hK K
      try simp only [Act.put, List.getElem_toArray, List.getElem_cons_succ, List.getElem_cons_zero, List.setIfInBounds_toArray, List.set_cons_zero, List.set_cons_succ]
      refine wpAnyL_take (i := 29) (v := ?vr49) rfl (by kernel_rfl) (fun _ _ _ h => h) ?r49 rfl hSx ?_
      case r49 => (intro w' hSw; (try dsimp only at hSw); go_split_ands; go_simp; try with_reducible rfl)
      clear hSx; intro hSx
      try simp only [Act.put, List.getElem_toArray, List.getElem_cons_succ, List.getElem_cons_zero, List.setIfInBounds_toArray, List.set_cons_zero, List.set_cons_succ]
      refine wpAnyL_take (i := 30) (v := ?vr50) rfl (by kernel_rfl) (fun _ _ _ h => h) ?r50 rfl hSx ?_
      case r50 => (intro w' hSw; (try dsimp only at hSw); go_split_ands; go_simp; try with_reducible rfl)
      clear hSx; intro hSx
      try simp only [Act.put, List.getElem_toArray, List.getElem_cons_succ, List.getElem_cons_zero, List.setIfInBounds_toArray, List.set_cons_zero, List.set_cons_succ]
      refine' wpAnyL_last (i := 31) ?tar51 ?tbr51 ?tcr51 ?tdr51
      case tbr51 => rfl
      case tar51 => kernel_rfl
      case tcr51 => rfl
      intro K hK
      go_simp
      refine hK.out _ _ ?_
      clear hK K
      obtain ⟨R9, t1, t2, t3⟩ := HP.out.pushC3 HR3.out.1 HEC' HNC.out HB.out Gx.out Gy.out Gz.out Fx Fy Fz HGRO.out HAT.out rfl HOWN.out
      have T := Lib.hid (And.intro t1 (And.intro t2 (HF3.out.trans t3)))
      clear t1 t2 t3 HGRO HAT HOWN hSx cl fz
      go_wp2_with fail
      go_end0
      exact ⟨rfl, R9, T.out.1, T.out.2.1, T.out.2.2⟩
  case tfr25 =>
    intro K hK
    go_simp; first | refine genNew _ (fun wz hBz Fz => ?_) | refine genNewD _ (fun wz hBz Fz => ?_)
    have Gz : Hid (w4.heap.size ≤ _) := HB.out.size
    (try replace Fx := Shut.keepF Fx hBz); (try replace Fy := Shut.keepF Fy hBz); (try replace Fz := Shut.keepF Fz hBz)
    replace HB : Hid (Below w4.heap.size w4 wz) := (by first | exact bStep HB (Nat.le_refl _) hBz | exact hBz)
    refine hK.out _ _ ⟨(HCB.out _ HB.out).1, HVB.out _ HB.out⟩ (fun hSx => ?_)
    clear hK K
    try simp only [Act.put, List.getElem_toArray, List.getElem_cons_succ, List.getElem_cons_zero, List.setIfInBounds_toArray, List.set_cons_zero, List.set_cons_succ]
    refine' wpAnyL_two (i := 10) (j := 16) ?tar52 ?tbr52 ?tb2r52 ?tcr52 ?tc2r52 ?tdr52 ?ter52
    case tbr52 => rfl
    case tb2r52 => rfl
    case tar52 => kernel_rfl
    case tcr52 => rfl
    case tc2r52 => rfl
    case tdr52 =>
      intro K hK
      go_simp; first | refine genNew _ (fun wx hBx Fx => ?_) | refine genNewD _ (fun wx hBx Fx => ?_)
      have Gx : Hid (w4.heap.size ≤ _) := HB.out.size
      (try replace Fx := Shut.keepF Fx hBx); (try replace Fy := Shut.keepF Fy hBx); (try replace Fz := Shut.keepF Fz hBx)
      replace HB : Hid (Below w4.heap.size w4 wx) := (by first | exact bStep HB (Nat.le_refl _) hBx | exact hBx)
      refine hK.out _ _ ⟨(HCB.out _ HB.out).1, HVB.out _ HB.out⟩ (fun hSx => ?_)
      clear hK K
      try simp only [Act.put, List.getElem_toArray, List.getElem_cons_succ, List.getElem_cons_zero, List.setIfInBounds_toArray, List.set_cons_zero, List.set_cons_succ]
      refine' wpAnyL_one (i := 16) ?tar53 ?tbr53 ?tcr53 ?tdr53
      case tbr53 => rfl
      case tar53 => kernel_rfl
      case tcr53 => rfl
      intro K hK
      go_simp; first | refine genNew _ (fun wy hBy Fy => ?_) | refine genNewD _ (fun wy hBy Fy => ?_)
      have Gy : Hid (w4.heap.size ≤ _) := HB.out.size
      (try replace Fx := Shut.keepF Fx hBy); (try replace Fy := Shut.keepF Fy hBy); (try replace Fz := Shut.keepF Fz hBy)
      replace HB : Hid (Below w4.heap.size w4 wy) := (by first | exact bStep HB (Nat.le_refl _) hBy | exact hBy)
      refine hK.out _ _ ⟨(HCB.out _ HB.out).1, HVB.out _ HB.out⟩ (fun hSx => ?_)
      clear hK K
      try simp only [Act.put, List.getElem_toArray, List.getElem_cons_succ, List.getElem_cons_zero, List.setIfInBounds_toArray, List.set_cons_zero, List.set_cons_succ]
      refine' wpAnyL_one (i := 27) ?tar54 ?tbr54 ?tcr54 ?tdr54
      case tbr54 => rfl
      case tar54 => kernel_rfl
      case tcr54 => rfl
      intro K hK
      go_simp; first | refine genNew _ (fun wo hBo Fo => ?_) | refine genNewD _ (fun wo hBo Fo => ?_)
      have Go : Hid (w4.heap.size ≤ _) := HB.out.size
      (try replace Fx := Shut.keepF Fx hBo); (try replace Fy := Shut.keepF Fy hBo); (try replace Fz := Shut.keepF Fz hBo)
      replace HB : Hid (Below w4.heap.size w4 wo) := (by first | exact bStep HB (Nat.le_refl _) hBo | exact hBo)
      refine hK.out _ _ ⟨(HCB.out _ HB.out).1, HVB.out _ HB.out⟩ (fun hSx => ?_)
      clear hK K
      try simp only [Act.put, List.getElem_toArray, List.getElem_cons_succ, List.getElem_cons_zero, List.setIfInBounds_toArray, List.set_cons_zero, List.set_cons_succ]
      refine' wpAnyL_one (i := 28) ?tar55 ?tbr55 ?tcr55 ?tdr55
      case tbr55 => rfl
      case tar55 => kernel_rfl
      case tcr55 => rfl
      intro K hK
      refine wp_append_lies _ (.tmp 82) (.tmp 105) 35 rfl 0 26 ji (.slice none 0 0) 1 24 Try.underlying35 ji0 jz0 jz1 jz2 rfl (by decide) (.slice a2 Nc k2) Nc R3.rs (by rfl) (HOWB.out _ HB.out) _ 3 3 _ (by rfl) (by rfl) (World.news_of_block Fo) (by simp [Value.oneCell']) (by decide) HL3.out.1 HL3.out.2 (Nat.zero_le _) _ rfl ?_
      intro g9 cap9 w9 hown hgrow hat hlt1
      have cl := World.grownBy.cell (row := (Value.slice a2 Nc k2).ownBlock) hgrow (HCB.out _ HB.out).1 hne'
      have fz := (World.grownBy.frozen_far (row := (Value.slice a2 Nc k2).ownBlock) hgrow ⟨R.h, 2, none⟩ (HCB.out _ HB.out).2.2 hne').trans (HCB.out _ HB.out).2.1
      have HOWN := Lib.hid hown
      have HGRO := Lib.hid hgrow
      have HAT := Lib.hid hat
      have HVN := HVG.out _ w9 HB.out hgrow
      clear hown hgrow hat hlt1
      refine hK.out _ _ ⟨cl, HVN⟩ (fun hSx => ?_)
      clear hK K
      try simp only [Act.put, List.getElem_toArray, List.getElem_cons_succ, List.getElem_cons_zero, List.setIfInBounds_toArray, List.set_cons_zero, List.set_cons_succ]
      refine wpAnyL_take (i := 29) (v := ?vr56) rfl (by kernel_rfl) (fun _ _ _ h => h) ?r56 rfl hSx ?_
      case r56 => (intro w' hSw; (try dsimp only at hSw); go_split_ands; go_simp; try with_reducible rfl)
      clear hSx; intro hSx
      try simp only [Act.put, List.getElem_toArray, List.getElem_cons_succ, List.getElem_cons_zero, List.setIfInBounds_toArray, List.set_cons_zero, List.set_cons_succ]
      refine wpAnyL_take (i := 30) (v := ?vr57) rfl (by kernel_rfl) (fun _ _ _ h => h) ?r57 rfl hSx ?_
      case r57 => (intro w' hSw; (try dsimp only at hSw); go_split_ands; go_simp; try with_reducible rfl)
      clear hSx; intro hSx
      try simp only [Act.put, List.getElem_toArray, List.getElem_cons_succ, List.getElem_cons_zero, List.setIfInBounds_toArray, List.set_cons_zero, List.set_cons_succ]
      refine' wpAnyL_last (i := 31) ?tar58 ?tbr58 ?tcr58 ?tdr58
      case tbr58 => rfl
      case tar58 => kernel_rfl
      case tcr58 => rfl
      intro K hK
      go_simp
      refine hK.out _ _ ?_
      clear hK K
      obtain ⟨R9, t1, t2, t3⟩ := HP.out.pushC3 HR3.out.1 HEC' HNC.out HB.out Gx.out Gy.out Gz.out Fx Fy Fz HGRO.out HAT.out rfl HOWN.out
      have T := Lib.hid (And.intro t1 (And.intro t2 (HF3.out.trans t3)))
      clear t1 t2 t3 HGRO HAT HOWN hSx cl fz
      go_wp2_with fail
      go_end0
      exact ⟨rfl, R9, T.out.1, T.out.2.1, T.out.2.2⟩
    case ter52 =>
      intro K hK
      go_simp; first | refine genNew _ (fun wy hBy Fy => ?_) | refine genNewD _ (fun wy hBy Fy => ?_)
      have Gy : Hid (w4.heap.size ≤ _) := HB.out.size
      (try replace Fx := Shut.keepF Fx hBy); (try replace Fy := Shut.keepF Fy hBy); (try replace Fz := Shut.keepF Fz hBy)
      replace HB : Hid (Below w4.heap.size w4 wy) := (by first | exact bStep HB (Nat.le_refl _) hBy | exact hBy)
      refine hK.out _ _ ⟨(HCB.out _ HB.out).1, HVB.out _ HB.out⟩ (fun hSx => ?_)
      clear hK K
      try simp only [Act.put, List.getElem_toArray, List.getElem_cons_succ, List.getElem_cons_zero, List.setIfInBounds_toArray, List.set_cons_zero, List.set_cons_succ]
      refine' wpAnyL_one (i := 10) ?tar59 ?tbr59 ?tcr59 ?tdr59
      case tbr59 => rfl
      case tar59 => kernel_rfl
      case tcr59 => rfl
      intro K hK
      go_simp; first | refine genNew _ (fun wx hBx Fx => ?_) | refine genNewD _ (fun wx hBx Fx => ?_)
      have Gx : Hid (w4.heap.size ≤ _) := HB.out.size
      (try replace Fx := Shut.keepF Fx hBx); (try replace Fy := Shut.keepF Fy hBx); (try replace Fz := Shut.keepF Fz hBx)
      replace HB : Hid (Below w4.heap.size w4 wx) := (by first | exact bStep HB (Nat.le_refl _) hBx | exact hBx)
      refine hK.out _ _ ⟨(HCB.out _ HB.out).1, HVB.out _ HB.out⟩ (fun hSx => ?_)
      clear hK K
      try simp only [Act.put, List.getElem_toArray, List.getElem_cons_succ, List.getElem_cons_zero, List.setIfInBounds_toArray, List.set_cons_zero, List.set_cons_succ]
      refine' wpAnyL_one (i := 27) ?tar60 ?tbr60 ?tcr60 ?tdr60
      case tbr60 => rfl
      case tar60 => kernel_rfl
      case tcr60 => rfl
      intro K hK
      go_simp; first | refine genNew _ (fun wo hBo Fo => ?_) | refine genNewD _ (fun wo hBo Fo => ?_)
      have Go : Hid (w4.heap.size ≤ _) := HB.out.size
      (try replace Fx := Shut.keepF Fx hBo); (try replace Fy := Shut.keepF Fy hBo); (try replace Fz := Shut.keepF Fz hBo)
      replace HB : Hid (Below w4.heap.size w4 wo) := (by first | exact bStep HB (Nat.le_refl _) hBo | exact hBo)
      refine hK.out _ _ ⟨(HCB.out _ HB.out).1, HVB.out _ HB.out⟩ (fun hSx => ?_)
      clear hK K
      try simp only [Act.put, List.getElem_toArray, List.getElem_cons_succ, List.getElem_cons_zero, List.setIfInBounds_toArray, List.set_cons_zero, List.set_cons_succ]
      refine' wpAnyL_one (i := 28) ?tar61 ?tbr61 ?tcr61 ?tdr61
      case tbr61 => rfl
      case tar61 => kernel_rfl
      case tcr61 => rfl
      intro K hK
      refine wp_append_lies _ (.tmp 82) (.tmp 105) 35 rfl 0 26 ji (.slice none 0 0) 1 24 Try.underlying35 ji0 jz0 jz1 jz2 rfl (by decide) (.slice a2 Nc k2) Nc R3.rs (by rfl) (HOWB.out _ HB.out) _ 3 3 _ (by rfl) (by rfl) (World.news_of_block Fo) (by simp [Value.oneCell']) (by decide) HL3.out.1 HL3.out.2 (Nat.zero_le _) _ rfl ?_
      intro g9 cap9 w9 hown hgrow hat hlt1
      have cl := World.grownBy.cell (row := (Value.slice a2 Nc k2).ownBlock) hgrow (HCB.out _ HB.out).1 hne'
      have fz := (World.grownBy.frozen_far (row := (Value.slice a2 Nc k2).ownBlock) hgrow ⟨R.h, 2, none⟩ (HCB.out _ HB.out).2.2 hne').trans (HCB.out _ HB.out).2.1
      have HOWN := Lib.hid hown
      have HGRO := Lib.hid hgrow
      have HAT := Lib.hid hat
      have HVN := HVG.out _ w9 HB.out hgrow
      clear hown hgrow hat hlt1
      refine hK.out _ _ ⟨cl, HVN⟩ (fun hSx => ?_)
      clear hK K
      try simp only [Act.put, List.getElem_toArray, List.getElem_cons_succ, List.getElem_cons_zero, List.setIfInBounds_toArray, List.set_cons_zero, List.set_cons_succ]
      refine wpAnyL_take (i := 29) (v := ?vr62) rfl (by kernel_rfl) (fun _ _ _ h => h) ?r62 rfl hSx ?_
      case r62 => (intro w' hSw; (try dsimp only at hSw); go_split_ands; go_simp; try with_reducible rfl)
      clear hSx; intro hSx
      try simp only [Act.put, List.getElem_toArray, List.getElem_cons_succ, List.getElem_cons_zero, List.setIfInBounds_toArray, List.set_cons_zero, List.set_cons_succ]
      refine wpAnyL_take (i := 30) (v := ?vr63) rfl (by kernel_rfl) (fun _ _ _ h => h) ?r63 rfl hSx ?_
      case r63 => (intro w' hSw; (try dsimp only at hSw); go_split_ands; go_simp; try with_reducible rfl)
      clear hSx; intro hSx
      try simp only [Act.put, List.getElem_toArray, List.getElem_cons_succ, List.getElem_cons_zero, List.setIfInBounds_toArray, List.set_cons_zero, List.set_cons_succ]
      refine' wpAnyL_last (i := 31) ?tar64 ?tbr64 ?tcr64 ?tdr64
      case tbr64 => rfl
      case tar64 => kernel_rfl
      case tcr64 => rfl
      intro K hK
      go_simp
      refine hK.out _ _ ?_
      clear hK K
      obtain ⟨R9, t1, t2, t3⟩ := HP.out.pushC3 HR3.out.1 HEC' HNC.out HB.out Gx.out Gy.out Gz.out Fx Fy Fz HGRO.out HAT.out rfl HOWN.out
      have T := Lib.hid (And.intro t1 (And.intro t2 (HF3.out.trans t3)))
      clear t1 t2 t3 HGRO HAT HOWN hSx cl fz
      go_wp2_with fail
      go_end0
      exact ⟨rfl, R9, T.out.1, T.out.2.1, T.out.2.2⟩
end Go.Proofs.Ytbggenilngpjcaa.Cn
