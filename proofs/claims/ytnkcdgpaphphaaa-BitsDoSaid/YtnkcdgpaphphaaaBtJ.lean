/- Contract of divide. -/
import Derived.Test.YtnkcdgpaphphaaaBtDv
import Derived.Test.YtnkcdgpaphphaaaBtRl
namespace Go.Proofs.Ytnkcdgpaphphaaa.Gr
open Go Go.RowKit Go.Lib Go.Maps

/-- What long division under way holds: the quotient's row, the divisor turned round, the rest. -/
def DivI (w wr : World) (G : Loc) (P : Prop) (L : List Nd) (n qb hb hc k : Nat) (H : List Nat) (rv : Value) (f : (Nat → Bool) → List Bool) : Prop :=
  ∃ (G' : Loc) (L' : List Nd) (qs rs : List Nat), qs.length = k ∧ rs.length = k ∧ Fil w wr G G' L' qb n (List.replicate (n - k) 0 ++ qs) (List.replicate (n - k) 0 ++ qs) ∧ Fil w wr G G' L' hb hc H H ∧ RestAt wr rv rs ∧ (∀ b, rv.ownBlock = some b → w.heap.size ≤ b ∧ ¬ G'.has b ∧ b ≠ qb ∧ b ≠ hb) ∧ Out P L (220 * k) L' (qs ++ rs) f
/-- The inner loop's state. -/
def DivJ (w wr : World) (G : Loc) (P : Prop) (L6 : List Nd) (n qb hb hc lb rb rc j : Nat) (Q H D R : List Nat) (f : (Nat → Bool) → List Bool) : Prop :=
  ∃ (G' : Loc) (L' : List Nd) (ms : List Nat), ms.length = j ∧ Fil w wr G G' L' qb n Q Q ∧ Fil w wr G G' L' hb hc H H ∧ Fil w wr G G' L' lb D.length D D ∧ Fil w wr G G' L' rb rc ms R ∧ Out P L6 (3 * j) L' ms f

/-- What divide answers. -/
def DivE (w : World) (G : Loc) (P : Prop) (L : List Nd) (j n : Nat) (f : (Nat → Bool) → List Bool) (e : Ending) (w' : World) : Prop :=
  ∃ (qb rb rc : Nat) (G' : Loc) (L' : List Nd) (qs rs : List Nat), e = .returned (.tuple #[.slice (some ⟨qb, 0, none⟩) n n, .slice (some ⟨rb, 0, none⟩) n rc]) ∧ qs.length = n ∧ rs.length = n ∧ Rep w' G' L' ∧ Fr G w w' G' ∧ Vec w' G' (some ⟨qb, 0, none⟩) qs ∧ Vec w' G' (some ⟨rb, 0, none⟩) rs ∧ Out P L j L' (qs ++ rs) f

def divF (L : List Nd) (A B : List Nat) (i : Nat) (m : Nat → Bool) : List Bool := (divL (B.map (Gr.val m L)) ((A.drop i).map (Gr.val m L))).1 ++ (divL (B.map (Gr.val m L)) ((A.drop i).map (Gr.val m L))).2

theorem RestAt.alloc {w : World} {v : Value} {rs : List Nat} (h : RestAt w v rs) (o : Obj) : RestAt (w.alloc o) v rs := by
  rcases h with h | ⟨b, c, f, h1, h2, h3, h4, h5, h6⟩
  · exact Or.inl h
  · exact Or.inr ⟨b, c, f, h1, h2, h3, h4, h5.alloc o, h6⟩
theorem RestAt.lt {w : World} {v : Value} {rs : List Nat} (h : RestAt w v rs) : ∀ b, v.ownBlock = some b → b < w.heap.size := by
  intro b e
  rcases h with ⟨_, rfl⟩ | ⟨b', c, f, rfl, _, _, _, h5, _⟩
  · simp [Value.ownBlock] at e
  · have : b' = b := by simpa [Value.ownBlock] using e
    subst this; exact h5.lt
theorem Fil.rest {w0 wr : World} {G0 G : Loc} {L : List Nd} {b c : Nat} {zs : List Nat} (h : Fil w0 wr G0 G L b c zs zs) (hn : 0 < zs.length) (hc : c ≤ maxLen) : RestAt wr (.slice (some ⟨b, 0, none⟩) zs.length c) zs := by
  obtain ⟨f, h1, h2⟩ := h.at
  exact Or.inr ⟨b, c, f, rfl, hn, h.len, hc, h1, h2⟩
theorem Fil.all {w0 wr : World} {G0 G : Loc} {L : List Nd} {b c : Nat} {es ys : List Nat} (h : Fil w0 wr G0 G L b c es ys) (he : es.length = ys.length) : Fil w0 wr G0 G L b c es es := by
  have := h.re he es.length
  rwa [List.take_of_length_le (Nat.le_refl _)] at this
theorem set_front (i : Nat) (qs : List Nat) (e : Nat) : (List.replicate (i + 1) 0 ++ qs).set i e = List.replicate i 0 ++ (e :: qs) := by
  rw [List.set_append_left _ _ (by simp), List.replicate_succ', List.set_append_right _ _ (by simp)]
  simp

set_option maxRecDepth 100000 in
set_option maxHeartbeats 1000000 in
theorem divide_any {P : Prop} {w : World} {G : Loc} {L : List Nd} (h : Rep w G L) (hW : Wf L) (a : Option Addr) (A : List Nat) (c : Nat) (a2 : Option Addr) (B : List Nat) (c2 : Nat) (n : Nat) (hx : Vec w G a A) (hy : Vec w G a2 B) (hnx : A.length = n) (hny : B.length = n) (hn1 : 1 ≤ n) (hn : n ≤ 16) (he : ∀ e ∈ A, e < 2 * (L.length + 1)) (he2 : ∀ e ∈ B, e < 2 * (L.length + 1)) (hP : P → (∀ e ∈ A, e ≤ 1) ∧ (∀ e ∈ B, e ≤ 1)) (hc2 : n ≤ c2) (hl : L.length < 90000) :
    Calls Try.prog 67 #[.pointer (some ⟨G.h, 0, none⟩), .slice a n c, .slice a2 n c2] w (DivE w G P L 3520 n (divF L A B 0)) := by
  obtain ⟨p1, o1, rfl, _⟩ := hx.resolve_left (by omega)
  obtain ⟨p2, o2, rfl, _⟩ := hy.resolve_left (by omega)
  have HVX := Lib.hid (And.intro hx hy)
  have HC := Lib.hid (And.intro hW (And.intro he (And.intro he2 (And.intro hP hl))))
  have HNN := Lib.hid (And.intro hnx (And.intro hny (And.intro hn1 (And.intro hn hc2))))
  have hm := fun W => run_make_row' (P := Try.prog) 31 3 (.int .i64 0) 8 Try.underlying31 infoInt rfl .i64 .i64 n (by omega) (by omega) W
  have q0 := (Fil.made h (Fr.refl G w) n).full
  have hba : Below w.heap.size w (w.alloc (.cells (madeCells #[.int .i64 0] n) 3)) := (Below.refl _ _).alloc (Nat.le_refl _) _
  have hcl := Clone_vec q0.rep (some ⟨p2, o2, none⟩) B c2 (hy.below hba) (by omega) (by omega)
  rw [hny] at hcl
  have HCL := Lib.hid hcl
  have HQ0 := Lib.hid q0
  have HVX1 : Hid (Vec (w.alloc (.cells (madeCells #[.int .i64 0] n) 3)) G (some ⟨p2, o2, none⟩) B) := hy.below hba
  clear h hW hx hy he he2 hP hl hnx hny q0 hba hcl
  go_enter Try.func67, Try.ntmps67
  go_wp2_with fail
  generalize hw1 : (w.alloc (.cells (madeCells #[.int .i64 0] n) 3)) = w1 at *
  refine HCL.out.mono ?_
  rintro e w2 ⟨v, rfl, ho, hb2⟩
  obtain ⟨hb, hc, rfl, k1, k2, k3, k4, k5, _, _⟩ := ho.form (by rw [HNN.out.2.1]; omega)
  have f1 := HQ0.out.below hb2
  have hsz : w.heap.size ≤ w1.heap.size := HQ0.out.fr.size
  have f2 := ho.fil (by rw [HNN.out.2.1]; omega) f1.rep f1.fr hsz
  have hqh : w.heap.size ≠ hb := by have := HQ0.out.lt; omega
  have HF := Lib.hid (And.intro f1 (And.intro f2 hqh))
  rw [HNN.out.2.1] at k1 ⊢
  have hR : Calls Try.prog 71 #[.slice (some ⟨hb, 0, none⟩) n hc] w2 fun e w' => e = .returned (.tuple #[]) ∧ ∃ q, w' = (w2.drewN q).setCells hb 0 (B.reverse.map encE) := by
    have hzl : (B.map (fun e : Nat => (e : Int))).length = n := by rw [List.length_map, HNN.out.2.1]
    refine (Any.slices_Reverse_int_cells Try.lays112 hb 0 n hc (B.map (fun e : Nat => (e : Int))) w2 (by omega) (by omega) (fun j hj => ?_) (fun j _ => f2.free _)).mono ?_
    · rw [Nat.zero_add, f2.next (i := j) (by rw [HNN.out.2.1]; omega) (Nat.zero_le _)]
      congr 2
      rw [List.getD_eq_getElem?_getD, List.getD_eq_getElem?_getD, List.getElem?_map, List.getElem?_eq_getElem (by rw [HNN.out.2.1]; omega)]
      rfl
    · rintro e w' ⟨rfl, q, rfl⟩
      refine ⟨rfl, q, ?_⟩
      rw [List.take_of_length_le (by omega), ← List.map_reverse, List.map_map]
      rfl
  have HRV := Lib.hid hR
  clear ho hb2 k2 k3 k4 k5 f1 f2 hqh hR hsz
  go_wp2_with fail
  refine HRV.out.mono ?_
  rintro e w3 ⟨rfl, q, rfl⟩
  have g2 := (HF.out.2.1.drewN q).refill B.reverse (by rw [List.length_reverse])
  have g1 := (HF.out.1.drewN q).grown (grown_setCells hb (B.reverse.map encE) (w2.drewN q) 0) (fun k e => by cases e; exact ⟨HF.out.2.2, HF.out.2.1.out, HF.out.2.1.new⟩)
  have START : Hid (DivI w ((w2.drewN q).setCells hb 0 (B.reverse.map encE)) G P L n w.heap.size hb hc 0 B.reverse (.slice none 0 0) (divF L A B (n - 0))) := by
    refine ⟨G, L, [], [], rfl, rfl, ?_, g2, Or.inl ⟨rfl, rfl⟩, fun b e => by simp [Value.ownBlock] at e, (Out.nil HC.out.1).congr fun m => ?_⟩
    · rw [Nat.sub_zero, List.append_nil]; exact g1
    · unfold divF; rw [Nat.sub_zero, List.drop_eq_nil_of_le (by rw [HNN.out.1]; exact Nat.le_refl _)]; rfl
  have HQH := Lib.hid HF.out.2.2
  generalize (w2.drewN q).setCells hb 0 (B.reverse.map encE) = w4 at *
  clear g1 g2 HF HCL HRV HQ0 HVX1 hw1
  go_wp2_with fail
  go_loopw [7, 10, 11, 12, 13, 14, 24] (fun rv _ _ _ _ _ iv wr => ∃ k : Nat, iv = .int .i64 (k : Int) ∧ k ≤ n ∧ Hid (DivI w wr G P L n w.heap.size hb hc k B.reverse rv (divF L A B (n - k)))) (fun _ _ _ _ _ _ iv _ => n - (RowKit.intOf iv).toNat)
  case atStart => exact ⟨0, rfl, Nat.zero_le _, START⟩
  case round =>
    obtain ⟨k, rfl, hk, HH⟩ := hrel
    by_cases hlt : k < n
    · have hlz : (k : Int) < (n : Int) := by omega
      have k0 : (0 : Int) ≤ (k : Int) := by omega
      obtain ⟨i, hi⟩ : ∃ i, i = n - 1 - k := ⟨_, rfl⟩
      have HI : Hid (i + k + 1 = n) := by unfold Hid; omega
      have ei : (n : Int) - 1 - (k : Int) = (i : Int) := by omega
      have iz : (i : Int) < (n : Int) := by omega
      have i0 : (0 : Int) ≤ (i : Int) := by omega
      clear hi
      obtain ⟨G1, L1, qs, rs, hqs, hrs, q3, q4, q5, q6, hO⟩ := HH.out
      have hll := hO.lenle
      obtain ⟨x, hxe⟩ : ∃ x, A.getD i 0 = x := ⟨_, rfl⟩
      have ix : i < A.length := by rw [HNN.out.1]; omega
      have HX : Hid (x < 2 * (L.length + 1) ∧ (P → x ≤ 1) ∧ A.getD i 0 = x) := ⟨hxe ▸ HC.out.2.1 _ (get_mem ix), fun p => hxe ▸ (HC.out.2.2.2.1 p).1 _ (get_mem ix), hxe⟩
      have cx : wr.cell? ⟨p1, o1 + i, none⟩ = some (.int .i64 (x : Int)) := by
        obtain ⟨_, _, e, _, _, q⟩ := (HVX.out.1.fr q3.fr).resolve_left (by rw [HNN.out.1]; omega)
        cases e
        rw [← hxe]; exact q i ix
      have hba : Below wr.heap.size wr (wr.alloc (.cells #[.int .i64 (x : Int)] 3)) := (Below.refl _ _).alloc (Nat.le_refl _) _
      have HIN := Lib.hid (Insert_front (q5.alloc (.cells #[.int .i64 (x : Int)] 3)) x wr.heap.size (heap_alloc_new wr _) (fun e => Nat.lt_irrefl _ (q5.lt _ e)) (by rw [hrs]; omega))
      have HR1 := Lib.hid (And.intro (q3.below hba) (And.intro (q4.below hba) (And.intro q6 (And.intro (q5.lt) (And.intro q3.lt q4.lt)))))
      have HGL : Hid (∀ b, G1.has b → b < wr.heap.size) := q3.rep.lt
      have HO := Lib.hid hO
      have HLN := Lib.hid (And.intro hqs (And.intro hrs hll))
      have HWS := Lib.hid q3.fr.size
      clear hqs hrs q3 q4 q5 q6 hO hll hxe hba HH ix
      go_wp2_with fail
      refine HIN.out.mono ?_
      rintro e w5 ⟨rb, rc, f, rfl, r2, r3, r4, r5, r6, r7⟩
      have hlen : (x :: rs).length = k + 1 := by rw [List.length_cons, HLN.out.2.1]
      have qf := HR1.out.1.grown r7 (fun b e => ⟨fun q => (HR1.out.2.2.1 b e).2.2.1 q.symm, (HR1.out.2.2.1 b e).2.1, (HR1.out.2.2.1 b e).1⟩)
      have hf := HR1.out.2.1.grown r7 (fun b e => ⟨fun q => (HR1.out.2.2.1 b e).2.2.2 q.symm, (HR1.out.2.2.1 b e).2.1, (HR1.out.2.2.1 b e).1⟩)
      have hrb : w.heap.size ≤ rb ∧ ¬ G1.has rb ∧ rb ≠ w.heap.size ∧ rb ≠ hb := by
        rcases r6 with e | e
        · exact HR1.out.2.2.1 rb e
        · have e' : wr.heap.size ≤ rb := by simp at e; omega
          refine ⟨Nat.le_trans HWS.out e', fun q => ?_, ?_, ?_⟩
          · have := HGL.out _ q; omega
          · have := HR1.out.2.2.2.2.1; omega
          · have := HR1.out.2.2.2.2.2; omega
      have rf := Fil.of_row qf.rep qf.fr r4 r5 hrb.1 hrb.2.1 r2
      rw [hlen] at r2 ⊢
      have hll := HLN.out.2.2
      have hl := HC.out.2.2.2.2
      have hnn := HNN.out.2.2.2
      have hD := diff_any (P := P) rf.rep HO.out.wf (some ⟨rb, 0, none⟩) (x :: rs) rc (some ⟨p2, o2, none⟩) (B.take (k + 1)) c2 (k + 1) (rf.vec rfl) ((HVX.out.2.fr rf.fr).take (k + 1)) hlen (by rw [List.length_take, HNN.out.2.1]; omega) (by omega) (by omega)
        (fun e he => (List.mem_cons.1 he).elim (fun q => q ▸ HO.out.lt HX.out.1) (fun q => HO.out.own e (List.mem_append_right _ q))) (fun e he => HO.out.lt (HC.out.2.2.1 e (List.mem_of_mem_take he)))
        (fun p => ⟨fun e he => (List.mem_cons.1 he).elim (fun q => q ▸ HX.out.2.1 p) (fun q => (HO.out.con p).2 e (List.mem_append_right _ q)), fun e he => (HC.out.2.2.2.1 p).2 e (List.mem_of_mem_take he)⟩) (by omega)
      rw [rf.fr.h] at hD
      have HD := Lib.hid hD
      have HF5 := Lib.hid (And.intro qf (And.intro hf (And.intro rf hrb)))
      have HRB : Hid (rb ≠ w.heap.size ∧ rb ≠ hb) := hrb.2.2
      have HR3 := Lib.hid r3
      have HLEN := Lib.hid hlen
      have hkc : ((k : Int) + 1) ≤ (c2 : Int) := by have := HNN.out.2.2.2.2; omega
      clear qf hf rf hrb r3 r4 r5 r6 r7 hD hll hl hnn hlen HIN cx
      go_wp2_with fail
      refine HD.out.mono ?_
      rintro e w6 ⟨lb, G3, L3, es3, c3, rfl, hes3, d1, d2⟩
      have qf := HF5.out.1.op d1.rep d1.fr
      have hf := HF5.out.2.1.op d1.rep d1.fr
      have rf := HF5.out.2.2.1.op d1.rep d1.fr
      have lf := (d1.pre HF5.out.2.2.1.fr).all (by rw [List.length_replicate]; exact hes3)
      have hlb : lb ≠ w.heap.size ∧ lb ≠ hb ∧ lb ≠ rb := by
        have h1 := HF5.out.1.lt
        have h2 := HF5.out.2.1.lt
        have h3 := HF5.out.2.2.1.lt
        have h4 := d1.new
        exact ⟨by omega, by omega, by omega⟩
      have hd := d2.lenle
      have hll := HLN.out.2.2
      have hl := HC.out.2.2.2.2
      have hnn := HNN.out.2.2.2
      have hBr : ∀ e ∈ B.reverse.take i, e < 2 * (L3.length + 1) := fun e he => d2.lt (HO.out.lt (HC.out.2.2.1 e (by simpa using List.mem_of_mem_take he)))
      have hA := Any_vec (P := P) d1.rep d2.wf (some ⟨hb, 0, none⟩) (B.reverse.take i) hc i ((hf.vec rfl).take i) (by rw [List.length_take, List.length_reverse, HNN.out.2.1]; have := HI.out; omega) (by omega) hBr (fun p e he => (HC.out.2.2.2.1 p).2 e (by simpa using List.mem_of_mem_take he)) (by omega)
      rw [d1.fr.h, HF5.out.1.fr.h] at hA
      have HA := Lib.hid hA
      have HF6 := Lib.hid (And.intro qf (And.intro hf (And.intro rf (And.intro lf hlb))))
      have HD2 := Lib.hid (And.intro d2 hes3)
      have hihc : (i : Int) ≤ (hc : Int) := by have := hf.len; rw [List.length_reverse, HNN.out.2.1] at this; omega
      have hk1 : k + 1 ≤ rc := r2
      clear qf hf rf lf hlb hd hll hl hnn hBr hA d1 d2 hes3 HD HF5 hkc
      go_wp2_with fail
      refine HA.out.mono ?_
      rintro e w7 ⟨r, ⟨rfl, G4, g1, g2⟩, hac⟩
      have hrl := hac.ans.lenle
      have hro := hac.ans.own
      have hd := HD2.out.1.lenle
      have hll := HLN.out.2.2
      have hl := HC.out.2.2.2.2
      have hnn := HNN.out.2.2.2
      have hc3 : c3 < 2 * (r.2.length + 1) := hac.out.lt (HD2.out.1.own c3 (by simp))
      have HN := Lib.hid (Not_any r.1 w7 (by omega))
      have hZ := and_ac (P := P) hac.ans.wf hc3 (neg_lt hro) (fun p => ⟨(HD2.out.1.con p).2 c3 (by simp), neg_con (hac.con p).2⟩)
      have hZA := And_any g1 (c3 : Int) (neg r.1 : Int) (by omega) (by have := neg_lt hro; omega) (by omega)
      rw [own_nat hc3, own_nat (neg_lt hro), g2.h, HF6.out.1.fr.h] at hZA
      have HZA := Lib.hid hZA
      have HF7 := Lib.hid (And.intro (HF6.out.1.op g1 g2) (And.intro (HF6.out.2.1.op g1 g2) (And.intro (HF6.out.2.2.1.op g1 g2) (HF6.out.2.2.2.1.op g1 g2))))
      have HZ := Lib.hid (And.intro hac hZ)
      clear g1 g2 hac hrl hro hd hll hl hnn hc3 hZ hZA HA
      generalize andE r.2 c3 (neg r.1) = z at *
      have HRN : Hid (∀ L7 ms j2, Out P z.2 j2 L7 ms (fun m => if Gr.val m z.2 z.1 then es3.map (Gr.val m z.2) else (x :: rs).map (Gr.val m z.2)) → Out P L (220 * k + (9 * (k + 1) + (i + (1 + j2)))) L7 ((z.1 :: qs) ++ ms) (divF L A B i)) := fun L7 ms j2 hM =>
        div_round (n := n) (by have h := HO.out; unfold divF at h; rwa [show n - k = i + 1 by have := HI.out; omega] at h) HLN.out.1 HLN.out.2.1 HNN.out.1 HNN.out.2.1 HI.out HX.out.2.2 HX.out.1 HC.out.2.2.1 HD2.out.1 HD2.out.2 HZ.out.1 HZ.out.2 hM
      generalize neg r.1 = nr at *
      go_wp2_with fail
      refine HN.out.mono ?_
      rintro e w' ⟨rfl, rfl⟩
      go_wp2_with fail
      refine HZA.out.mono ?_
      rintro e w8 ⟨rfl, G5, g1, g2⟩
      have qf := HF7.out.1.op g1 g2
      have hf := HF7.out.2.1.op g1 g2
      have rf := HF7.out.2.2.1.op g1 g2
      have lf := HF7.out.2.2.2.op g1 g2
      have hql : (List.replicate (n - k) 0 ++ qs).length = n := by rw [List.length_append, List.length_replicate, HLN.out.1]; omega
      have qf8 := qf.free i
      have qc8 := qf.get (i := i) (by rw [hql]; omega)
      have hqs := qf.set i (by rw [hql]; omega) z.1
      rw [show n - k = i + 1 by have := HI.out; omega, set_front] at hqs
      have hlb := HF6.out.2.2.2.2
      have HF9 : Hid (DivJ w (w8.setCell ⟨w.heap.size, i, none⟩ (.int .i64 (z.1 : Int))) G P z.2 n w.heap.size hb hc lb rb rc 0 (List.replicate i 0 ++ z.1 :: qs) B.reverse es3 (x :: rs) (fun m => if Gr.val m z.2 z.1 then (es3.take 0).map (Gr.val m z.2) else ((x :: rs).take 0).map (Gr.val m z.2))) := by
        refine ⟨G5, z.2, [], rfl, hqs, hf.other (fun e => HQH.out e.symm) qf.out qf.new i _, ?_, ((rf.other HRB.out.1 qf.out qf.new i _).re rfl 0), (Out.nil HZ.out.2.ans.wf).congr fun m => by simp⟩
        rw [HD2.out.2]
        exact lf.other hlb.1 qf.out qf.new i _
      have HLB := Lib.hid hlb
      have HIQ : Hid (i < (List.replicate i 0 ++ z.1 :: qs).length ∧ (List.replicate i 0 ++ z.1 :: qs).getD i 0 = z.1) := by
        refine ⟨by rw [List.length_append, List.length_replicate, List.length_cons]; omega, ?_⟩
        rw [List.getD_eq_getElem?_getD, List.getElem?_append_right (by rw [List.length_replicate]; exact Nat.le_refl _), List.length_replicate, Nat.sub_self]
        rfl
      have HOWN : Hid (z.1 < 2 * (z.2.length + 1) ∧ (∀ e ∈ es3, e < 2 * (z.2.length + 1)) ∧ (∀ e ∈ x :: rs, e < 2 * (z.2.length + 1)) ∧ (P → z.1 ≤ 1 ∧ (∀ e ∈ es3, e ≤ 1) ∧ (∀ e ∈ x :: rs, e ≤ 1)) ∧ z.2.length ≤ 95000) := by
        have o1 := HZ.out.1.out
        have o2 := HZ.out.2.out
        have l1 := o1.lenle
        have l2 := o2.lenle
        have l3 := HD2.out.1.lenle
        have l4 := HLN.out.2.2
        have l5 := HC.out.2.2.2.2
        have l6 := HNN.out.2.2.2.1
        refine ⟨HZ.out.2.ans.own, fun e he => o2.lt (o1.lt (HD2.out.1.own e (List.mem_append_left _ he))), fun e he => o2.lt (o1.lt (HD2.out.1.lt ?_)), fun p => ⟨(HZ.out.2.con p).2, fun e he => (HD2.out.1.con p).2 e (List.mem_append_left _ he), fun e he => ?_⟩, by have := HI.out; omega⟩
        · exact (List.mem_cons.1 he).elim (fun q => q ▸ HO.out.lt HX.out.1) (fun q => HO.out.own e (List.mem_append_right _ q))
        · exact (List.mem_cons.1 he).elim (fun q => q ▸ HX.out.2.1 p) (fun q => (HO.out.con p).2 e (List.mem_append_right _ q))
      generalize ((List.replicate (n - k) 0 ++ qs ++ (List.replicate (n - k) 0 ++ qs).drop (List.replicate (n - k) 0 ++ qs).length).getD i 0 : Int) = old at *
      clear qf hf rf lf hql hqs g1 g2 HF7 HZA HN hlb HF6
      obtain ⟨w9, hw9⟩ : ∃ w9, w9 = w8.setCell ⟨w.heap.size, i, none⟩ (.int .i64 (z.1 : Int)) := ⟨_, rfl⟩
      rw [← hw9] at HF9
      go_wp2_with fail
      rw [← hw9]
      clear hw9 qf8 qc8
      go_loopw [14, 62] (fun _ jv wr2 => ∃ j : Nat, jv = .int .i64 (j : Int) ∧ j ≤ k + 1 ∧ Hid (DivJ w wr2 G P z.2 n w.heap.size hb hc lb rb rc j (List.replicate i 0 ++ z.1 :: qs) B.reverse es3 (x :: rs) (fun m => if Gr.val m z.2 z.1 then (es3.take j).map (Gr.val m z.2) else ((x :: rs).take j).map (Gr.val m z.2)))) (fun _ jv _ => k + 1 - (RowKit.intOf jv).toNat)
      case atStart => exact ⟨0, rfl, Nat.zero_le _, HF9⟩
      case round =>
        obtain ⟨j, rfl, hj, HJ⟩ := hrel
        by_cases hjt : j < k + 1
        · have hjz : (j : Int) < (k : Int) + 1 := by omega
          have j0 : (0 : Int) ≤ (j : Int) := by omega
          have hjrc : j < rc := by omega
          obtain ⟨G6, L6, ms, hms, qf, hf, lf, rf, hO6⟩ := HJ.out
          have kd : j < es3.length := by rw [HD2.out.2]; exact hjt
          have kr : j < (x :: rs).length := by rw [HLEN.out]; exact hjt
          have hm6 := hO6.lenle
          have hz1 := HOWN.out.1
          have hyk := HOWN.out.2.1 _ (get_mem kd)
          have hvk := HOWN.out.2.2.1 _ (get_mem kr)
          have hl9 := HOWN.out.2.2.2.2
          have hkn := HNN.out.2.2.2.1
          have hA := mux_ac (P := P) hO6.wf (hO6.lt hz1) (hO6.lt hyk) (hO6.lt hvk) (fun p => ⟨(HOWN.out.2.2.2.1 p).1, (HOWN.out.2.2.2.1 p).2.1 _ (get_mem kd), (HOWN.out.2.2.2.1 p).2.2 _ (get_mem kr)⟩)
          have hS := hO6.snoc hA
          have H1 := Mux_any qf.drew.rep hO6.wf z.1 (es3.getD j 0) ((x :: rs).getD j 0) (hO6.lt hz1) (hO6.lt hyk) (hO6.lt hvk) (by omega)
          rw [qf.fr.h] at H1
          have HX1 := Lib.hid H1
          have HS : Hid (Out P z.2 (3 * (j + 1)) (muxE L6 z.1 (es3.getD j 0) ((x :: rs).getD j 0)).2 (ms ++ [(muxE L6 z.1 (es3.getD j 0) ((x :: rs).getD j 0)).1]) (fun m => if Gr.val m z.2 z.1 then (es3.take (j + 1)).map (Gr.val m z.2) else ((x :: rs).take (j + 1)).map (Gr.val m z.2))) := by
            refine (hS.more (by omega)).congr fun m => ?_
            rw [take_snoc' kd, take_snoc' kr, List.map_append, List.map_append, hO6.old hz1, hO6.old hyk, hO6.old hvk]
            cases Gr.val m z.2 z.1 <;> rfl
          have HMS := Lib.hid hms
          have HKR := Lib.hid kr
          have R9 : Hid (Fil w wr.drew G G6 L6 w.heap.size n (List.replicate i 0 ++ z.1 :: qs) (List.replicate i 0 ++ z.1 :: qs) ∧ Fil w wr.drew G G6 L6 hb hc B.reverse B.reverse ∧ Fil w wr.drew G G6 L6 lb es3.length es3 es3 ∧ Fil w wr.drew G G6 L6 rb rc ms (x :: rs)) := ⟨qf.drew, hf.drew, lf.drew, rf.drew⟩
          have HCX : Hid (∀ wr' G' (L' : List Nd), Fil w wr' G G' L' w.heap.size n (List.replicate i 0 ++ z.1 :: qs) (List.replicate i 0 ++ z.1 :: qs) → Fil w wr' G G' L' lb es3.length es3 es3 → Fil w wr' G G' L' rb rc ms (x :: rs) → wr'.cell? ⟨w.heap.size, i, none⟩ = some (.int .i64 (z.1 : Int)) ∧ wr'.cell? ⟨lb, j, none⟩ = some (.int .i64 (es3.getD j 0 : Int)) ∧ wr'.cell? ⟨rb, j, none⟩ = some (.int .i64 ((x :: rs).getD j 0 : Int))) := by
            intro wr' G' L' a1 a2 a3
            refine ⟨?_, ?_, a3.next kr (by rw [HMS.out]; exact Nat.le_refl _)⟩
            · obtain ⟨f', c1, c2⟩ := a1.at
              have := c2 i HIQ.out.1
              rw [HIQ.out.2] at this
              rw [← this]; exact c1.cell (by omega)
            · obtain ⟨f', c1, c2⟩ := a2.at
              rw [← c2 j kd]; exact c1.cell kd
          have HFIN : Hid (∀ w' G', Fil w w' G G' (muxE L6 z.1 (es3.getD j 0) ((x :: rs).getD j 0)).2 w.heap.size n (List.replicate i 0 ++ z.1 :: qs) (List.replicate i 0 ++ z.1 :: qs) → Fil w w' G G' (muxE L6 z.1 (es3.getD j 0) ((x :: rs).getD j 0)).2 hb hc B.reverse B.reverse → Fil w w' G G' (muxE L6 z.1 (es3.getD j 0) ((x :: rs).getD j 0)).2 lb es3.length es3 es3 → Fil w w' G G' (muxE L6 z.1 (es3.getD j 0) ((x :: rs).getD j 0)).2 rb rc ms (x :: rs) → DivJ w (w'.setCell ⟨rb, j, none⟩ (.int .i64 ((muxE L6 z.1 (es3.getD j 0) ((x :: rs).getD j 0)).1 : Int))) G P z.2 n w.heap.size hb hc lb rb rc (j + 1) (List.replicate i 0 ++ z.1 :: qs) B.reverse es3 (x :: rs) (fun m => if Gr.val m z.2 z.1 then (es3.take (j + 1)).map (Gr.val m z.2) else ((x :: rs).take (j + 1)).map (Gr.val m z.2))) :=
            fun w' G' a1 a2 a3 a4 => ⟨G', _, _, by rw [List.length_append, HMS.out]; rfl, a1.other HRB.out.1.symm a4.out a4.new j _, a2.other HRB.out.2.symm a4.out a4.new j _, a3.other HLB.out.2.2 a4.out a4.new j _, a4.put (k := j) HMS.out kr _, HS.out⟩
          clear H1 hS hA qf hf lf rf hO6 hms hm6 hz1 hyk hvk hl9 hkn kd kr HS HJ
          generalize muxE L6 z.1 (es3.getD j 0) ((x :: rs).getD j 0) = t at *
          generalize es3.getD j 0 = yk at *
          generalize (x :: rs).getD j 0 = vk at *
          go_wp2_with fail
          refine wp_region_L (S := fun w' => w'.cell? ⟨w.heap.size, i, none⟩ = some (.int .i64 (z.1 : Int)) ∧ w'.cell? ⟨lb, j, none⟩ = some (.int .i64 (yk : Int)) ∧ w'.cell? ⟨rb, j, none⟩ = some (.int .i64 (vk : Int))) 18 (by kernel_rfl) (HCX.out _ _ _ R9.out.1 R9.out.2.2.1 R9.out.2.2.2) (fun hSx => ?_)
          refine wpAnyL_take (i := 0) (v := ?vyl_0) rfl (by kernel_rfl) (fun _ _ _ h => h) ?yl_0 rfl hSx ?_
          case yl_0 => (intro w' hSw; (try dsimp only at hSw); go_split_ands; go_simp; try with_reducible rfl)
          clear hSx; intro hSx
          try simp only [Act.put, List.getElem_toArray, List.getElem_cons_zero, List.setIfInBounds_toArray, List.set_cons_zero, List.set_cons_succ]
          refine wpAnyL_take (i := 1) (v := ?vyl_1) rfl (by kernel_rfl) (fun _ _ _ h => h) ?yl_1 rfl hSx ?_
          case yl_1 => (intro w' hSw; (try dsimp only at hSw); go_split_ands; go_simp; try with_reducible rfl)
          clear hSx; intro hSx
          try simp only [Act.put, List.getElem_toArray, List.getElem_cons_succ, List.getElem_cons_zero, List.setIfInBounds_toArray, List.set_cons_zero, List.set_cons_succ]
          refine wpAnyL_take (i := 2) (v := ?vyl_2) rfl (by kernel_rfl) (fun _ _ _ h => h) ?yl_2 rfl hSx ?_
          case yl_2 => (intro w' hSw; (try dsimp only at hSw); go_split_ands; go_simp; try with_reducible rfl)
          clear hSx; intro hSx
          try simp only [Act.put, List.getElem_toArray, List.getElem_cons_succ, List.getElem_cons_zero, List.setIfInBounds_toArray, List.set_cons_zero, List.set_cons_succ]
          refine wpAnyL_take (i := 3) (v := ?vyl_3) rfl (by kernel_rfl) (fun _ _ _ h => h) ?yl_3 rfl hSx ?_
          case yl_3 => (intro w' hSw; (try dsimp only at hSw); go_split_ands; go_simp; try with_reducible rfl)
          clear hSx; intro hSx
          try simp only [Act.put, List.getElem_toArray, List.getElem_cons_succ, List.getElem_cons_zero, List.setIfInBounds_toArray, List.set_cons_zero, List.set_cons_succ]
          refine wpAnyL_take (i := 4) (v := ?vyl_4) rfl (by kernel_rfl) (fun _ _ _ h => h) ?yl_4 rfl hSx ?_
          case yl_4 => (intro w' hSw; (try dsimp only at hSw); go_split_ands; go_simp; try with_reducible rfl)
          clear hSx; intro hSx
          try simp only [Act.put, List.getElem_toArray, List.getElem_cons_succ, List.getElem_cons_zero, List.setIfInBounds_toArray, List.set_cons_zero, List.set_cons_succ]
          refine wpAnyL_take (i := 5) (v := ?vyl_5) rfl (by kernel_rfl) (fun _ _ _ h => h) ?yl_5 rfl hSx ?_
          case yl_5 => (intro w' hSw; (try dsimp only at hSw); go_split_ands; go_simp; try with_reducible rfl)
          clear hSx; intro hSx
          try simp only [Act.put, List.getElem_toArray, List.getElem_cons_succ, List.getElem_cons_zero, List.setIfInBounds_toArray, List.set_cons_zero, List.set_cons_succ]
          refine wpAnyL_take (i := 6) (v := ?vyl_6) rfl (by kernel_rfl) (fun _ _ _ h => h) ?yl_6 rfl hSx ?_
          case yl_6 => (intro w' hSw; (try dsimp only at hSw); go_split_ands; go_simp; try with_reducible rfl)
          clear hSx; intro hSx
          try simp only [Act.put, List.getElem_toArray, List.getElem_cons_succ, List.getElem_cons_zero, List.setIfInBounds_toArray, List.set_cons_zero, List.set_cons_succ]
          refine wpAnyL_take (i := 7) (v := ?vyl_7) rfl (by kernel_rfl) (fun _ _ _ h => h) ?yl_7 rfl hSx ?_
          case yl_7 => (intro w' hSw; (try dsimp only at hSw); go_split_ands; go_simp; try with_reducible rfl)
          clear hSx; intro hSx
          try simp only [Act.put, List.getElem_toArray, List.getElem_cons_succ, List.getElem_cons_zero, List.setIfInBounds_toArray, List.set_cons_zero, List.set_cons_succ]
          refine wpAnyL_take (i := 8) (v := ?vyl_8) rfl (by kernel_rfl) (fun _ _ _ h => h) ?yl_8 rfl hSx ?_
          case yl_8 => (intro w' hSw; (try dsimp only at hSw); go_split_ands; go_simp; try with_reducible rfl)
          clear hSx; intro hSx
          try simp only [Act.put, List.getElem_toArray, List.getElem_cons_succ, List.getElem_cons_zero, List.setIfInBounds_toArray, List.set_cons_zero, List.set_cons_succ]
          refine wpAnyL_take (i := 9) (v := ?vyl_9) rfl (by kernel_rfl) (fun _ _ _ h => h) ?yl_9 rfl hSx ?_
          case yl_9 => (intro w' hSw; (try dsimp only at hSw); go_split_ands; go_simp; try with_reducible rfl)
          clear hSx; intro hSx
          try simp only [Act.put, List.getElem_toArray, List.getElem_cons_succ, List.getElem_cons_zero, List.setIfInBounds_toArray, List.set_cons_zero, List.set_cons_succ]
          refine wpAnyL_take (i := 10) (v := ?vyl_10) rfl (by kernel_rfl) (fun _ _ _ h => h) ?yl_10 rfl hSx ?_
          case yl_10 => (intro w' hSw; (try dsimp only at hSw); go_split_ands; go_simp; try with_reducible rfl)
          clear hSx; intro hSx
          try simp only [Act.put, List.getElem_toArray, List.getElem_cons_succ, List.getElem_cons_zero, List.setIfInBounds_toArray, List.set_cons_zero, List.set_cons_succ]
          refine wpAnyL_take (i := 11) (v := ?vyl_11) rfl (by kernel_rfl) (fun _ _ _ h => h) ?yl_11 rfl hSx ?_
          case yl_11 => (intro w' hSw; (try dsimp only at hSw); go_split_ands; go_simp; try with_reducible rfl)
          clear hSx; intro hSx
          try simp only [Act.put, List.getElem_toArray, List.getElem_cons_succ, List.getElem_cons_zero, List.setIfInBounds_toArray, List.set_cons_zero, List.set_cons_succ]
          refine wpAnyL_take (i := 12) (v := ?vyl_12) rfl (by kernel_rfl) (fun _ _ _ h => h) ?yl_12 rfl hSx ?_
          case yl_12 => (intro w' hSw; (try dsimp only at hSw); go_split_ands; go_simp; try with_reducible rfl)
          clear hSx; intro hSx
          try simp only [Act.put, List.getElem_toArray, List.getElem_cons_succ, List.getElem_cons_zero, List.setIfInBounds_toArray, List.set_cons_zero, List.set_cons_succ]
          refine wpAnyL_take (i := 13) (v := ?vyl_13) rfl (by kernel_rfl) (fun _ _ _ h => h) ?yl_13 rfl hSx ?_
          case yl_13 => (intro w' hSw; (try dsimp only at hSw); go_split_ands; go_simp; try with_reducible rfl)
          clear hSx; intro hSx
          try simp only [Act.put, List.getElem_toArray, List.getElem_cons_succ, List.getElem_cons_zero, List.setIfInBounds_toArray, List.set_cons_zero, List.set_cons_succ]
          refine wpAnyL_take (i := 14) (v := ?vyl_14) rfl (by kernel_rfl) (fun _ _ _ h => h) ?yl_14 rfl hSx ?_
          case yl_14 => (intro w' hSw; (try dsimp only at hSw); go_split_ands; go_simp; try with_reducible rfl)
          clear hSx; intro hSx
          try simp only [Act.put, List.getElem_toArray, List.getElem_cons_succ, List.getElem_cons_zero, List.setIfInBounds_toArray, List.set_cons_zero, List.set_cons_succ]
          refine' wpAnyL_one (i := 15) ?tayl15 ?tbyl15 ?tcyl15 ?tdyl15
          case tbyl15 => rfl
          case tayl15 => kernel_rfl
          case tcyl15 => rfl
          intro K hK
          go_simp
          refine HX1.out.mono ?_
          rintro e w10 ⟨rfl, G7, g1, g2⟩
          have R10 := Lib.hid (And.intro (R9.out.1.op g1 g2) (And.intro (R9.out.2.1.op g1 g2) (And.intro (R9.out.2.2.1.op g1 g2) (R9.out.2.2.2.op g1 g2))))
          have fz10 := R10.out.2.2.2.free j
          have c10 := R10.out.2.2.2.next (i := j) HKR.out (by rw [HMS.out]; exact Nat.le_refl _)
          have S10 := Lib.hid (HCX.out _ _ _ R10.out.1 R10.out.2.2.1 R10.out.2.2.2)
          have F10 := Lib.hid (HFIN.out _ _ R10.out.1 R10.out.2.1 R10.out.2.2.1 R10.out.2.2.2)
          generalize ((x :: rs).getD j 0 : Int) = vv at c10
          clear g1 g2 R9 HX1
          try dsimp only
          refine hK.out _ _ (S10.out) (fun hSx => ?_)
          clear hK K
          try simp only [Act.put, List.getElem_toArray, List.getElem_cons_succ, List.getElem_cons_zero, List.setIfInBounds_toArray, List.set_cons_zero, List.set_cons_succ]
          refine wpAnyL_take (i := 16) (v := ?vyl_16) rfl (by kernel_rfl) (fun _ _ _ h => h) ?yl_16 rfl hSx ?_
          case yl_16 => (intro w' hSw; (try dsimp only at hSw); go_split_ands; go_simp; try with_reducible rfl)
          clear hSx; intro hSx
          try simp only [Act.put, List.getElem_toArray, List.getElem_cons_succ, List.getElem_cons_zero, List.setIfInBounds_toArray, List.set_cons_zero, List.set_cons_succ]
          refine' wpAnyL_last (i := 17) ?tayl17 ?tbyl17 ?tcyl17 ?tdyl17
          case tbyl17 => rfl
          case tayl17 => kernel_rfl
          case tcyl17 => rfl
          intro K hK
          go_simp
          refine hK.out _ _ ?_
          clear hK K
          go_wp2_with fail
          go_roundw
          case rel => exact ⟨j + 1, by go_num, by omega, F10⟩
          case measure => simp [RowKit.intOf]; omega
        · obtain rfl : j = k + 1 := by omega
          have hjz : ¬ ((k : Int) + 1) < (k : Int) + 1 := by omega
          obtain ⟨G6, L6, ms, hms, qf, hf, lf, rf, hO6⟩ := HJ.out
          have hnk : n - (k + 1) = i := by have := HI.out; omega
          have hkn := HNN.out.2.2.2.1
          have HEND : Hid (DivI w wr G P L n w.heap.size hb hc (k + 1) B.reverse (.slice (some ⟨rb, 0, none⟩) (k + 1) rc) (divF L A B (n - (k + 1)))) := by
            have hml : ms.length = (x :: rs).length := by rw [hms, HLEN.out]
            have hrest := (rf.all hml).rest (by omega) HR3.out
            rw [hms] at hrest
            refine ⟨G6, L6, z.1 :: qs, ms, by rw [List.length_cons, HLN.out.1], hms, by rw [hnk]; exact qf, hf, hrest, fun b e => ?_, ?_⟩
            · have : rb = b := by simpa [Value.ownBlock] using e
              subst this
              exact ⟨rf.new, rf.out, HRB.out.1, HRB.out.2⟩
            · rw [hnk]
              refine (HRN.out L6 ms (3 * (k + 1)) (hO6.congr fun m => ?_)).more (by omega)
              rw [List.take_of_length_le (by rw [HD2.out.2]; exact Nat.le_refl _), List.take_of_length_le (by rw [HLEN.out]; exact Nat.le_refl _)]
          clear hms qf hf lf rf hO6 hnk hkn HJ
          go_wp2_with fail
          go_roundw
          case rel => exact ⟨k + 1, by go_num, by omega, HEND⟩
          case measure => simp [RowKit.intOf]; omega
    · obtain rfl : k = n := by omega
      have hlz : ¬ (k : Int) < (k : Int) := by omega
      obtain ⟨G1, L1, qs, rs, q1, q2, q3, q4, q5, q6, hO⟩ := HH.out
      obtain ⟨rfl, _⟩ | ⟨rb, rc, f, rfl, r1, r2, r3, r4, r5⟩ := q5
      · have : k = 0 := by simpa using q2.symm
        omega
      have hq : List.replicate (k - k) 0 ++ qs = qs := by simp
      rw [hq] at q3
      have hrv := q6 rb rfl
      have hF : DivE w G P L 3520 k (divF L A B 0) (.returned (.tuple #[.slice (some ⟨w.heap.size, 0, none⟩) k k, .slice (some ⟨rb, 0, none⟩) rs.length rc])) wr := by
        rw [q2]
        refine ⟨w.heap.size, rb, rc, G1, L1, qs, rs, rfl, q1, q2, q3.rep, q3.fr, q3.vec rfl, (Fil.of_row q3.rep q3.fr r4 r5 hrv.1 hrv.2.1 r2).vec rfl, ?_⟩
        rw [Nat.sub_self] at hO
        exact hO.more (by omega)
      have HF := Lib.hid hF
      clear hF hO q1 q2 q3 q4 q6 r1 r2 r3 r4 r5 hrv hq HH
      go_wp2_with fail
      go_ret2
      exact HF.out
end Go.Proofs.Ytnkcdgpaphphaaa.Gr
