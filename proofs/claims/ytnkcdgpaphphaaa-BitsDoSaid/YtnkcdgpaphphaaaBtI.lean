/- Contract of Mul. -/
import Derived.Test.YtnkcdgpaphphaaaBtE
import Derived.Laws.AppendOwnNone
namespace Go.Proofs.Ytnkcdgpaphphaaa.Gr
open Go Go.RowKit Go.Lib Go.Maps

/-- 'append(s, u...)', u nil or one of the call's own. -/
theorem wpList_append_own2 {P : Program} {w : World} {ops : Array Oper} {rest : List Oper} {o : Oper} {a : Act} {Q : Exit → Act → World → Prop} (hgd : o.guard = none) (s x : Operand) (t : TypeId)
    (ho : o.op = .call { callee := .builtin .append, args := #[s, x], argTypes := #[t, t] })
    (base : Nat) (e : TypeId) (i : TypeInfo) (z : Value) (bytes : Nat) (ht : P.underlying t = some (.slice e)) (hi : P.info? e = some i) (hz : i.zero = some z)
    (hsize : i.size = 1) (hby : i.bytes = bytes) (hzs : z.cells.size = 1)
    (v : Value) (n : Nat) (xs : List Value) (hs : a.eval s = v) (hown : w.ownsRow base e 1 v n xs)
    (base2 : Nat) (u : Value) (m : Nat) (ys : List Value) (hx : a.eval x = u) (hu : w.ownsRow base2 e 1 u m ys) (h1 : ∀ y ∈ ys, y.oneCell' = true)
    (h63 : n + m ≤ maxLen) (hbytes : (n + m) * bytes ≤ 140737488355328) (hbase : base ≤ w.heap.size)
    (h : ∀ v' w', w'.ownsRow base e 1 v' (n + m) (xs ++ ys) → w.grownBy w' v.ownBlock → wpList P ops Q rest (a.put o.dst v') w') : wpList P ops Q (o :: rest) a w := by
  have hu0 := hu
  obtain ⟨hl, hu⟩ := hu
  rcases hu with ⟨rfl, rfl⟩ | ⟨g, cap, cur, rfl, _, hh, hc, hm, hcs, ht2⟩
  · have : ys = [] := by simpa using hl
    subst this
    refine wpList_append_own_none hgd s x t ho base e i 1 ht hi v n xs hs hown hx ?_
    exact h v w (by simpa using hown) ⟨rfl, rfl, rfl, Nat.le_refl _, fun _ _ _ => rfl⟩
  · refine wpList_append_own w hgd s x t ho base e i z 1 bytes ht hi hz hsize hby hzs (by decide) v n xs hs hown ⟨g, 0, none⟩ m cap ys hx hl (fun j q hj => ?_) h1 h63 hbytes hbase fun v' w' g1 g2 _ => h v' w' g1 g2
    rw [Addr.add_lit, Nat.zero_add]
    exact own_cell hu0 hj

theorem Fil.full {w0 wr : World} {G0 G : Loc} {L : List Nd} {b c : Nat} {ys : List Nat} (h : Fil w0 wr G0 G L b c [] ys) : Fil w0 wr G0 G L b c ys ys := by
  obtain ⟨f, h1, h2⟩ := h.row
  refine ⟨h.rep, h.fr, ⟨f, h1, fun i hi => ?_⟩, h.new, h.out, h.len⟩
  rw [h2 i hi]
  congr 3
  rw [List.drop_eq_nil_of_le (Nat.le_refl _), List.append_nil]; rfl
theorem Own.take {W w : World} {G : Loc} {b c : Nat} {es : List Nat} (h : Own W w G (.slice (some ⟨b, 0, none⟩) es.length c) es) (_hn : 0 < es.length) (k : Nat) (hk : k ≤ es.length) : Own W w G (.slice (some ⟨b, 0, none⟩) k c) (es.take k) := by
  obtain ⟨⟨h1, h2⟩, h3⟩ := h
  have hl : (es.take k).length = k := by rw [List.length_take]; omega
  refine ⟨⟨by simp, ?_⟩, h3⟩
  rcases h2 with ⟨q, _⟩ | ⟨g, cap, cur, e, q1, q2, q3, q4, q5, q6⟩
  · cases q
  · cases e
    refine Or.inr ⟨_, _, cur, by rw [hl], q1, q2, by omega, q4, q5, ?_⟩
    rw [hl, List.map_take, ← q6, List.take_take]
    congr 1
    omega
theorem Own.grow {W w w1 : World} {G : Loc} {v : Value} {es : List Nat} {row : Option Nat} (h : Own W w G v es) (hg : w.grownBy w1 row) (hrow : ∀ k, row = some k → v.ownBlock ≠ some k) : Own W w1 G v es :=
  ⟨owns_of_heap h.1 fun k hk => hg.block k (h.1.lt k hk).2 (fun e => hrow k e.symm hk), h.2⟩
theorem Fr.grow {w0 w w1 : World} {G0 G : Loc} {row : Option Nat} (h : Fr G0 w0 w G) (hg : w.grownBy w1 row) (hrow : ∀ k, row = some k → w0.heap.size ≤ k) : Fr G0 w0 w1 G :=
  ⟨h.h, hg.os.trans h.os, hg.tape.trans h.tape, hg.output.trans h.output, Nat.le_trans h.size hg.size, fun k hk hn => (hg.block k (Nat.lt_of_lt_of_le hk h.size) (fun e => by have := hrow k e.symm; omega)).trans (h.block k hk hn), h.own⟩
theorem Rep.grow {w w1 : World} {G : Loc} {L : List Nd} {row : Option Nat} (h : Rep w G L) (hg : w.grownBy w1 row) (hrow : ∀ k, row = some k → ¬ G.has k) : Rep w1 G L :=
  h.of_heap fun k hk => hg.block k (h.lt k hk) (fun e => hrow k e.symm hk)

/-- A row of the call's own, of any capacity. -/
def OwnE (w : World) (G : Loc) (P : Prop) (L : List Nd) (j n : Nat) (f : (Nat → Bool) → List Bool) (e : Ending) (w' : World) : Prop :=
  ∃ (b c : Nat) (G' : Loc) (L' : List Nd) (es : List Nat), e = .returned (.slice (some ⟨b, 0, none⟩) n c) ∧ es.length = n ∧ Rep w' G' L' ∧ Fr G w w' G' ∧ Own w w' G' (.slice (some ⟨b, 0, none⟩) n c) es ∧ Out P L j L' es f
theorem RowE.own {w : World} {G : Loc} {P : Prop} {L : List Nd} {j n : Nat} {f : (Nat → Bool) → List Bool} {e : Ending} {w' : World} (h : RowE w G P L j n f e w') (hn : n ≤ 16) : OwnE w G P L j n f e w' := by
  obtain ⟨b, G', L', es, h1, h2, h3, h4⟩ := h
  refine ⟨b, n, G', L', es, h1, h2, h3.rep, h3.fr, ?_, h4⟩
  have := h3.done (by rw [h2, List.length_replicate]) (by unfold maxLen; omega)
  rwa [List.length_replicate] at this
theorem OwnE.more {w : World} {G : Loc} {P : Prop} {L : List Nd} {j j' n : Nat} {f : (Nat → Bool) → List Bool} {e : Ending} {w' : World} (h : OwnE w G P L j n f e w') (hj : j ≤ j') : OwnE w G P L j' n f e w' := by
  obtain ⟨b, c, G', L', es, h1, h2, h3, h4, h5, h6⟩ := h
  exact ⟨b, c, G', L', es, h1, h2, h3, h4, h5, h6.more hj⟩

def MulI (w wr : World) (G : Loc) (P : Prop) (L : List Nd) (n rb rc q : Nat) (f : (Nat → Bool) → List Bool) : Prop :=
  ∃ (G' : Loc) (L' : List Nd) (es : List Nat), es.length = n ∧ Rep wr G' L' ∧ Fr G w wr G' ∧ Own w wr G' (.slice (some ⟨rb, 0, none⟩) n rc) es ∧ Out P L q L' es f
theorem getD_map {A : List Nat} {k : Nat} (h : k < A.length) (m : Nat → Bool) (L : List Nd) : (A.map (Gr.val m L)).getD k false = Gr.val m L (A.getD k 0) := by
  rw [List.getD_eq_getElem?_getD, List.getD_eq_getElem?_getD, List.getElem?_map, List.getElem?_eq_getElem h]; rfl

set_option maxRecDepth 100000 in
set_option maxHeartbeats 1000000 in
theorem Mul_any {P : Prop} {w : World} {G : Loc} {L : List Nd} (a : Option Addr) (xs : List Nat) (c : Nat) (a2 : Option Addr) (ys : List Nat) (c2 : Nat) (t : Two w G P L a xs a2 ys) (hl : L.length < 100000) :
    Calls Try.prog 47 #[.pointer (some ⟨G.h, 0, none⟩), .slice a xs.length c, .slice a2 ys.length c2] w (OwnE w G P L 2560 (wid xs ys) (fun m => prodL ((wdE xs ys xs).map (Gr.val m L)) ((wdE xs ys ys).map (Gr.val m L)))) := by
  have H1 := Lib.hid (t.pair c c2 (by omega))
  have hm1 := wid_pos xs ys
  have hm2 := wid_le xs ys
  have HA := Lib.hid (wdE_all (xs := xs) (ys := ys) t.ex (by omega))
  have HB := Lib.hid (wdE_all (xs := xs) (ys := ys) t.ey (by omega))
  have HP : Hid (P → (∀ e ∈ wdE xs ys xs, e ≤ 1) ∧ (∀ e ∈ wdE xs ys ys, e ≤ 1)) := fun p => ⟨wdE_all (p := fun e => e ≤ 1) (t.con p).1 (by omega), wdE_all (p := fun e => e ≤ 1) (t.con p).2 (by omega)⟩
  have HW := Lib.hid (And.intro t.wf hl)
  have HLA := Lib.hid (wdE_len xs ys xs)
  have HLB := Lib.hid (wdE_len xs ys ys)
  clear t hl
  generalize wdE xs ys xs = A at *
  generalize wdE xs ys ys = B at *
  generalize wid xs ys = n at *
  generalize xs.length = l1 at *
  generalize ys.length = l2 at *
  have HNN := Lib.hid (And.intro hm1 hm2)
  obtain ⟨ii, hi, hz0, hz1, hz2⟩ := info_parts infoInt
  have hm := fun W => run_make_row' (P := Try.prog) 31 3 (.int .i64 0) 8 Try.underlying31 infoInt rfl .i64 .i64 n (by omega) (by omega) W
  go_enter Try.func47, Try.ntmps47
  go_wp2_with fail
  refine H1.out.mono ?_
  rintro e w1 ⟨b1, b2, G1, rfl, hne, f1, f2⟩
  have HVX := Lib.hid (And.intro (f1.vec (by rw [HLA.out, List.length_replicate])) (f2.vec (by rw [HLB.out, List.length_replicate])))
  have HF1 := Lib.hid f1.fr
  have START : Hid (MulI w1 (w1.alloc (.cells (madeCells #[.int .i64 0] n) 3)) G1 P L n w1.heap.size n (160 * 0) (fun m => mulL (A.map (Gr.val m L)) (B.map (Gr.val m L)) 0)) := by
    have q := Fil.made f1.rep (Fr.refl G1 w1) n
    have o := q.full.done rfl (by unfold maxLen; omega)
    rw [List.length_replicate] at o
    refine ⟨G1, L, List.replicate n 0, List.length_replicate .., q.rep, q.fr, o, (Out.same HW.out.1 (fun e he => by rw [(List.mem_replicate.1 he).2]; omega) (fun p e he => by rw [(List.mem_replicate.1 he).2]; omega)).congr fun m => ?_⟩
    rw [List.map_replicate, val_zero]
    simp only [mulL, List.length_map, HLA.out]
  clear f1 f2 H1 hne
  go_wp2_with fail
  go_loopw [8, 9, 10, 11, 24] (fun rv _ _ _ iv wr => ∃ k rb rc : Nat, rv = .slice (some ⟨rb, 0, none⟩) n rc ∧ iv = .int .i64 (k : Int) ∧ k ≤ n ∧ Hid (MulI w1 wr G1 P L n rb rc (160 * k) (fun m => mulL (A.map (Gr.val m L)) (B.map (Gr.val m L)) k))) (fun _ _ _ _ iv _ => n - (RowKit.intOf iv).toNat)
  case atStart => exact ⟨0, _, _, rfl, rfl, Nat.zero_le _, START⟩
  case round =>
    obtain ⟨k, rb, rc, rfl, rfl, hk, HH⟩ := hrel
    by_cases hlt : k < n
    · have hlz : (k : Int) < (n : Int) := by omega
      have k0 : (0 : Int) ≤ (k : Int) := by omega
      obtain ⟨G2, L2, es, hes, r1, r2, r3, hO⟩ := HH.out
      have kx : k < A.length := by rw [HLA.out]; exact hlt
      have ky : k < B.length := by rw [HLB.out]; exact hlt
      have hyk := HB.out _ (get_mem ky)
      have hll := hO.lenle
      have hl := HW.out.2
      have hnn := HNN.out
      obtain ⟨d, hd⟩ : ∃ d, d = n - k := ⟨_, rfl⟩
      have HD : Hid (k + d = n ∧ 1 ≤ d) := ⟨by omega, by omega⟩
      have e4 : (n : Int) - (k : Int) = (d : Int) := by omega
      rw [← hes] at r3
      obtain ⟨_, _, e, q1, q2, q3, q4, q5, q6, _⟩ := r3.form (by omega)
      cases e
      rw [hes] at r3 q1
      have hkrc : ¬ k = rc := by omega
      have hrck : ¬ rc = k := by omega
      have hkrc2 : k ≤ rc := by omega
      have hdn : d ≤ n := by omega
      have e6 : n - k = d := by omega
      have hdn1 : (d : Int) ≤ (n : Int) := by omega
      have hd0 : (0 : Int) ≤ (d : Int) := by omega
      have hd16 : d ≤ 16 := by omega
      have e5 : IntKind.i64.wrap (d : Int) = (d : Int) := wrap_i64 (by omega) (by omega)
      have hrd : Fr G2 wr wr.drew G2 := (Fr.refl _ _).drewN 1
      have hM := mask_any (P := P) (r1.drewN 1 : Rep wr.drew G2 L2) hO.wf (B.getD k 0) (some ⟨b1, 0, none⟩) (A.take d) n d (((HVX.out.1.fr r2).fr hrd).take d) (by rw [List.length_take, HLA.out]; omega) HD.out.2 (by omega) (hO.lt hyk) (fun e he => hO.lt (HA.out e (List.mem_of_mem_take he))) (fun p => ⟨(HP.out p).2 _ (get_mem ky), fun e he => (HP.out p).1 e (List.mem_of_mem_take he)⟩) (by omega)
      rw [r2.h, HF1.out.h] at hM
      have HM := Lib.hid hM
      have HV0 : Hid (Vec wr.drew G2 (some ⟨rb, k, none⟩) (es.drop k)) := by
        have := (q6.fr hrd).drop k
        rwa [Nat.zero_add] at this
      have HCX : Hid (∀ wr' G', Fr G1 w1 wr' G' → wr'.cell? ⟨b2, k, none⟩ = some (.int .i64 (B.getD k 0 : Int))) := by
        intro wr' G' hf
        obtain ⟨_, _, e, _, _, q2⟩ := (HVX.out.2.fr hf).resolve_left (by omega)
        cases e
        have := q2 k ky
        rwa [Nat.zero_add] at this
      have HR := Lib.hid (And.intro r1 (And.intro r2 (And.intro r3 (And.intro hO hes))))
      have HRD := Lib.hid (r2.drewN 1)
      have HYK := Lib.hid hyk
      have HKX := Lib.hid (And.intro kx ky)
      clear r1 r2 r3 hO hes HH hM hd hyk hll hl hnn q2 q3 q4 q5 q6 hrd kx ky
      obtain ⟨yk, hyk⟩ : ∃ yk, yk = B.getD k 0 := ⟨_, rfl⟩
      have HYE := Lib.hid hyk
      rw [← hyk] at HM HCX HYK
      clear hyk
      go_wp2_with fail
      refine wp_region_H (S := fun w' => w'.cell? ⟨b2, k, none⟩ = some (.int .i64 (yk : Int))) 21 (by kernel_rfl) (HCX.out _ _ HRD.out) (fun hSx => ?_)
      refine wpAnyH_takeB (i := 0) (v := ?vya_0) rfl (by kernel_rfl) (fun _ _ _ h => h) rfl ?ya_0 hSx ?_
      case ya_0 => (intro w' hSw; (try dsimp only at hSw); go_split_ands; go_simp; try with_reducible rfl)
      try simp only [Act.put, List.getElem_toArray, List.getElem_cons_zero, List.setIfInBounds_toArray, List.set_cons_zero, List.set_cons_succ]
      refine wpAnyH_takeB (i := 1) (v := ?vya_1) rfl (by kernel_rfl) (fun _ _ _ h => h) rfl ?ya_1 hSx ?_
      case ya_1 => (intro w' hSw; (try dsimp only at hSw); go_split_ands; go_simp; try with_reducible rfl)
      try simp only [Act.put, List.getElem_toArray, List.getElem_cons_succ, List.getElem_cons_zero, List.setIfInBounds_toArray, List.set_cons_zero, List.set_cons_succ]
      refine wpAnyH_takeB (i := 2) (v := ?vya_2) rfl (by kernel_rfl) (fun _ _ _ h => h) rfl ?ya_2 hSx ?_
      case ya_2 => (intro w' hSw; (try dsimp only at hSw); go_split_ands; go_simp; try with_reducible rfl)
      try simp only [Act.put, List.getElem_toArray, List.getElem_cons_succ, List.getElem_cons_zero, List.setIfInBounds_toArray, List.set_cons_zero, List.set_cons_succ]
      refine wpAnyH_takeB (i := 3) (v := ?vya_3) rfl (by kernel_rfl) (fun _ _ _ h => h) rfl ?ya_3 hSx ?_
      case ya_3 => (intro w' hSw; (try dsimp only at hSw); go_split_ands; go_simp; try with_reducible rfl)
      try simp only [Act.put, List.getElem_toArray, List.getElem_cons_succ, List.getElem_cons_zero, List.setIfInBounds_toArray, List.set_cons_zero, List.set_cons_succ]
      refine wpAnyH_takeB (i := 4) (v := ?vya_4) rfl (by kernel_rfl) (fun _ _ _ h => h) rfl ?ya_4 hSx ?_
      case ya_4 => (intro w' hSw; (try dsimp only at hSw); go_split_ands; go_simp; try with_reducible rfl)
      try simp only [Act.put, List.getElem_toArray, List.getElem_cons_succ, List.getElem_cons_zero, List.setIfInBounds_toArray, List.set_cons_zero, List.set_cons_succ]
      refine wpAnyH_takeB (i := 5) (v := ?vya_5) rfl (by kernel_rfl) (fun _ _ _ h => h) rfl ?ya_5 hSx ?_
      case ya_5 => (intro w' hSw; (try dsimp only at hSw); go_split_ands; go_simp; try with_reducible rfl)
      try simp only [Act.put, List.getElem_toArray, List.getElem_cons_succ, List.getElem_cons_zero, List.setIfInBounds_toArray, List.set_cons_zero, List.set_cons_succ]
      refine wpAnyH_takeB (i := 6) (v := ?vya_6) rfl (by kernel_rfl) (fun _ _ _ h => h) rfl ?ya_6 hSx ?_
      case ya_6 => (intro w' hSw; (try dsimp only at hSw); go_split_ands; go_simp; try with_reducible rfl)
      try simp only [Act.put, List.getElem_toArray, List.getElem_cons_succ, List.getElem_cons_zero, List.setIfInBounds_toArray, List.set_cons_zero, List.set_cons_succ]
      refine wpAnyH_takeB (i := 7) (v := ?vya_7) rfl (by kernel_rfl) (fun _ _ _ h => h) rfl ?ya_7 hSx ?_
      case ya_7 => (intro w' hSw; (try dsimp only at hSw); go_split_ands; go_simp; try with_reducible rfl)
      try simp only [Act.put, List.getElem_toArray, List.getElem_cons_succ, List.getElem_cons_zero, List.setIfInBounds_toArray, List.set_cons_zero, List.set_cons_succ]
      refine wpAnyH_takeB (i := 8) (v := ?vya_8) rfl (by kernel_rfl) (fun _ _ _ h => h) rfl ?ya_8 hSx ?_
      case ya_8 => (intro w' hSw; (try dsimp only at hSw); go_split_ands; go_simp; try with_reducible rfl)
      try simp only [Act.put, List.getElem_toArray, List.getElem_cons_succ, List.getElem_cons_zero, List.setIfInBounds_toArray, List.set_cons_zero, List.set_cons_succ]
      refine wpAnyH_takeB (i := 9) (v := ?vya_9) rfl (by kernel_rfl) (fun _ _ _ h => h) rfl ?ya_9 hSx ?_
      case ya_9 => (intro w' hSw; (try dsimp only at hSw); go_split_ands; go_simp; try with_reducible rfl)
      try simp only [Act.put, List.getElem_toArray, List.getElem_cons_succ, List.getElem_cons_zero, List.setIfInBounds_toArray, List.set_cons_zero, List.set_cons_succ]
      refine wpAnyH_takeB (i := 10) (v := ?vya_10) rfl (by kernel_rfl) (fun _ _ _ h => h) rfl ?ya_10 hSx ?_
      case ya_10 => (intro w' hSw; (try dsimp only at hSw); go_split_ands; go_simp; try with_reducible rfl)
      try simp only [Act.put, List.getElem_toArray, List.getElem_cons_succ, List.getElem_cons_zero, List.setIfInBounds_toArray, List.set_cons_zero, List.set_cons_succ]
      refine wpAnyH_takeB (i := 11) (v := ?vya_11) rfl (by kernel_rfl) (fun _ _ _ h => h) rfl ?ya_11 hSx ?_
      case ya_11 => (intro w' hSw; (try dsimp only at hSw); go_split_ands; go_simp; try with_reducible rfl)
      try simp only [Act.put, List.getElem_toArray, List.getElem_cons_succ, List.getElem_cons_zero, List.setIfInBounds_toArray, List.set_cons_zero, List.set_cons_succ]
      refine wpAnyH_takeB (i := 12) (v := ?vya_12) rfl (by kernel_rfl) (fun _ _ _ h => h) rfl ?ya_12 hSx ?_
      case ya_12 => (intro w' hSw; (try dsimp only at hSw); go_split_ands; go_simp; try with_reducible rfl)
      try simp only [Act.put, List.getElem_toArray, List.getElem_cons_succ, List.getElem_cons_zero, List.setIfInBounds_toArray, List.set_cons_zero, List.set_cons_succ]
      refine wpAnyH_takeB (i := 13) (v := ?vya_13) rfl (by kernel_rfl) (fun _ _ _ h => h) rfl ?ya_13 hSx ?_
      case ya_13 => (intro w' hSw; (try dsimp only at hSw); go_split_ands; go_simp; try with_reducible rfl)
      try simp only [Act.put, List.getElem_toArray, List.getElem_cons_succ, List.getElem_cons_zero, List.setIfInBounds_toArray, List.set_cons_zero, List.set_cons_succ]
      refine' wpAnyH_one (i := 14) ?taya14 ?tbya14 ?tcya14 ?tdya14
      case tbya14 => rfl
      case taya14 => kernel_rfl
      case tcya14 => rfl
      intro K hK
      go_simp
      refine HM.out.mono ?_
      rintro e w2 ⟨b3, G3, L3, es3, rfl, hes3, m1, m2⟩
      have HM2 := Lib.hid (And.intro m1 (And.intro m2 hes3))
      have HS2 := Lib.hid (HCX.out _ _ (HRD.out.trans m1.fr))
      clear m1 m2 hes3
      try dsimp only
      refine hK.out _ _ (HS2.out) (fun hSx => ?_)
      clear hK K
      try simp only [Act.put, List.getElem_toArray, List.getElem_cons_succ, List.getElem_cons_zero, List.setIfInBounds_toArray, List.set_cons_zero, List.set_cons_succ]
      refine' wpAnyH_one (i := 15) ?taya15 ?tbya15 ?tcya15 ?tdya15
      case tbya15 => rfl
      case taya15 => kernel_rfl
      case tcya15 => rfl
      intro K hK
      go_simp
      have hS := sum_any (P := P) HM2.out.1.rep HM2.out.2.1.wf (some ⟨rb, k, none⟩) (es.drop k) (rc - k) (some ⟨b3, 0, none⟩) es3 d d 0 (HV0.out.fr HM2.out.1.fr) (HM2.out.1.vec (by rw [List.length_replicate]; exact HM2.out.2.2)) (by rw [List.length_drop, HR.out.2.2.2.2]; have := HD.out; omega) HM2.out.2.2 HD.out.2 (by have := HNN.out; omega) (fun e he => HM2.out.2.1.lt (HR.out.2.2.2.1.own e (List.mem_of_mem_drop he))) HM2.out.2.1.own (by omega) (fun p => ⟨fun e he => (HR.out.2.2.2.1.con p).2 e (List.mem_of_mem_drop he), (HM2.out.2.1.con p).2, by omega⟩) (by have := HM2.out.2.1.lenle; have := HR.out.2.2.2.1.lenle; have := HW.out.2; have := HNN.out; omega)
      rw [HM2.out.1.fr.h, HR.out.2.1.h, HF1.out.h] at hS
      have HS := Lib.hid hS
      clear hS
      refine HS.out.mono ?_
      rintro e w3 ⟨b4, G4, L4, es4, c4, rfl, hes4, s1, s2⟩
      have HS3 := Lib.hid (And.intro s1 (And.intro s2 hes4))
      have HX3 := Lib.hid (HCX.out _ _ ((HRD.out.trans HM2.out.1.fr).trans s1.fr))
      clear s1 s2 hes4
      try dsimp only
      refine hK.out _ _ (HX3.out) (fun hSx => ?_)
      clear hK K
      try simp only [Act.put, List.getElem_toArray, List.getElem_cons_succ, List.getElem_cons_zero, List.setIfInBounds_toArray, List.set_cons_zero, List.set_cons_succ]
      refine wpAnyH_takeB (i := 16) (v := ?vya_16) rfl (by kernel_rfl) (fun _ _ _ h => h) rfl ?ya_16 hSx ?_
      case ya_16 => (intro w' hSw; (try dsimp only at hSw); go_split_ands; go_simp; try with_reducible rfl)
      try simp only [Act.put, List.getElem_toArray, List.getElem_cons_succ, List.getElem_cons_zero, List.setIfInBounds_toArray, List.set_cons_zero, List.set_cons_succ]
      refine wpAnyH_takeB (i := 17) (v := ?vya_17) rfl (by kernel_rfl) (fun _ _ _ h => h) rfl ?ya_17 hSx ?_
      case ya_17 => (intro w' hSw; (try dsimp only at hSw); go_split_ands; go_simp; try with_reducible rfl)
      try simp only [Act.put, List.getElem_toArray, List.getElem_cons_succ, List.getElem_cons_zero, List.setIfInBounds_toArray, List.set_cons_zero, List.set_cons_succ]
      refine wpAnyH_takeB (i := 18) (v := ?vya_18) rfl (by kernel_rfl) (fun _ _ _ h => h) rfl ?ya_18 hSx ?_
      case ya_18 => (intro w' hSw; (try dsimp only at hSw); go_split_ands; go_simp; try with_reducible rfl)
      try simp only [Act.put, List.getElem_toArray, List.getElem_cons_succ, List.getElem_cons_zero, List.setIfInBounds_toArray, List.set_cons_zero, List.set_cons_succ]
      refine wpAnyH_takeB (i := 19) (v := ?vya_19) rfl (by kernel_rfl) (fun _ _ _ h => h) rfl ?ya_19 hSx ?_
      case ya_19 => (intro w' hSw; (try dsimp only at hSw); go_split_ands; go_simp; try with_reducible rfl)
      try simp only [Act.put, List.getElem_toArray, List.getElem_cons_succ, List.getElem_cons_zero, List.setIfInBounds_toArray, List.set_cons_zero, List.set_cons_succ]
      refine wpAnyH_takeB (i := 20) (v := ?vya_20) rfl (by kernel_rfl) (fun _ _ _ h => h) rfl ?ya_20 hSx ?_
      case ya_20 => (intro w' hSw; (try dsimp only at hSw); go_split_ands; go_simp; try with_reducible rfl)
      try simp only [Act.put, List.getElem_toArray, List.getElem_cons_succ, List.getElem_cons_zero, List.setIfInBounds_toArray, List.set_cons_zero, List.set_cons_succ]
      refine wpAnyH_done (by kernel_rfl) ?_ _
      have hTK : Own w1 w3 G4 (.slice (some ⟨rb, 0, none⟩) k rc) (es.take k) := by
        have h1 := ((HR.out.2.2.1.fr ((Fr.refl _ _).drewN 1)).fr HM2.out.1.fr).fr HS3.out.1.fr
        have h2 := HR.out.2.2.2.2
        rw [← h2] at h1
        exact h1.take (by have := HNN.out; omega) k (by have := HD.out; omega)
      have HTK := Lib.hid hTK
      have HT : Hid (w3.ownsRow w1.heap.size 3 1 (.slice (some ⟨rb, 0, none⟩) k rc) k ((es.take k).map encE)) := by
        have h := hTK.1
        rwa [show (es.take k).length = k by rw [List.length_take, HR.out.2.2.2.2]; have := HD.out; omega] at h
      have hU : Own w2 w3 G4 (.slice (some ⟨b4, 0, none⟩) d d) es4 := by
        have := HS3.out.1.done (by rw [List.length_replicate]; exact HS3.out.2.2) (by unfold maxLen; have := HNN.out; omega)
        rwa [List.length_replicate] at this
      have HU : Hid (w3.ownsRow w2.heap.size 3 1 (.slice (some ⟨b4, 0, none⟩) d d) d (es4.map encE)) := by
        have h := hU.1
        rwa [HS3.out.2.2] at h
      have HSZ : Hid (w1.heap.size ≤ w3.heap.size) := ((HRD.out.trans HM2.out.1.fr).trans HS3.out.1.fr).size
      have HNL : Hid ((es4.map encE).length = d * 1) := by unfold Hid; rw [List.length_map, HS3.out.2.2, Nat.mul_one]
      have HNEWS : Hid (∀ j u, (es4.map encE)[j]? = some u → w3.cell? ((⟨b4, 0, none⟩ : Addr).add j) = some u) := fun j u hj => by
        rw [Addr.add_lit, Nat.zero_add]; exact own_cell HU.out hj
      clear hTK hU
      go_wp2_with (at_builtin; refine wpList_append_lies _ rfl _ _ 31 rfl w1.heap.size 3 ii _ 1 8 Try.underlying31 hi hz0 hz1 hz2 rfl (by decide) _ k ((es.take k).map encE) rfl HT.out ⟨b4, 0, none⟩ d d (es4.map encE) rfl HNL.out HNEWS.out (by intro q hq; obtain ⟨z, _, rfl⟩ := List.mem_map.1 hq; rfl) HD.out.2 (by unfold maxLen; have := HD.out; omega) (by have := HD.out; omega) HSZ.out w3.heap.size rfl ?_; intro g cap w7 hown7 hgrow7 hat7 hlt7; refine Hid.out ?_)
      refine Lib.hid ?_
      have hg : w3.grownBy w7 (some rb) := hgrow7
      have hat : rb = g ∨ g = w3.heap.size := hat7.imp (fun q => Option.some.inj (show (some rb : Option Nat) = some g from q)) id
      have hnb : ¬ G4.has rb := HTK.out.2 rb rfl
      have hl1 : (es.take k ++ es4).length = n := by rw [List.length_append, List.length_take, HR.out.2.2.2.2, HS3.out.2.2]; have := HD.out; omega
      have hrb : w1.heap.size ≤ rb := by
        rcases HT.out.2 with ⟨q, _⟩ | ⟨g', _, _, q, q1, _⟩
        · cases q
        · cases q; exact q1
      rw [HD.out.1] at hown7 ⊢
      have HEND : Hid (MulI w1 w7 G1 P L n g cap (160 * (k + 1)) (fun m => mulL (A.map (Gr.val m L)) (B.map (Gr.val m L)) (k + 1))) := by
        refine ⟨G4, L4, es.take k ++ es4, hl1, Rep.grow HS3.out.1.rep hg (fun q e => by cases e; exact hnb), Fr.grow ((HRD.out.trans HM2.out.1.fr).trans HS3.out.1.fr) hg (fun q e => by cases e; exact hrb), ⟨?_, fun q hq hh => ?_⟩, ?_⟩
        · rw [hl1, List.map_append]; exact hown7
        · have : g = q := by simpa [Value.ownBlock] using hq
          subst this
          rcases hat with e | e
          · exact hnb (e ▸ hh)
          · have := HS3.out.1.rep.lt _ hh; omega
        · have h1 := HR.out.2.2.2.1
          have h2 := HM2.out.2.1
          have h3 := (HS3.out.2.1).left (fun _ => rfl)
          have h4 := (h1.part (fs := es.take k) (g := fun m => (mulL (A.map (Gr.val m L)) (B.map (Gr.val m L)) k).take k) (fun e he => List.mem_of_mem_take he) (fun m => by rw [List.map_take, h1.val m])).both (h2.then h3 id) id
          refine (h4.more (by have := HNN.out; have := HD.out; omega)).congr fun m => ?_
          have hdk : n - k = d := by have := HD.out; omega
          have t1 : (es.drop k).take d = es.drop k := List.take_of_length_le (by rw [List.length_drop, HR.out.2.2.2.2]; omega)
          have t2 : es3.take d = es3 := List.take_of_length_le (by rw [HM2.out.2.2]; exact Nat.le_refl _)
          simp only [mulL, sumF]
          rw [t1, t2, List.map_drop, h2.olds h1.own, h1.val m, h2.val m, val_zero, List.length_map, HLA.out, hdk, getD_map HKX.out.2, h1.old HYK.out, HYE.out, h1.olds (fun e he => HA.out e (List.mem_of_mem_take he)), List.map_take]
      clear hown7 hgrow7 hat7 hlt7 hg hat hnb hl1 hrb
      go_wp2_with fail
      go_roundw
      case rel => exact ⟨k + 1, g, cap, rfl, by go_num, by omega, HEND⟩
      case measure => simp [RowKit.intOf]; omega
    · obtain rfl : k = n := by omega
      have hlz : ¬ (k : Int) < (k : Int) := by omega
      obtain ⟨G2, L2, es, hes, r1, r2, r3, hO⟩ := HH.out
      have HF : Hid (OwnE w G P L 2560 k (fun m => prodL (A.map (Gr.val m L)) (B.map (Gr.val m L))) (.returned (.slice (some ⟨rb, 0, none⟩) k rc)) wr) := ⟨rb, rc, G2, L2, es, rfl, hes, r1, HF1.out.trans r2, r3.base HF1.out.size, (hO.more (by have := HNN.out; omega)).congr fun m => by unfold prodL; rw [List.length_map, HLA.out]⟩
      clear r1 r2 r3 hO HH hes
      go_wp2_with fail
      go_ret
      exact HF.out
end Go.Proofs.Ytnkcdgpaphphaaa.Gr
