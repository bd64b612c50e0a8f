/- Contract of Less. -/
import Derived.Test.YtnkcdgpaphphaaaBtE
import Derived.Deep.RegionHeld3
namespace Go.Proofs.Ytnkcdgpaphphaaa.Gr
open Go Go.RowKit Go.Lib Go.Maps

/-- A row that stands, its first k counted as put. -/
theorem Fil.re {w0 wr : World} {G0 G : Loc} {L : List Nd} {b c : Nat} {es ys : List Nat} (h : Fil w0 wr G0 G L b c es ys) (he : es.length = ys.length) (k : Nat) : Fil w0 wr G0 G L b c (es.take k) es := by
  obtain ⟨f, h1, h2⟩ := h.row
  refine ⟨h.rep, h.fr, ⟨f, h1, fun i hi => ?_⟩, h.new, h.out, by have := h.len; omega⟩
  rw [h2 i (by omega)]
  have e1 : ys.drop es.length = [] := List.drop_eq_nil_of_le (by omega)
  have e2 : es.take k ++ es.drop (es.take k).length = es := by
    by_cases q : k ≤ es.length
    · rw [List.length_take, Nat.min_eq_left q, List.take_append_drop]
    · rw [List.take_of_length_le (by omega), List.drop_eq_nil_of_le (Nat.le_refl _), List.append_nil]
  rw [e1, e2, List.append_nil]
/-- A store elsewhere. -/
theorem Fil.other {w0 wr : World} {G0 G : Loc} {L : List Nd} {b c : Nat} {es ys : List Nat} (h : Fil w0 wr G0 G L b c es ys) {b' : Nat} (hne : b ≠ b') (hG : ¬ G.has b') (hn : w0.heap.size ≤ b') (i : Nat) (u : Value) : Fil w0 (wr.setCell ⟨b', i, none⟩ u) G0 G L b c es ys := by
  obtain ⟨f, h1, h2⟩ := h.row
  refine ⟨h.rep.of_heap fun x hx => Below.heap_setCell _ _ _ _ (fun q => hG ((show x = b' from q) ▸ hx)), ?_, ⟨f, h1.other hne _, h2⟩, h.new, h.out, h.len⟩
  exact ⟨h.fr.h, h.fr.os, h.fr.tape, h.fr.output, by simpa [World.setCell] using h.fr.size, fun x hx hn => (Below.heap_setCell _ _ _ _ (by show x ≠ b'; omega)).trans (h.fr.block x hx hn), h.fr.own⟩

/-- One bit of a comparison. -/
theorem Out.less {P : Prop} {L L1 : List Nd} {k x y c : Nat} {g : (Nat → Bool) → Bool} {p q r z : Nat × List Nd} (h : Out P L k L1 [c] (fun m => [g m])) (hx : x < 2 * (L.length + 1)) (hy : y < 2 * (L.length + 1)) (hP : P → x ≤ 1 ∧ y ≤ 1)
    (ep : andE L1 (neg x) y = p) (eq : orE p.2 (neg x) y = q) (er : andE q.2 c q.1 = r) (ez : orE r.2 p.1 r.1 = z) :
    Out P L (k + 4) z.2 [z.1] (fun m => [(!Gr.val m L x && Gr.val m L y) || (g m && (!Gr.val m L x || Gr.val m L y))])
    ∧ (neg x < 2 * (L1.length + 1) ∧ y < 2 * (L1.length + 1) ∧ L1.length ≤ L.length + k) ∧ (Wf p.2 ∧ neg x < 2 * (p.2.length + 1) ∧ y < 2 * (p.2.length + 1) ∧ p.2.length ≤ L.length + k + 1) ∧ (c < 2 * (q.2.length + 1) ∧ q.1 < 2 * (q.2.length + 1) ∧ q.2.length ≤ L.length + k + 2) ∧ (Wf r.2 ∧ p.1 < 2 * (r.2.length + 1) ∧ r.1 < 2 * (r.2.length + 1) ∧ r.2.length ≤ L.length + k + 3) := by
  have hc : c < 2 * (L1.length + 1) := h.own c (by simp)
  have hcv : ∀ m, Gr.val m L1 c = g m := fun m => by have := h.val m; simpa using this
  have hcP : P → c ≤ 1 := fun p => (h.con p).2 c (by simp)
  have hl := h.lenle
  have nx1 := h.lt (neg_lt hx)
  have y1 := h.lt hy
  have q1 := and_ac (P := P) h.wf nx1 y1 (fun p => ⟨neg_con (hP p).1, (hP p).2⟩)
  rw [ep] at q1
  have o1 := q1.out
  have l1 := o1.lenle
  have q2 := or_ac (P := P) q1.ans.wf (o1.lt nx1) (o1.lt y1) (fun p => ⟨neg_con (hP p).1, (hP p).2⟩)
  rw [eq] at q2
  have o2 := q2.out
  have l2 := o2.lenle
  have q3 := and_ac (P := P) q2.ans.wf (o2.lt (o1.lt hc)) q2.ans.own (fun p => ⟨hcP p, (q2.con p).2⟩)
  rw [er] at q3
  have o3 := q3.out
  have l3 := o3.lenle
  have q4 := or_ac (P := P) q3.ans.wf (o3.lt (o2.lt q1.ans.own)) q3.ans.own (fun p => ⟨(q1.con p).2, (q3.con p).2⟩)
  rw [ez] at q4
  have o4 := q4.out
  have B := (h.then ((o1.then o2 id).then (o3.then o4 id) id) id).more (show k + (1 + 1 + (1 + 1)) ≤ k + 4 by omega)
  refine ⟨B.congr fun m => ?_, ⟨nx1, y1, hl⟩, ⟨q1.ans.wf, o1.lt nx1, o1.lt y1, by omega⟩, ⟨o2.lt (o1.lt hc), q2.ans.own, by omega⟩, ⟨q3.ans.wf, o3.lt (o2.lt q1.ans.own), q3.ans.own, by omega⟩⟩
  rw [o3.old (o2.lt q1.ans.own), o2.old q1.ans.own, q1.ans.val, q3.ans.val, o2.old (o1.lt hc), o1.old hc, hcv, q2.ans.val, o1.old nx1, o1.old y1, h.old (neg_lt hx), h.old hy, val_neg]

/-- What a comparison under way holds. -/
def LessI (w wr : World) (G : Loc) (P : Prop) (L : List Nd) (c q : Nat) (g : (Nat → Bool) → Bool) : Prop :=
  ∃ (G' : Loc) (L' : List Nd), Rep wr G' L' ∧ Fr G w wr G' ∧ Out P L q L' [c] (fun m => [g m])

theorem lessS_of {A B : List Nat} {n t : Nat} (hn : n = t + 1) (ha : A.length = n) (hb : B.length = n) (m : Nat → Bool) (L : List Nd) :
    lessL ((A.take t ++ [B.getD t 0]).map (Gr.val m L)) ((B.take t ++ [A.getD t 0]).map (Gr.val m L)) false = lessS (A.map (Gr.val m L)) (B.map (Gr.val m L)) := by
  unfold lessS
  rw [last_val (by omega), last_val (by omega), List.map_append, List.map_append]
  have key : ∀ {Z : List Nat}, Z.length = n → (Z.map (Gr.val m L)).dropLast = (Z.take t).map (Gr.val m L) ∧ Z.getD t 0 = Z.getLastD 0 := by
    intro Z hz
    refine ⟨?_, ?_⟩
    · rw [List.dropLast_eq_take, List.length_map, hz, hn, Nat.add_sub_cancel, List.map_take]
    · rw [List.getLastD_eq_getLast?, List.getLast?_eq_getElem?, hz, hn, Nat.add_sub_cancel, List.getD_eq_getElem?_getD]
  rw [(key ha).1, (key hb).1, (key ha).2, (key hb).2]
  rfl

set_option maxRecDepth 100000 in
set_option maxHeartbeats 1000000 in
theorem Less_any {P : Prop} {w : World} {G : Loc} {L : List Nd} (a : Option Addr) (xs : List Nat) (c : Nat) (a2 : Option Addr) (ys : List Nat) (c2 : Nat) (t : Two w G P L a xs a2 ys) (hl : L.length < 100000) :
    Calls Try.prog 39 #[.pointer (some ⟨G.h, 0, none⟩), .slice a xs.length c, .slice a2 ys.length c2] w (EdgE w G P L 64 (fun m => lessS ((wdE xs ys xs).map (Gr.val m L)) ((wdE xs ys ys).map (Gr.val m L)))) := by
  have H1 := Lib.hid (t.pair c c2 (by omega))
  have hm1 := wid_pos xs ys
  have hm2 := wid_le xs ys
  have HA := Lib.hid (wdE_all (xs := xs) (ys := ys) t.ex (by omega))
  have HB := Lib.hid (wdE_all (xs := xs) (ys := ys) t.ey (by omega))
  have HP : Hid (P → (∀ e ∈ wdE xs ys xs, e ≤ 1) ∧ (∀ e ∈ wdE xs ys ys, e ≤ 1)) := fun p => ⟨wdE_all (p := fun e => e ≤ 1) (t.con p).1 (by omega), wdE_all (p := fun e => e ≤ 1) (t.con p).2 (by omega)⟩
  have HW := Lib.hid (And.intro t.wf hl)
  have HLA := Lib.hid (wdE_len xs ys xs)
  have HLB := Lib.hid (wdE_len xs ys ys)
  clear t hl
  generalize wdE xs ys xs = A at *
  generalize wdE xs ys ys = B at *
  generalize wid xs ys = n at *
  generalize xs.length = l1 at *
  generalize ys.length = l2 at *
  obtain ⟨t, rfl⟩ : ∃ t, n = t + 1 := ⟨n - 1, by omega⟩
  have HNN := Lib.hid hm2
  have ht : t < 16 := by omega
  clear hm1 hm2
  go_enter Try.func39, Try.ntmps39
  go_wp2_with fail
  refine H1.out.mono ?_
  rintro e w1 ⟨b1, b2, G1, rfl, hne, f1, f2⟩
  have e1 := f1.re (by rw [HLA.out, List.length_replicate]) t
  have e2 := f2.re (by rw [HLB.out, List.length_replicate]) t
  have ta : (A.take t).length = t := by rw [List.length_take, HLA.out]; omega
  have tb : (B.take t).length = t := by rw [List.length_take, HLB.out]; omega
  have ca := e1.next (i := t) (by rw [HLA.out]; omega) (by omega)
  have cb := e2.next (i := t) (by rw [HLB.out]; omega) (by omega)
  have fa := e1.free t
  have fb := e2.free t
  have g1 := ((e1.put (k := t) ta (by rw [HLA.out]; omega) (B.getD t 0)).other hne e2.out e2.new t (.int .i64 (A.getD t 0 : Int))).drew
  have g2 := ((e2.other hne.symm e1.out e1.new t (.int .i64 (B.getD t 0 : Int))).put (k := t) tb (by rw [HLB.out]; omega) (A.getD t 0)).drew
  have HG := Lib.hid (And.intro g1 g2)
  have HLS : Hid (∀ m, lessL ((A.take t ++ [B.getD t 0]).map (Gr.val m L)) ((B.take t ++ [A.getD t 0]).map (Gr.val m L)) false = lessS (A.map (Gr.val m L)) (B.map (Gr.val m L))) := fun m => lessS_of rfl HLA.out HLB.out m L
  have HLT : Hid ((A.take t ++ [B.getD t 0]).length = t + 1 ∧ (B.take t ++ [A.getD t 0]).length = t + 1) := ⟨by rw [List.length_append, ta]; rfl, by rw [List.length_append, tb]; rfl⟩
  have HA' : Hid (∀ e ∈ A.take t ++ [B.getD t 0], e < 2 * (L.length + 1)) := fun e he => by
    rcases List.mem_append.1 he with q | q
    · exact HA.out e (List.mem_of_mem_take q)
    · rw [List.mem_singleton.1 q]; exact HB.out _ (get_mem (by rw [HLB.out]; omega))
  have HB' : Hid (∀ e ∈ B.take t ++ [A.getD t 0], e < 2 * (L.length + 1)) := fun e he => by
    rcases List.mem_append.1 he with q | q
    · exact HB.out e (List.mem_of_mem_take q)
    · rw [List.mem_singleton.1 q]; exact HA.out _ (get_mem (by rw [HLA.out]; omega))
  have HP' : Hid (P → (∀ e ∈ A.take t ++ [B.getD t 0], e ≤ 1) ∧ (∀ e ∈ B.take t ++ [A.getD t 0], e ≤ 1)) := fun p => ⟨fun e he => by
    rcases List.mem_append.1 he with q | q
    · exact (HP.out p).1 e (List.mem_of_mem_take q)
    · rw [List.mem_singleton.1 q]; exact (HP.out p).2 _ (get_mem (by rw [HLB.out]; omega)), fun e he => by
    rcases List.mem_append.1 he with q | q
    · exact (HP.out p).2 e (List.mem_of_mem_take q)
    · rw [List.mem_singleton.1 q]; exact (HP.out p).1 _ (get_mem (by rw [HLA.out]; omega))⟩
  have n1 : (b1 == b2) = false := by simpa using hne
  have n2 : (b2 == b1) = false := by simpa using hne.symm
  clear e1 e2 g1 g2 f1 f2 H1 ta tb
  generalize B.getD t 0 = y0 at *
  generalize A.getD t 0 = x0 at *
  go_wp2_with fail
  go_region
  obtain ⟨w2, hw2⟩ : ∃ w2, w2 = ((w1.setCell ⟨b1, t, none⟩ (.int .i64 (y0 : Int))).setCell ⟨b2, t, none⟩ (.int .i64 (x0 : Int))).drew := ⟨_, rfl⟩
  rw [← hw2] at HG ⊢
  have HVX := Lib.hid (And.intro (HG.out.1.vec (by rw [HLT.out.1, HLA.out])) (HG.out.2.vec (by rw [HLT.out.2, HLB.out])))
  have HF1 := Lib.hid HG.out.1.fr
  have START : Hid (LessI w2 w2 G1 P L 0 (4 * 0) (fun m => lessL (((A.take t ++ [y0]).take 0).map (Gr.val m L)) (((B.take t ++ [x0]).take 0).map (Gr.val m L)) false)) :=
    ⟨G1, L, HG.out.1.rep, Fr.refl _ _, (Out.same HW.out.1 (es := [0]) (fun e he => by simp at he; subst he; omega) (fun p e he => by simp at he; subst he; omega)).congr fun m => by simp [val_zero, lessL]⟩
  clear hw2 HG ca cb fa fb HLA HLB HA HB HP
  generalize A.take t ++ [y0] = A' at *
  generalize B.take t ++ [x0] = B' at *
  clear n1 n2 hne
  go_wp2_with fail
  go_loopw [8, 9, 10, 37] (fun cv _ _ iv wr => ∃ k cc : Nat, cv = .int .i64 (cc : Int) ∧ iv = .int .i64 (k : Int) ∧ k ≤ t + 1 ∧ Hid (LessI w2 wr G1 P L cc (4 * k) (fun m => lessL ((A'.take k).map (Gr.val m L)) ((B'.take k).map (Gr.val m L)) false))) (fun _ _ _ iv _ => t + 1 - (RowKit.intOf iv).toNat)
  case atStart => exact ⟨0, 0, rfl, rfl, Nat.zero_le _, START⟩
  case round =>
    obtain ⟨k, cc, rfl, rfl, hk, HH⟩ := hrel
    by_cases hlt : k < t + 1
    · have hlz : (k : Int) < (t : Int) + 1 := by omega
      have k0 : (0 : Int) ≤ (k : Int) := by omega
      obtain ⟨G2, L2, r1, r2, hO⟩ := HH.out
      have kx : k < A'.length := by rw [HLT.out.1]; exact hlt
      have ky : k < B'.length := by rw [HLT.out.2]; exact hlt
      have hl := HW.out.2
      have ht2 := HNN.out
      obtain ⟨p, ep⟩ : ∃ p, andE L2 (neg (A'.getD k 0)) (B'.getD k 0) = p := ⟨_, rfl⟩
      obtain ⟨q, eq⟩ : ∃ q, orE p.2 (neg (A'.getD k 0)) (B'.getD k 0) = q := ⟨_, rfl⟩
      obtain ⟨r, er⟩ : ∃ r, andE q.2 cc q.1 = r := ⟨_, rfl⟩
      obtain ⟨z, ez⟩ : ∃ z, orE r.2 p.1 r.1 = z := ⟨_, rfl⟩
      obtain ⟨hS, s1, s2, s3, s4⟩ := hO.less (HA'.out _ (get_mem kx)) (HB'.out _ (get_mem ky)) (fun p => ⟨(HP'.out p).1 _ (get_mem kx), (HP'.out p).2 _ (get_mem ky)⟩) ep eq er ez
      have hxb := HA'.out _ (get_mem kx)
      have HN : Hid (∀ w', Calls Try.prog 30 #[.int .i64 (A'.getD k 0 : Int)] w' fun r w'' => r = .returned (.int .i64 (neg (A'.getD k 0) : Int)) ∧ w' = w'') := fun w' => Not_any _ w' (by omega)
      have HK1 : Hid (∀ w' G', Rep w' G' L2 → Fr G1 w2 w' G' → Calls Try.prog 18 #[.pointer (some ⟨G.h, 0, none⟩), .int .i64 (neg (A'.getD k 0) : Int), .int .i64 (B'.getD k 0 : Int)] w' (OpE w' G' p)) := by
        intro w' G' hr hf
        have := And_any hr (neg (A'.getD k 0) : Int) (B'.getD k 0 : Int) (by omega) (by omega) (by omega)
        rwa [own_nat s1.1, own_nat s1.2.1, ep, hf.h, HF1.out.h] at this
      have HK2 : Hid (∀ w' G', Rep w' G' p.2 → Fr G1 w2 w' G' → Calls Try.prog 26 #[.pointer (some ⟨G.h, 0, none⟩), .int .i64 (neg (A'.getD k 0) : Int), .int .i64 (B'.getD k 0 : Int)] w' (OpE w' G' q)) := by
        intro w' G' hr hf
        have := Or_any hr s2.1 (neg (A'.getD k 0) : Int) (B'.getD k 0 : Int) (by omega) (by omega) (by omega)
        rwa [own_nat s2.2.1, own_nat s2.2.2.1, eq, hf.h, HF1.out.h] at this
      have HK3 : Hid (∀ w' G', Rep w' G' q.2 → Fr G1 w2 w' G' → Calls Try.prog 18 #[.pointer (some ⟨G.h, 0, none⟩), .int .i64 (cc : Int), .int .i64 (q.1 : Int)] w' (OpE w' G' r)) := by
        intro w' G' hr hf
        have := And_any hr (cc : Int) (q.1 : Int) (by omega) (by omega) (by omega)
        rwa [own_nat s3.1, own_nat s3.2.1, er, hf.h, HF1.out.h] at this
      have HK4 : Hid (∀ w' G', Rep w' G' r.2 → Fr G1 w2 w' G' → Calls Try.prog 26 #[.pointer (some ⟨G.h, 0, none⟩), .int .i64 (p.1 : Int), .int .i64 (r.1 : Int)] w' (OpE w' G' z)) := by
        intro w' G' hr hf
        have := Or_any hr s4.1 (p.1 : Int) (r.1 : Int) (by omega) (by omega) (by omega)
        rwa [own_nat s4.2.1, own_nat s4.2.2.1, ez, hf.h, HF1.out.h] at this
      have HS : Hid (Out P L (4 * (k + 1)) z.2 [z.1] (fun m => [lessL ((A'.take (k + 1)).map (Gr.val m L)) ((B'.take (k + 1)).map (Gr.val m L)) false])) := by
        refine (hS.more (by omega)).congr fun m => ?_
        rw [take_snoc' kx, take_snoc' ky, List.map_append, List.map_append, List.map_cons, List.map_nil, List.map_cons, List.map_nil, lessL_snoc _ _ _ _ _ (by have := HLT.out; simp; omega)]
      have R1 := Lib.hid (And.intro r1 r2)
      have HCX : Hid (∀ wr' G', Fr G1 w2 wr' G' → wr'.cell? ⟨b2, k, none⟩ = some (.int .i64 (B'.getD k 0 : Int))) := by
        intro wr' G' hf
        obtain ⟨_, _, e, _, _, q2⟩ := (HVX.out.2.fr hf).resolve_left (by omega)
        cases e
        have := q2 k ky
        rwa [Nat.zero_add] at this
      have cx : wr.cell? ⟨b1, k, none⟩ = some (.int .i64 (A'.getD k 0 : Int)) := by
        obtain ⟨_, _, e, _, _, q2⟩ := (HVX.out.1.fr r2).resolve_left (by omega)
        cases e
        have := q2 k kx
        rwa [Nat.zero_add] at this
      clear r1 r2 hO HH hS s1 s2 s3 s4 ep eq er ez hl ht2 kx ky hxb
      generalize neg (A'.getD k 0) = nx at *
      generalize A'.getD k 0 = xk at *
      generalize B'.getD k 0 = yk at *
      go_wp2_with fail
      refine (HN.out _).mono ?_
      rintro e w' ⟨rfl, rfl⟩
      have HR2 : Hid (Rep wr.drew G2 L2 ∧ Fr G1 w2 wr.drew G2) := ⟨R1.out.1.drewN 1, R1.out.2.drewN 1⟩
      clear cx HN
      go_wp2_with fail
      refine wp_region_H (S := fun w' => w'.cell? ⟨b2, k, none⟩ = some (.int .i64 (yk : Int))) 20 (by kernel_rfl) (HCX.out _ _ HR2.out.2) (fun hSx => ?_)
      refine wpAnyH_takeB (i := 0) (v := ?vya_0) rfl (by kernel_rfl) (fun _ _ _ h => h) rfl ?ya_0 hSx ?_
      case ya_0 => (intro w' hSw; (try dsimp only at hSw); go_split_ands; go_simp; try with_reducible rfl)
      try simp only [Act.put, List.getElem_toArray, List.getElem_cons_zero, List.setIfInBounds_toArray, List.set_cons_zero, List.set_cons_succ]
      refine wpAnyH_takeB (i := 1) (v := ?vya_1) rfl (by kernel_rfl) (fun _ _ _ h => h) rfl ?ya_1 hSx ?_
      case ya_1 => (intro w' hSw; (try dsimp only at hSw); go_split_ands; go_simp; try with_reducible rfl)
      try simp only [Act.put, List.getElem_toArray, List.getElem_cons_succ, List.getElem_cons_zero, List.setIfInBounds_toArray, List.set_cons_zero, List.set_cons_succ]
      refine wpAnyH_takeB (i := 2) (v := ?vya_2) rfl (by kernel_rfl) (fun _ _ _ h => h) rfl ?ya_2 hSx ?_
      case ya_2 => (intro w' hSw; (try dsimp only at hSw); go_split_ands; go_simp; try with_reducible rfl)
      try simp only [Act.put, List.getElem_toArray, List.getElem_cons_succ, List.getElem_cons_zero, List.setIfInBounds_toArray, List.set_cons_zero, List.set_cons_succ]
      refine wpAnyH_takeB (i := 3) (v := ?vya_3) rfl (by kernel_rfl) (fun _ _ _ h => h) rfl ?ya_3 hSx ?_
      case ya_3 => (intro w' hSw; (try dsimp only at hSw); go_split_ands; go_simp; try with_reducible rfl)
      try simp only [Act.put, List.getElem_toArray, List.getElem_cons_succ, List.getElem_cons_zero, List.setIfInBounds_toArray, List.set_cons_zero, List.set_cons_succ]
      refine wpAnyH_takeB (i := 4) (v := ?vya_4) rfl (by kernel_rfl) (fun _ _ _ h => h) rfl ?ya_4 hSx ?_
      case ya_4 => (intro w' hSw; (try dsimp only at hSw); go_split_ands; go_simp; try with_reducible rfl)
      try simp only [Act.put, List.getElem_toArray, List.getElem_cons_succ, List.getElem_cons_zero, List.setIfInBounds_toArray, List.set_cons_zero, List.set_cons_succ]
      refine wpAnyH_takeB (i := 5) (v := ?vya_5) rfl (by kernel_rfl) (fun _ _ _ h => h) rfl ?ya_5 hSx ?_
      case ya_5 => (intro w' hSw; (try dsimp only at hSw); go_split_ands; go_simp; try with_reducible rfl)
      try simp only [Act.put, List.getElem_toArray, List.getElem_cons_succ, List.getElem_cons_zero, List.setIfInBounds_toArray, List.set_cons_zero, List.set_cons_succ]
      refine wpAnyH_takeB (i := 6) (v := ?vya_6) rfl (by kernel_rfl) (fun _ _ _ h => h) rfl ?ya_6 hSx ?_
      case ya_6 => (intro w' hSw; (try dsimp only at hSw); go_split_ands; go_simp; try with_reducible rfl)
      try simp only [Act.put, List.getElem_toArray, List.getElem_cons_succ, List.getElem_cons_zero, List.setIfInBounds_toArray, List.set_cons_zero, List.set_cons_succ]
      refine wpAnyH_takeB (i := 8) (v := ?vya_8) rfl (by kernel_rfl) (fun _ _ _ h => h) rfl ?ya_8 hSx ?_
      case ya_8 => (intro w' hSw; (try dsimp only at hSw); go_split_ands; go_simp; try with_reducible rfl)
      try simp only [Act.put, List.getElem_toArray, List.getElem_cons_succ, List.getElem_cons_zero, List.setIfInBounds_toArray, List.set_cons_zero, List.set_cons_succ]
      refine wpAnyH_takeB (i := 9) (v := ?vya_9) rfl (by kernel_rfl) (fun _ _ _ h => h) rfl ?ya_9 hSx ?_
      case ya_9 => (intro w' hSw; (try dsimp only at hSw); go_split_ands; go_simp; try with_reducible rfl)
      try simp only [Act.put, List.getElem_toArray, List.getElem_cons_succ, List.getElem_cons_zero, List.setIfInBounds_toArray, List.set_cons_zero, List.set_cons_succ]
      refine wpAnyH_takeB (i := 10) (v := ?vya_10) rfl (by kernel_rfl) (fun _ _ _ h => h) rfl ?ya_10 hSx ?_
      case ya_10 => (intro w' hSw; (try dsimp only at hSw); go_split_ands; go_simp; try with_reducible rfl)
      try simp only [Act.put, List.getElem_toArray, List.getElem_cons_succ, List.getElem_cons_zero, List.setIfInBounds_toArray, List.set_cons_zero, List.set_cons_succ]
      refine wpAnyH_takeB (i := 11) (v := ?vya_11) rfl (by kernel_rfl) (fun _ _ _ h => h) rfl ?ya_11 hSx ?_
      case ya_11 => (intro w' hSw; (try dsimp only at hSw); go_split_ands; go_simp; try with_reducible rfl)
      try simp only [Act.put, List.getElem_toArray, List.getElem_cons_succ, List.getElem_cons_zero, List.setIfInBounds_toArray, List.set_cons_zero, List.set_cons_succ]
      refine wpAnyH_takeB (i := 12) (v := ?vya_12) rfl (by kernel_rfl) (fun _ _ _ h => h) rfl ?ya_12 hSx ?_
      case ya_12 => (intro w' hSw; (try dsimp only at hSw); go_split_ands; go_simp; try with_reducible rfl)
      try simp only [Act.put, List.getElem_toArray, List.getElem_cons_succ, List.getElem_cons_zero, List.setIfInBounds_toArray, List.set_cons_zero, List.set_cons_succ]
      refine wpAnyH_takeB (i := 13) (v := ?vya_13) rfl (by kernel_rfl) (fun _ _ _ h => h) rfl ?ya_13 hSx ?_
      case ya_13 => (intro w' hSw; (try dsimp only at hSw); go_split_ands; go_simp; try with_reducible rfl)
      try simp only [Act.put, List.getElem_toArray, List.getElem_cons_succ, List.getElem_cons_zero, List.setIfInBounds_toArray, List.set_cons_zero, List.set_cons_succ]
      refine wpAnyH_takeB (i := 14) (v := ?vya_14) rfl (by kernel_rfl) (fun _ _ _ h => h) rfl ?ya_14 hSx ?_
      case ya_14 => (intro w' hSw; (try dsimp only at hSw); go_split_ands; go_simp; try with_reducible rfl)
      try simp only [Act.put, List.getElem_toArray, List.getElem_cons_succ, List.getElem_cons_zero, List.setIfInBounds_toArray, List.set_cons_zero, List.set_cons_succ]
      refine wpAnyH_takeB (i := 15) (v := ?vya_15) rfl (by kernel_rfl) (fun _ _ _ h => h) rfl ?ya_15 hSx ?_
      case ya_15 => (intro w' hSw; (try dsimp only at hSw); go_split_ands; go_simp; try with_reducible rfl)
      try simp only [Act.put, List.getElem_toArray, List.getElem_cons_succ, List.getElem_cons_zero, List.setIfInBounds_toArray, List.set_cons_zero, List.set_cons_succ]
      refine' wpAnyH_one (i := 7) ?taya7 ?tbya7 ?tcya7 ?tdya7
      case tbya7 => rfl
      case taya7 => kernel_rfl
      case tcya7 => rfl
      intro K hK
      go_simp
      refine (HK1.out _ _ HR2.out.1 HR2.out.2).mono ?_
      rintro e w5 ⟨rfl, G5, g1, g2⟩
      have F5 := Lib.hid (And.intro g1 (HR2.out.2.trans g2))
      clear g1 g2
      try dsimp only
      refine hK.out _ _ (HCX.out _ _ F5.out.2) (fun hSx => ?_)
      clear hK K
      try simp only [Act.put, List.getElem_toArray, List.getElem_cons_succ, List.getElem_cons_zero, List.setIfInBounds_toArray, List.set_cons_zero, List.set_cons_succ]
      refine' wpAnyH_one (i := 16) ?taya16 ?tbya16 ?tcya16 ?tdya16
      case tbya16 => rfl
      case taya16 => kernel_rfl
      case tcya16 => rfl
      intro K hK
      go_simp
      refine (HK2.out _ _ F5.out.1 F5.out.2).mono ?_
      rintro e w6 ⟨rfl, G6, g1, g2⟩
      have F6 := Lib.hid (And.intro g1 (F5.out.2.trans g2))
      clear g1 g2
      try dsimp only
      refine hK.out _ _ (HCX.out _ _ F6.out.2) (fun hSx => ?_)
      clear hK K
      try simp only [Act.put, List.getElem_toArray, List.getElem_cons_succ, List.getElem_cons_zero, List.setIfInBounds_toArray, List.set_cons_zero, List.set_cons_succ]
      refine' wpAnyH_one (i := 17) ?taya17 ?tbya17 ?tcya17 ?tdya17
      case tbya17 => rfl
      case taya17 => kernel_rfl
      case tcya17 => rfl
      intro K hK
      go_simp
      refine (HK3.out _ _ F6.out.1 F6.out.2).mono ?_
      rintro e w7 ⟨rfl, G7, g1, g2⟩
      have F7 := Lib.hid (And.intro g1 (F6.out.2.trans g2))
      clear g1 g2
      try dsimp only
      refine hK.out _ _ (HCX.out _ _ F7.out.2) (fun hSx => ?_)
      clear hK K
      try simp only [Act.put, List.getElem_toArray, List.getElem_cons_succ, List.getElem_cons_zero, List.setIfInBounds_toArray, List.set_cons_zero, List.set_cons_succ]
      refine' wpAnyH_one (i := 18) ?taya18 ?tbya18 ?tcya18 ?tdya18
      case tbya18 => rfl
      case taya18 => kernel_rfl
      case tcya18 => rfl
      intro K hK
      go_simp
      refine (HK4.out _ _ F7.out.1 F7.out.2).mono ?_
      rintro e w8 ⟨rfl, G8, g1, g2⟩
      have HFIN : Hid (LessI w2 w8 G1 P L z.1 (4 * (k + 1)) (fun m => lessL ((A'.take (k + 1)).map (Gr.val m L)) ((B'.take (k + 1)).map (Gr.val m L)) false)) := ⟨G8, z.2, g1, F7.out.2.trans g2, HS.out⟩
      have HS8 := Lib.hid (HCX.out _ _ (F7.out.2.trans g2))
      clear g1 g2
      try dsimp only
      refine hK.out _ _ (HS8.out) (fun hSx => ?_)
      clear hK K
      try simp only [Act.put, List.getElem_toArray, List.getElem_cons_succ, List.getElem_cons_zero, List.setIfInBounds_toArray, List.set_cons_zero, List.set_cons_succ]
      refine wpAnyH_takeB (i := 19) (v := ?vya_19) rfl (by kernel_rfl) (fun _ _ _ h => h) rfl ?ya_19 hSx ?_
      case ya_19 => (intro w' hSw; (try dsimp only at hSw); go_split_ands; go_simp; try with_reducible rfl)
      try simp only [Act.put, List.getElem_toArray, List.getElem_cons_succ, List.getElem_cons_zero, List.setIfInBounds_toArray, List.set_cons_zero, List.set_cons_succ]
      refine wpAnyH_done (by kernel_rfl) ?_ _
      go_wp2_with fail
      go_roundw
      case rel => exact ⟨k + 1, z.1, rfl, by go_num, by omega, HFIN⟩
      case measure => simp [RowKit.intOf]; omega
    · obtain rfl : k = t + 1 := by omega
      have hlz : ¬ ((t : Int) + 1) < (t : Int) + 1 := by omega
      obtain ⟨G2, L2, r1, r2, hO⟩ := HH.out
      have HF : Hid (EdgE w G P L 64 (fun m => lessS (A.map (Gr.val m L)) (B.map (Gr.val m L))) (.returned (.int .i64 (cc : Int))) wr) := ⟨G2, L2, cc, rfl, r1, HF1.out.trans r2, (hO.more (by have := HNN.out; omega)).congr fun m => by rw [List.take_of_length_le (by rw [HLT.out.1]; exact Nat.le_refl _), List.take_of_length_le (by rw [HLT.out.2]; exact Nat.le_refl _)]; simp only [HLS.out m]⟩
      clear r1 r2 hO HH
      go_wp2_with fail
      go_ret
      exact HF.out
end Go.Proofs.Ytnkcdgpaphphaaa.Gr
