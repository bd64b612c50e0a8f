/- Answers that are several edges: what they are worth, and that of constants nothing is laid. No program. -/
import Derived.Test.YtnkcdgpaphphaaaBtPlain
namespace Go.Proofs.Ytnkcdgpaphphaaa.Gr
open Go

/-! ### Of constants constants -/
theorem andE_con {L : List Nd} {x y : Nat} (hx : x ≤ 1) (hy : y ≤ 1) : (andE L x y).2 = L ∧ (andE L x y).1 ≤ 1 := by
  unfold andE andP
  split
  · exact ⟨rfl, by simp⟩
  · rw [if_pos (by omega)]; exact ⟨rfl, by show max x y ≤ 1; omega⟩
theorem neg_con {x : Nat} (hx : x ≤ 1) : neg x ≤ 1 := by unfold neg; split <;> omega
theorem orE_con {L : List Nd} {x y : Nat} (hx : x ≤ 1) (hy : y ≤ 1) : (orE L x y).2 = L ∧ (orE L x y).1 ≤ 1 := by
  have := andE_con (L := L) (neg_con hx) (neg_con hy)
  exact ⟨this.1, neg_con this.2⟩
theorem xorE_con {L : List Nd} {x y : Nat} (hx : x ≤ 1) (hy : y ≤ 1) : (xorE L x y).2 = L ∧ (xorE L x y).1 ≤ 1 := by
  have h1 := orE_con (L := L) hx hy
  have h2 := andE_con (L := (orE L x y).2) hx hy
  have h3 := andE_con (L := (andE (orE L x y).2 x y).2) h1.2 (neg_con h2.2)
  exact ⟨h3.1.trans (h2.1.trans h1.1), h3.2⟩
theorem muxE_con {L : List Nd} {c x y : Nat} (hc : c ≤ 1) (hx : x ≤ 1) (hy : y ≤ 1) : (muxE L c x y).2 = L ∧ (muxE L c x y).1 ≤ 1 := by
  unfold muxE
  split
  · exact ⟨rfl, hx⟩
  · have h1 := andE_con (L := L) hc hx
    have h2 := andE_con (L := (andE L c x).2) (neg_con hc) hy
    have h3 := orE_con (L := (andE (andE L c x).2 (neg c) y).2) h1.2 h2.2
    exact ⟨h3.1.trans (h2.1.trans h1.1), h3.2⟩
theorem anyE_con {L : List Nd} {es : List Nat} (h : ∀ e ∈ es, e ≤ 1) : (anyE L es).2 = L ∧ (anyE L es).1 ≤ 1 := by
  suffices q : ∀ (es : List Nat) (r : Nat × List Nd), (∀ e ∈ es, e ≤ 1) → r.1 ≤ 1 → (foldE orE r es).2 = r.2 ∧ (foldE orE r es).1 ≤ 1 from q es (0, L) h (by simp)
  intro es
  induction es with
  | nil => intro r _ hr; exact ⟨rfl, hr⟩
  | cons x es ih =>
    intro r h hr
    have h1 := orE_con (L := r.2) hr (h x (by simp))
    have h2 := ih (orE r.2 r.1 x) (fun e m => h e (by simp [m])) h1.2
    exact ⟨h2.1.trans h1.1, h2.2⟩
/-- An edge of the graph and true: itself. -/
theorem andE_one {L : List Nd} {e : Nat} : andE L e 1 = (e, L) := by
  unfold andE andP
  by_cases h0 : e = 0
  · subst h0; rfl
  · by_cases h1 : e = 1
    · subst h1; rfl
    · have hm : min e 1 = 1 := by omega
      have hx : max e 1 = e := by omega
      rw [hm, hx, if_neg (by unfold neg; split <;> omega), if_pos (Or.inl rfl)]

/-- An answer of one edge; of constants (that is P) a constant. -/
structure Ac (P : Prop) (L : List Nd) (k : Nat) (r : Nat × List Nd) (f : (Nat → Bool) → Bool) : Prop where
  ans : Ans L k r f
  con : P → r.2 = L ∧ r.1 ≤ 1
theorem Ac.congr {P : Prop} {L : List Nd} {k : Nat} {r : Nat × List Nd} {f g : (Nat → Bool) → Bool} (h : Ac P L k r f) (e : ∀ m, f m = g m) : Ac P L k r g := ⟨h.ans.congr e, h.con⟩
theorem Ac.neg {P : Prop} {L : List Nd} {k : Nat} {r : Nat × List Nd} {f : (Nat → Bool) → Bool} (h : Ac P L k r f) : Ac P L k (neg r.1, r.2) (fun m => !f m) := ⟨h.ans.neg, fun p => ⟨(h.con p).1, neg_con (h.con p).2⟩⟩

/-- Edges of a graph that holds the first one, what they are worth; of constants (that is P) constants, and nothing laid. -/
structure Out (P : Prop) (L : List Nd) (k : Nat) (L' : List Nd) (es : List Nat) (f : (Nat → Bool) → List Bool) : Prop where
  wf : Wf L'
  ext : ∃ X, L' = L ++ X ∧ X.length ≤ k
  own : ∀ e ∈ es, e < 2 * (L'.length + 1)
  val : ∀ m, es.map (val m L') = f m
  con : P → L' = L ∧ ∀ e ∈ es, e ≤ 1

theorem Out.nil {P : Prop} {L : List Nd} (h : Wf L) : Out P L 0 L [] (fun _ => []) := ⟨h, ⟨[], by simp, by simp⟩, by simp, fun _ => rfl, fun _ => ⟨rfl, by simp⟩⟩
theorem Out.same {P : Prop} {L : List Nd} (h : Wf L) {es : List Nat} (he : ∀ e ∈ es, e < 2 * (L.length + 1)) (hP : P → ∀ e ∈ es, e ≤ 1) : Out P L 0 L es (fun m => es.map (Gr.val m L)) :=
  ⟨h, ⟨[], by simp, by simp⟩, he, fun _ => rfl, fun p => ⟨rfl, hP p⟩⟩
theorem Out.le {P : Prop} {L L' : List Nd} {k : Nat} {es : List Nat} {f : (Nat → Bool) → List Bool} (h : Out P L k L' es f) : L.length ≤ L'.length := by
  obtain ⟨X, e, _⟩ := h.ext; rw [e, List.length_append]; omega
theorem Out.lenle {P : Prop} {L L' : List Nd} {k : Nat} {es : List Nat} {f : (Nat → Bool) → List Bool} (h : Out P L k L' es f) : L'.length ≤ L.length + k := by
  obtain ⟨X, e, hX⟩ := h.ext; rw [e, List.length_append]; omega
theorem Out.old {P : Prop} {L L' : List Nd} {k : Nat} {es : List Nat} {f : (Nat → Bool) → List Bool} (h : Out P L k L' es f) {e : Nat} (he : e < 2 * (L.length + 1)) (m : Nat → Bool) : Gr.val m L' e = Gr.val m L e := by
  obtain ⟨X, q, _⟩ := h.ext; rw [q, val_app m he]
theorem Out.olds {P : Prop} {L L' : List Nd} {k : Nat} {es : List Nat} {f : (Nat → Bool) → List Bool} (h : Out P L k L' es f) {xs : List Nat} (he : ∀ e ∈ xs, e < 2 * (L.length + 1)) (m : Nat → Bool) : xs.map (Gr.val m L') = xs.map (Gr.val m L) :=
  List.map_congr_left fun e hm => h.old (he e hm) m
theorem Out.lt {P : Prop} {L L' : List Nd} {k : Nat} {es : List Nat} {f : (Nat → Bool) → List Bool} (h : Out P L k L' es f) {e : Nat} (he : e < 2 * (L.length + 1)) : e < 2 * (L'.length + 1) := by have := h.le; omega
theorem Out.lts {P : Prop} {L L' : List Nd} {k : Nat} {es : List Nat} {f : (Nat → Bool) → List Bool} (h : Out P L k L' es f) {xs : List Nat} (he : ∀ e ∈ xs, e < 2 * (L.length + 1)) : ∀ e ∈ xs, e < 2 * (L'.length + 1) := fun e hm => h.lt (he e hm)
theorem Out.len {P : Prop} {L L' : List Nd} {k : Nat} {es : List Nat} {f : (Nat → Bool) → List Bool} (h : Out P L k L' es f) (m : Nat → Bool) : (f m).length = es.length := by rw [← h.val m, List.length_map]
theorem Out.congr {P : Prop} {L L' : List Nd} {k : Nat} {es : List Nat} {f g : (Nat → Bool) → List Bool} (h : Out P L k L' es f) (e : ∀ m, f m = g m) : Out P L k L' es g := ⟨h.wf, h.ext, h.own, fun m => (h.val m).trans (e m), h.con⟩
theorem Out.more {P : Prop} {L L' : List Nd} {k k' : Nat} {es : List Nat} {f : (Nat → Bool) → List Bool} (h : Out P L k L' es f) (e : k ≤ k') : Out P L k' L' es f :=
  ⟨h.wf, by obtain ⟨X, e1, e2⟩ := h.ext; exact ⟨X, e1, by omega⟩, h.own, h.val, h.con⟩
theorem Out.iff {P P' : Prop} {L L' : List Nd} {k : Nat} {es : List Nat} {f : (Nat → Bool) → List Bool} (h : Out P L k L' es f) (e : P' → P) : Out P' L k L' es f := ⟨h.wf, h.ext, h.own, h.val, fun p => h.con (e p)⟩
/-- One call behind another. -/
theorem Out.then {P Q : Prop} {L L1 L2 : List Nd} {k j : Nat} {es fs : List Nat} {f g : (Nat → Bool) → List Bool} (h : Out P L k L1 es f) (q : Out Q L1 j L2 fs g) (hPQ : P → Q) : Out P L (k + j) L2 fs g := by
  obtain ⟨X, e, hX⟩ := h.ext
  obtain ⟨Y, e', hY⟩ := q.ext
  exact ⟨q.wf, ⟨X ++ Y, by rw [e', e, List.append_assoc], by rw [List.length_append]; omega⟩, q.own, q.val, fun p => ⟨(q.con (hPQ p)).1.trans (h.con p).1, (q.con (hPQ p)).2⟩⟩
/-- One call behind another, the first one's answers kept. -/
theorem Out.both {P Q : Prop} {L L1 L2 : List Nd} {k j : Nat} {es fs : List Nat} {f g : (Nat → Bool) → List Bool} (h : Out P L k L1 es f) (q : Out Q L1 j L2 fs g) (hPQ : P → Q) : Out P L (k + j) L2 (es ++ fs) (fun m => f m ++ g m) := by
  have t := h.then q hPQ
  refine ⟨t.wf, t.ext, fun e he => ?_, fun m => ?_, fun p => ⟨(t.con p).1, fun e he => ?_⟩⟩
  · rcases List.mem_append.1 he with he | he
    · exact q.lt (h.own e he)
    · exact q.own e he
  · rw [List.map_append, q.val m, q.olds h.own m, h.val m]
  · rcases List.mem_append.1 he with he | he
    · exact (h.con p).2 e he
    · exact (t.con p).2 e he
theorem Ac.out {P : Prop} {L : List Nd} {k : Nat} {r : Nat × List Nd} {f : (Nat → Bool) → Bool} (h : Ac P L k r f) : Out P L k r.2 [r.1] (fun m => [f m]) :=
  ⟨h.ans.wf, h.ans.ext, fun e he => by simp at he; subst he; exact h.ans.own, fun m => by simp [h.ans.val m], fun p => ⟨(h.con p).1, fun e he => by simp at he; subst he; exact (h.con p).2⟩⟩
/-- Some of the answers. -/
theorem Out.part {P : Prop} {L L' : List Nd} {k : Nat} {es fs : List Nat} {f g : (Nat → Bool) → List Bool} (h : Out P L k L' es f) (hs : ∀ e ∈ fs, e ∈ es) (hv : ∀ m, fs.map (Gr.val m L') = g m) : Out P L k L' fs g :=
  ⟨h.wf, h.ext, fun e he => h.own e (hs e he), hv, fun p => ⟨(h.con p).1, fun e he => (h.con p).2 e (hs e he)⟩⟩
theorem Out.left {P : Prop} {L L' : List Nd} {k : Nat} {es fs : List Nat} {f g : (Nat → Bool) → List Bool} (h : Out P L k L' (es ++ fs) (fun m => f m ++ g m)) (hl : ∀ m, (g m).length = fs.length) : Out P L k L' es f :=
  h.part (fun e he => List.mem_append_left _ he) fun m => by
    have := h.val m
    rw [List.map_append] at this
    exact (List.append_inj' this (by rw [List.length_map, hl m])).1
theorem Out.right {P : Prop} {L L' : List Nd} {k : Nat} {es fs : List Nat} {f g : (Nat → Bool) → List Bool} (h : Out P L k L' (es ++ fs) (fun m => f m ++ g m)) (hl : ∀ m, (g m).length = fs.length) : Out P L k L' fs g :=
  h.part (fun e he => List.mem_append_right _ he) fun m => by
    have := h.val m
    rw [List.map_append] at this
    exact (List.append_inj' this (by rw [List.length_map, hl m])).2

theorem and_ac {P : Prop} {L : List Nd} (hW : Wf L) {x y : Nat} (hx : x < 2 * (L.length + 1)) (hy : y < 2 * (L.length + 1)) (hP : P → x ≤ 1 ∧ y ≤ 1) : Ac P L 1 (andE L x y) (fun m => Gr.val m L x && Gr.val m L y) := ⟨andE_ans hW hx hy, fun p => andE_con (hP p).1 (hP p).2⟩
theorem or_ac {P : Prop} {L : List Nd} (hW : Wf L) {x y : Nat} (hx : x < 2 * (L.length + 1)) (hy : y < 2 * (L.length + 1)) (hP : P → x ≤ 1 ∧ y ≤ 1) : Ac P L 1 (orE L x y) (fun m => Gr.val m L x || Gr.val m L y) := ⟨orE_ans hW hx hy, fun p => orE_con (hP p).1 (hP p).2⟩
theorem xor_ac {P : Prop} {L : List Nd} (hW : Wf L) {x y : Nat} (hx : x < 2 * (L.length + 1)) (hy : y < 2 * (L.length + 1)) (hP : P → x ≤ 1 ∧ y ≤ 1) : Ac P L 3 (xorE L x y) (fun m => Gr.val m L x != Gr.val m L y) := ⟨xorE_ans hW hx hy, fun p => xorE_con (hP p).1 (hP p).2⟩
theorem mux_ac {P : Prop} {L : List Nd} (hW : Wf L) {c x y : Nat} (hc : c < 2 * (L.length + 1)) (hx : x < 2 * (L.length + 1)) (hy : y < 2 * (L.length + 1)) (hP : P → c ≤ 1 ∧ x ≤ 1 ∧ y ≤ 1) : Ac P L 3 (muxE L c x y) (fun m => if Gr.val m L c then Gr.val m L x else Gr.val m L y) := ⟨muxE_ans hW hc hx hy, fun p => muxE_con (hP p).1 (hP p).2.1 (hP p).2.2⟩
theorem any_ac {P : Prop} {L : List Nd} (hW : Wf L) {es : List Nat} (he : ∀ e ∈ es, e < 2 * (L.length + 1)) (hP : P → ∀ e ∈ es, e ≤ 1) : Ac P L es.length (anyE L es) (fun m => es.any (Gr.val m L)) := ⟨anyE_ans hW es he, fun p => anyE_con (hP p)⟩

/-- One bit of a sum: the bits so far and what is carried. -/
theorem Out.sum {P : Prop} {L L1 : List Nd} {k a b c : Nat} {es : List Nat} {f : (Nat → Bool) → List Bool} {g : (Nat → Bool) → Bool} {o r x y z : Nat × List Nd} (h : Out P L k L1 (es ++ [c]) (fun m => f m ++ [g m])) (ha : a < 2 * (L.length + 1)) (hb : b < 2 * (L.length + 1)) (hP : P → a ≤ 1 ∧ b ≤ 1)
    (eo : xorE L1 a b = o) (er : xorE o.2 o.1 c = r) (ex : andE r.2 a b = x) (ey : andE x.2 o.1 c = y) (ez : orE y.2 x.1 y.1 = z) :
    Out P L (k + 9) z.2 ((es ++ [r.1]) ++ [z.1]) (fun m => (f m ++ [(Gr.val m L a != Gr.val m L b) != g m]) ++ [(Gr.val m L a && Gr.val m L b) || ((Gr.val m L a != Gr.val m L b) && g m)])
    ∧ (Wf L1 ∧ a < 2 * (L1.length + 1) ∧ b < 2 * (L1.length + 1) ∧ L1.length ≤ L.length + k) ∧ (Wf o.2 ∧ o.1 < 2 * (o.2.length + 1) ∧ c < 2 * (o.2.length + 1) ∧ o.2.length ≤ L.length + k + 3) ∧ (a < 2 * (r.2.length + 1) ∧ b < 2 * (r.2.length + 1) ∧ r.2.length ≤ L.length + k + 6) ∧ (o.1 < 2 * (x.2.length + 1) ∧ c < 2 * (x.2.length + 1) ∧ x.2.length ≤ L.length + k + 7) ∧ (Wf y.2 ∧ x.1 < 2 * (y.2.length + 1) ∧ y.1 < 2 * (y.2.length + 1) ∧ y.2.length ≤ L.length + k + 8) := by
  have hc : c < 2 * (L1.length + 1) := h.own c (by simp)
  have hcv : ∀ m, Gr.val m L1 c = g m := fun m => by
    have := (h.right (fs := [c]) (g := fun m => [g m]) (fun _ => rfl)).val m
    simpa using this
  have hcP : P → c ≤ 1 := fun p => (h.con p).2 c (by simp)
  have ha1 := h.lt ha
  have hb1 := h.lt hb
  have hl := h.lenle
  have q1 := xor_ac h.wf ha1 hb1 hP
  rw [eo] at q1
  have o1 := q1.out
  have l1 := o1.lenle
  have ho := q1.ans.own
  have q2 := xor_ac (P := P) q1.ans.wf ho (o1.lt hc) (fun p => ⟨(q1.con p).2, hcP p⟩)
  rw [er] at q2
  have o2 := q2.out
  have l2 := o2.lenle
  have q3 := and_ac (P := P) q2.ans.wf (o2.lt (o1.lt ha1)) (o2.lt (o1.lt hb1)) hP
  rw [ex] at q3
  have o3 := q3.out
  have l3 := o3.lenle
  have q4 := and_ac (P := P) q3.ans.wf (o3.lt (o2.lt ho)) (o3.lt (o2.lt (o1.lt hc))) (fun p => ⟨(q1.con p).2, hcP p⟩)
  rw [ey] at q4
  have o4 := q4.out
  have l4 := o4.lenle
  have q5 := or_ac (P := P) q4.ans.wf (o4.lt q3.ans.own) q4.ans.own (fun p => ⟨(q3.con p).2, (q4.con p).2⟩)
  rw [ez] at q5
  have o5 := q5.out
  have B := ((h.left (fs := [c]) (g := fun m => [g m]) (fun _ => rfl)).both ((o1.then o2 id).both ((o3.then o4 id).then o5 id) id) id).more (show k + (3 + 3 + (1 + 1 + 1)) ≤ k + 9 by omega)
  refine ⟨?_, ⟨h.wf, ha1, hb1, hl⟩, ⟨q1.ans.wf, ho, o1.lt hc, by omega⟩, ⟨o2.lt (o1.lt ha1), o2.lt (o1.lt hb1), by omega⟩, ⟨o3.lt (o2.lt ho), o3.lt (o2.lt (o1.lt hc)), by omega⟩, ⟨q4.ans.wf, o4.lt q3.ans.own, q4.ans.own, by omega⟩⟩
  rw [List.append_assoc]
  refine B.congr fun m => ?_
  rw [List.append_assoc]
  congr 1
  simp only [List.cons_append, List.nil_append]
  rw [q1.ans.val, o1.old hc, hcv, o4.old q3.ans.own, q3.ans.val, q4.ans.val, o2.old (o1.lt ha1), o2.old (o1.lt hb1), o1.old ha1, o1.old hb1, h.old ha, h.old hb, o3.old (o2.lt ho), o2.old ho, q1.ans.val, h.old ha, h.old hb, o3.old (o2.lt (o1.lt hc)), o2.old (o1.lt hc), o1.old hc, hcv]
end Go.Proofs.Ytnkcdgpaphphaaa.Gr
