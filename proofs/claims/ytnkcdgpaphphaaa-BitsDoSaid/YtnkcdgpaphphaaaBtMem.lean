/- Lists of edges in memory beside a graph: what came in (Vec), what a call answers (Own), a row under way (Fil). -/
import Derived.Test.YtnkcdgpaphphaaaBtEdge
import Derived.Test.YtnkcdgpaphphaaaGrG
namespace Go.Proofs.Ytnkcdgpaphphaaa.Gr
open Go Go.RowKit Go.Lib Go.Maps

def encE (e : Nat) : Value := .int .i64 (e : Int)

theorem cell_of_heap {w w' : World} {b : Nat} (h : w'.heap[b]? = w.heap[b]?) (o : Nat) : w'.cell? ⟨b, o, none⟩ = w.cell? ⟨b, o, none⟩ := by
  simp only [World.cell?, h]
theorem free_of_heap {w w' : World} {b : Nat} (h : w'.heap[b]? = w.heap[b]?) (o : Nat) : w'.frozen? ⟨b, o, none⟩ = w.frozen? ⟨b, o, none⟩ := by
  simp only [World.frozen?, h]

/-- A list of edges that lies where the graph doesn't write. -/
def Vec (w : World) (G : Loc) (a : Option Addr) (es : List Nat) : Prop :=
  es.length = 0 ∨ ∃ b off, a = some ⟨b, off, none⟩ ∧ b < w.heap.size ∧ ¬ G.has b ∧ ∀ j, j < es.length → w.cell? ⟨b, off + j, none⟩ = some (.int .i64 (es.getD j 0 : Int))
theorem Vec.fr {w w' : World} {G G' : Loc} {a : Option Addr} {es : List Nat} (h : Vec w G a es) (f : Fr G w w' G') : Vec w' G' a es := by
  rcases h with h | ⟨b, off, rfl, h1, h2, h3⟩
  · exact Or.inl h
  · refine Or.inr ⟨b, off, rfl, Nat.lt_of_lt_of_le h1 f.size, fun q => ?_, fun j hj => (cell_of_heap (f.block b h1 h2) _).trans (h3 j hj)⟩
    rcases f.own b q with q | q
    · exact h2 q
    · omega
theorem Vec.below {w w' : World} {G : Loc} {a : Option Addr} {es : List Nat} (h : Vec w G a es) (f : Below w.heap.size w w') : Vec w' G a es := h.fr (Fr.ofBelow f)
theorem Vec.arg {w : World} {G : Loc} {a : Option Addr} {es : List Nat} (h : Vec w G a es) : ArgI w a es.length (fun j => (es.getD j 0 : Int)) := by
  rcases h with h | ⟨b, off, rfl, h1, _, h3⟩
  · exact Or.inl h
  · exact Or.inr ⟨b, off, rfl, h1, h3⟩
theorem Vec.take {w : World} {G : Loc} {a : Option Addr} {es : List Nat} (h : Vec w G a es) (k : Nat) : Vec w G a (es.take k) := by
  rcases h with h | ⟨b, off, rfl, h1, h2, h3⟩
  · exact Or.inl (by rw [List.length_take]; omega)
  · refine Or.inr ⟨b, off, rfl, h1, h2, fun j hj => ?_⟩
    rw [List.length_take] at hj
    rw [h3 j (by omega), List.getD_eq_getElem?_getD, List.getD_eq_getElem?_getD, List.getElem?_take, if_pos (by omega)]
theorem Vec.drop {w : World} {G : Loc} {b off : Nat} {es : List Nat} (h : Vec w G (some ⟨b, off, none⟩) es) (k : Nat) : Vec w G (some ⟨b, off + k, none⟩) (es.drop k) := by
  rcases h with h | ⟨b', off', e, h1, h2, h3⟩
  · exact Or.inl (by rw [List.length_drop]; omega)
  · cases e
    refine Or.inr ⟨b, off + k, rfl, h1, h2, fun j hj => ?_⟩
    rw [List.length_drop] at hj
    rw [Nat.add_assoc, h3 (k + j) (by omega), List.getD_eq_getElem?_getD, List.getD_eq_getElem?_getD, List.getElem?_drop]

/-- A list of edges that a call made. -/
def Own (W w : World) (G : Loc) (v : Value) (es : List Nat) : Prop := w.ownsRow W.heap.size 3 1 v es.length (es.map encE) ∧ ∀ k, v.ownBlock = some k → ¬ G.has k
theorem Own.fr {W w w' : World} {G G' : Loc} {v : Value} {es : List Nat} (h : Own W w G v es) (f : Fr G w w' G') : Own W w' G' v es := by
  refine ⟨owns_of_heap h.1 fun g hg => f.block g (h.1.lt g hg).2 (h.2 g hg), fun k hk q => ?_⟩
  rcases f.own k q with q | q
  · exact h.2 k hk q
  · have := (h.1.lt k hk).2; omega
theorem Own.below {W w w' : World} {G : Loc} {v : Value} {es : List Nat} (h : Own W w G v es) (f : Below w.heap.size w w') : Own W w' G v es := h.fr (Fr.ofBelow f)
theorem Own.base {W W' w : World} {G : Loc} {v : Value} {es : List Nat} (h : Own W w G v es) (hb : W'.heap.size ≤ W.heap.size) : Own W' w G v es := by
  obtain ⟨⟨h1, h2⟩, h3⟩ := h
  refine ⟨⟨h1, ?_⟩, h3⟩
  rcases h2 with h2 | ⟨g, cap, cur, e, q1, q2⟩
  · exact Or.inl h2
  · exact Or.inr ⟨g, cap, cur, e, Nat.le_trans hb q1, q2⟩
/-- Its slice written out. -/
theorem Own.form {W w : World} {G : Loc} {v : Value} {es : List Nat} (h : Own W w G v es) (hn : 0 < es.length) : ∃ b c, v = .slice (some ⟨b, 0, none⟩) es.length c ∧ es.length ≤ c ∧ c ≤ maxLen ∧ W.heap.size ≤ b ∧ b < w.heap.size ∧ ¬ G.has b ∧ Vec w G (some ⟨b, 0, none⟩) es ∧ ∃ f, RowAt w b 3 c f ∧ ∀ i, i < es.length → f i = .int .i64 (es.getD i 0 : Int) := by
  obtain ⟨b, c, e, h1, h2⟩ := h.1.form hn
  have ho := h.1
  rw [e] at ho
  have hG : ¬ G.has b := h.2 b (by rw [e]; rfl)
  have hv : ∀ j, j < es.length → (es.map encE)[j]? = some (.int .i64 (es.getD j 0 : Int)) := fun j hj => by
    rw [List.getElem?_map, List.getElem?_eq_getElem hj]
    simp [encE, hj]
  obtain ⟨a', c', e', q1, q2, _⟩ := own_form ho
  simp only [Value.slice.injEq] at e'
  obtain ⟨_, _, rfl⟩ := e'
  refine ⟨b, c, e, q1, q2, h1, h2, hG, Or.inr ⟨b, 0, rfl, h2, hG, fun j hj => ?_⟩, ?_⟩
  · rw [Nat.zero_add]; exact own_cell ho (hv j hj)
  · rcases ho.2 with ⟨q, _⟩ | ⟨g, cap, cur, q, _, q3, _, _, q4, q5⟩
    · cases q
    · simp only [Value.slice.injEq, Option.some.injEq, Addr.mk.injEq, and_true, true_and] at q
      obtain ⟨rfl, rfl⟩ := q
      refine ⟨fun i => cur[i]?.getD (.int .i64 0), ⟨cur, q3, by omega, fun i hi => ?_⟩, fun i hi => ?_⟩
      · show cur[i]? = some (cur[i]?.getD (.int .i64 0))
        rw [Array.getElem?_eq_getElem (by omega)]; rfl
      · have hj := hv i hi
        rw [← q5, List.getElem?_take, if_pos (by omega)] at hj
        show cur[i]?.getD (.int .i64 0) = _
        rw [show cur[i]? = some (.int .i64 (es.getD i 0 : Int)) by simpa using hj]
        rfl

/-- A row under way: the first ones are es, behind them it is as ys. -/
structure Fil (w0 wr : World) (G0 G : Loc) (L : List Nd) (b c : Nat) (es ys : List Nat) : Prop where
  rep : Rep wr G L
  fr : Fr G0 w0 wr G
  row : ∃ f, RowAt wr b 3 c f ∧ ∀ i, i < ys.length → f i = .int .i64 ((es ++ ys.drop es.length).getD i 0 : Int)
  new : w0.heap.size ≤ b
  out : ¬ G.has b
  len : ys.length ≤ c
theorem Fil.lt {w0 wr : World} {G0 G : Loc} {L : List Nd} {b c : Nat} {es ys : List Nat} (h : Fil w0 wr G0 G L b c es ys) : b < wr.heap.size := by obtain ⟨f, h1, _⟩ := h.row; exact h1.lt
theorem Fil.free {w0 wr : World} {G0 G : Loc} {L : List Nd} {b c : Nat} {es ys : List Nat} (h : Fil w0 wr G0 G L b c es ys) (i : Nat) : wr.frozen? ⟨b, i, none⟩ = false := by obtain ⟨f, h1, _⟩ := h.row; exact h1.free i
theorem Fil.get {w0 wr : World} {G0 G : Loc} {L : List Nd} {b c : Nat} {es ys : List Nat} (h : Fil w0 wr G0 G L b c es ys) {i : Nat} (hi : i < ys.length) : wr.cell? ⟨b, i, none⟩ = some (.int .i64 ((es ++ ys.drop es.length).getD i 0 : Int)) := by
  obtain ⟨f, h1, h2⟩ := h.row
  rw [← h2 i hi]; exact h1.cell (by have := h.len; omega)
/-- What stands where nothing has been put yet. -/
theorem Fil.next {w0 wr : World} {G0 G : Loc} {L : List Nd} {b c : Nat} {es ys : List Nat} (h : Fil w0 wr G0 G L b c es ys) {i : Nat} (hi : i < ys.length) (hes : es.length ≤ i) : wr.cell? ⟨b, i, none⟩ = some (.int .i64 (ys.getD i 0 : Int)) := by
  rw [h.get hi]
  congr 3
  rw [List.getD_eq_getElem?_getD, List.getElem?_append_right hes, List.getElem?_drop, List.getD_eq_getElem?_getD, show es.length + (i - es.length) = i by omega]
theorem Fil.op {w0 wr w' : World} {G0 G G' : Loc} {L L' : List Nd} {b c : Nat} {es ys : List Nat} (h : Fil w0 wr G0 G L b c es ys) (hr : Rep w' G' L') (hf : Fr G wr w' G') : Fil w0 w' G0 G' L' b c es ys := by
  obtain ⟨f, h1, h2⟩ := h.row
  refine ⟨hr, h.fr.trans hf, ⟨f, h1.of_heap (hf.block b h1.lt h.out), h2⟩, h.new, fun q => ?_, h.len⟩
  rcases hf.own b q with q | q
  · exact h.out q
  · have := h1.lt; omega
theorem Fil.below {w0 wr w' : World} {G0 G : Loc} {L : List Nd} {b c : Nat} {es ys : List Nat} (h : Fil w0 wr G0 G L b c es ys) (hb : Below wr.heap.size wr w') : Fil w0 w' G0 G L b c es ys := h.op (h.rep.below hb (Nat.le_refl _)) (Fr.ofBelow hb)
theorem Fil.drew {w0 wr : World} {G0 G : Loc} {L : List Nd} {b c : Nat} {es ys : List Nat} (h : Fil w0 wr G0 G L b c es ys) : Fil w0 wr.drew G0 G L b c es ys := h.op (h.rep.drewN 1) ((Fr.refl G wr).drewN 1)
theorem Fil.put {w0 wr : World} {G0 G : Loc} {L : List Nd} {b c : Nat} {es ys : List Nat} (h : Fil w0 wr G0 G L b c es ys) {k : Nat} (hk : es.length = k) (hky : k < ys.length) (e : Nat) : Fil w0 (wr.setCell ⟨b, k, none⟩ (.int .i64 (e : Int))) G0 G L b c (es ++ [e]) ys := by
  obtain ⟨f, h1, h2⟩ := h.row
  have hG : ∀ x, G.has x → x ≠ b := fun x hx q => h.out (q ▸ hx)
  refine ⟨h.rep.of_heap fun x hx => Below.heap_setCell _ _ _ _ (hG x hx), ?_, ⟨_, h1.set k _, fun i hi => ?_⟩, h.new, h.out, h.len⟩
  · exact ⟨h.fr.h, h.fr.os, h.fr.tape, h.fr.output, by simpa [World.setCell] using h.fr.size, fun x hx hn => (Below.heap_setCell _ _ _ _ (by have := h.new; show x ≠ b; omega)).trans (h.fr.block x hx hn), h.fr.own⟩
  · by_cases q : i = k
    · subst q
      rw [upd_same, List.getD_eq_getElem?_getD, List.append_assoc, List.getElem?_append_right (by omega), hk, Nat.sub_self]
      rfl
    · rw [upd_ne _ _ _ q, h2 i hi]
      congr 2
      rw [List.getD_eq_getElem?_getD, List.getD_eq_getElem?_getD]
      by_cases r : i < k
      · rw [List.getElem?_append_left (by omega), List.append_assoc, List.getElem?_append_left (by omega)]
      · rw [List.getElem?_append_right (by omega), List.getElem?_append_right (by simp; omega), List.getElem?_drop, List.getElem?_drop]
        simp only [List.length_append, List.length_cons, List.length_nil]
        rw [show es.length + (i - es.length) = es.length + (0 + 1) + (i - (es.length + (0 + 1))) by omega]
/-- All are put: what the call answers. -/
theorem Fil.done {w0 wr : World} {G0 G : Loc} {L : List Nd} {b c : Nat} {es ys : List Nat} (h : Fil w0 wr G0 G L b c es ys) (he : es.length = ys.length) (hc : c ≤ maxLen) : Own w0 wr G (.slice (some ⟨b, 0, none⟩) ys.length c) es := by
  obtain ⟨f, ⟨arr, h1, h3, h4⟩, h2⟩ := h.row
  refine ⟨⟨by simp, Or.inr ⟨b, c, arr, by rw [he], h.new, h1, by rw [he]; exact h.len, hc, by omega, ?_⟩⟩, fun k hk => ?_⟩
  · apply List.ext_getElem?
    intro i
    rw [List.getElem?_take, List.getElem?_map]
    by_cases q : i < es.length
    · rw [if_pos (by omega), List.getElem?_eq_getElem q]
      have := h4 i (by have := h.len; omega)
      rw [h2 i (by omega)] at this
      rw [show arr.toList[i]? = arr[i]? by simp, this]
      simp [encE, List.getElem?_append_left q, q]
    · rw [if_neg (by omega), List.getElem?_eq_none (by omega)]; rfl
  · simp [Value.ownBlock] at hk; subst hk; exact h.out
/-- A row that has been made. -/
theorem Fil.made {w0 w : World} {G0 G : Loc} {L : List Nd} (hr : Rep w G L) (hf : Fr G0 w0 w G) (n : Nat) : Fil w0 (w.alloc (.cells (madeCells #[.int .i64 0] n) 3)) G0 G L w.heap.size n [] (List.replicate n 0) := by
  have hb : Below w.heap.size w (w.alloc (.cells (madeCells #[.int .i64 0] n) 3)) := (Below.refl _ _).alloc (Nat.le_refl _) _
  refine ⟨hr.below hb (Nat.le_refl _), hf.trans (Fr.ofBelow hb), ⟨fun _ => .int .i64 0, RowAt.of_made (heap_alloc_new w _) (fun i _ => rfl), fun i hi => ?_⟩, hf.size, fun q => ?_, by simp⟩
  · rw [List.length_replicate] at hi
    simp [List.getD_eq_getElem?_getD, hi]
  · exact Nat.lt_irrefl _ (hr.lt _ q)
/-- A row that a call has answered, to be turned in place. -/
theorem Own.fil {W w : World} {G0 G : Loc} {L : List Nd} {b c : Nat} {ys : List Nat} {w0 : World} (h : Own W w G (.slice (some ⟨b, 0, none⟩) ys.length c) ys) (hn : 0 < ys.length) (hr : Rep w G L) (hf : Fr G0 w0 w G) (hw : w0.heap.size ≤ W.heap.size) : Fil w0 w G0 G L b c [] ys := by
  obtain ⟨b', c', e, q1, q2, q3, q4, q5, q6, f, q7, q8⟩ := h.form hn
  simp only [Value.slice.injEq, Option.some.injEq, Addr.mk.injEq, and_true, true_and] at e
  obtain ⟨rfl, rfl⟩ := e
  exact ⟨hr, hf, ⟨f, q7, fun i hi => by rw [q8 i hi]; rfl⟩, by omega, q5, q1⟩

theorem Fil.pre {w0 w1 wr : World} {G0 G1 G : Loc} {L : List Nd} {b c : Nat} {es ys : List Nat} (h : Fil w1 wr G1 G L b c es ys) (f : Fr G0 w0 w1 G1) : Fil w0 wr G0 G L b c es ys :=
  ⟨h.rep, f.trans h.fr, h.row, Nat.le_trans f.size h.new, h.out, h.len⟩
theorem Fil.vec {w0 wr : World} {G0 G : Loc} {L : List Nd} {b c : Nat} {es ys : List Nat} (h : Fil w0 wr G0 G L b c es ys) (he : es.length = ys.length) : Vec wr G (some ⟨b, 0, none⟩) es := by
  refine Or.inr ⟨b, 0, rfl, h.lt, h.out, fun j hj => ?_⟩
  rw [Nat.zero_add, h.get (by omega)]
  congr 3
  rw [List.getD_eq_getElem?_getD, List.getD_eq_getElem?_getD, List.getElem?_append_left hj]

/-- One answer that is a list. -/
def VecE (w : World) (G : Loc) (P : Prop) (L : List Nd) (k : Nat) (f : (Nat → Bool) → List Bool) (e : Ending) (w' : World) : Prop :=
  ∃ v G' L' es, e = .returned v ∧ Rep w' G' L' ∧ Fr G w w' G' ∧ Own w w' G' v es ∧ Out P L k L' es f
/-- Two that are. -/
def VecE2 (w : World) (G : Loc) (P : Prop) (L : List Nd) (k : Nat) (f g : (Nat → Bool) → List Bool) (e : Ending) (w' : World) : Prop :=
  ∃ v u G' L' es fs, e = .returned (.tuple #[v, u]) ∧ Rep w' G' L' ∧ Fr G w w' G' ∧ Own w w' G' v es ∧ Own w w' G' u fs ∧ (∀ k, v.ownBlock = some k → u.ownBlock ≠ some k) ∧ Out P L k L' es f ∧ Out P L k L' fs g
/-- A list, and an edge. -/
def VecB (w : World) (G : Loc) (P : Prop) (L : List Nd) (k : Nat) (f : (Nat → Bool) → List Bool) (g : (Nat → Bool) → Bool) (e : Ending) (w' : World) : Prop :=
  ∃ (v : Value) (G' : Loc) (L' : List Nd) (es : List Nat) (c : Nat), e = .returned (.tuple #[v, .int .i64 (c : Int)]) ∧ Rep w' G' L' ∧ Fr G w w' G' ∧ Own w w' G' v es ∧ Out P L k L' (es ++ [c]) (fun m => f m ++ [g m])
/-- An edge. -/
def EdgE (w : World) (G : Loc) (P : Prop) (L : List Nd) (k : Nat) (g : (Nat → Bool) → Bool) (e : Ending) (w' : World) : Prop :=
  ∃ (G' : Loc) (L' : List Nd) (c : Nat), e = .returned (.int .i64 (c : Int)) ∧ Rep w' G' L' ∧ Fr G w w' G' ∧ Out P L k L' [c] (fun m => [g m])
end Go.Proofs.Ytnkcdgpaphphaaa.Gr
