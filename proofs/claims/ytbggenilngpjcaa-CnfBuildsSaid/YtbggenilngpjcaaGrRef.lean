/- The document's own graph: its memory; contracts of edge, Not, Input, And. -/
import Derived.Test.YtbggenilngpjcaaGrOnce
namespace Go.Proofs.Ytbggenilngpjcaa.Gr
open Go Go.RowKit Go.Lib Go.Maps

/-- A node's three cells. -/
def refC : Nd → List Value
  | none => [.bool true, .int .i64 0, .int .i64 0]
  | some p => [.bool false, .int .i64 (p.1 : Int), .int .i64 (p.2 : Int)]
theorem refC_len (d : Nd) : (refC d).length = 3 := by cases d <;> rfl
theorem refC_eq (d : Nd) : refC d = [.bool d.isNone, .int .i64 (lo d : Int), .int .i64 (Gr.hi d : Int)] := by cases d <;> rfl
theorem refs_get (l : List Nd) : ∀ (n : Nat) (d : Nd), l[n]? = some d → (l.flatMap refC)[n * 3]? = some (.bool d.isNone) ∧ (l.flatMap refC)[n * 3 + 1]? = some (.int .i64 (lo d : Int)) ∧ (l.flatMap refC)[n * 3 + 2]? = some (.int .i64 (Gr.hi d : Int)) := by
  induction l with
  | nil => intro n d h; simp at h
  | cons e l ih =>
    intro n d h
    rw [List.flatMap_cons, refC_eq]
    cases n with
    | zero => simp at h; subst h; exact ⟨rfl, rfl, rfl⟩
    | succ n =>
      have := ih n d (by simpa using h)
      rw [show (n + 1) * 3 = n * 3 + 3 by omega]
      simpa using this
theorem refs_snoc (L : List Nd) (d : Nd) : (L ++ [d]).flatMap refC = L.flatMap refC ++ refC d := by rw [List.flatMap_append]; simp

structure RRep (w : World) (r : Nat) (lv : Value) (L : List Nd) : Prop where
  head : RowAt w r 60 1 (fun _ => lv)
  nodes : w.ownsRow 0 62 3 lv L.length (L.flatMap refC)
  hn : lv.ownBlock ≠ some r
theorem RRep.of_heap {w w' : World} {r : Nat} {lv : Value} {L : List Nd} (h : RRep w r lv L) (e : ∀ k, (k = r ∨ lv.ownBlock = some k) → w'.heap[k]? = w.heap[k]?) : RRep w' r lv L :=
  ⟨h.head.of_heap (e _ (Or.inl rfl)), owns_of_heap h.nodes fun g hg => e g (Or.inr hg), h.hn⟩
theorem RRep.lt {w : World} {r : Nat} {lv : Value} {L : List Nd} (h : RRep w r lv L) : ∀ k, (k = r ∨ lv.ownBlock = some k) → k < w.heap.size := by
  rintro k (rfl | hk)
  · exact h.head.lt
  · exact (h.nodes.lt k hk).2
theorem RRep.below {w w' : World} {r : Nat} {lv : Value} {L : List Nd} (h : RRep w r lv L) (hb : Below w.heap.size w w') : RRep w' r lv L := h.of_heap fun k hk => hb.block k (h.lt k hk)
theorem RRep.drewN {w : World} {r : Nat} {lv : Value} {L : List Nd} (h : RRep w r lv L) (q : Nat) : RRep (w.drewN q) r lv L := h.of_heap fun _ _ => rfl
theorem RRep.c0 {w : World} {r : Nat} {lv : Value} {L : List Nd} (h : RRep w r lv L) : w.cell? ⟨r, 0, none⟩ = some lv := h.head.cell (i := 0) (by omega)
theorem RRep.form {w : World} {r : Nat} {lv : Value} {L : List Nd} (h : RRep w r lv L) : ∃ a c, lv = .slice a L.length c ∧ w.cell? ⟨r, 0, none⟩ = some (.slice a L.length c) := by
  obtain ⟨a, c, e, _⟩ := own_form h.nodes
  exact ⟨a, c, e, by rw [← e]; exact h.c0⟩
theorem RRep.node {w : World} {r : Nat} {lv : Value} {L : List Nd} (h : RRep w r lv L) {n : Nat} {d : Nd} (hd : L[n]? = some d) : ∃ g c, lv = .slice (some ⟨g, 0, none⟩) L.length c ∧ w.cell? ⟨g, n * 3, none⟩ = some (.bool d.isNone) ∧ w.cell? ⟨g, n * 3 + 1, none⟩ = some (.int .i64 (lo d : Int)) ∧ w.cell? ⟨g, n * 3 + 2, none⟩ = some (.int .i64 (Gr.hi d : Int)) := by
  have hn : n < L.length := (List.getElem?_eq_some_iff.1 hd).1
  obtain ⟨g, c, e, _, _⟩ := h.nodes.form (by omega)
  have ho := h.nodes
  rw [e] at ho
  obtain ⟨h1, h2, h3⟩ := refs_get L n d hd
  exact ⟨g, c, e, own_cell ho h1, own_cell ho h2, own_cell ho h3⟩

/-- What a call leaves. -/
structure RFr (r : Nat) (lv : Value) (w w' : World) (lv' : Value) : Prop where
  os : w'.os = w.os
  tape : w'.tape = w.tape
  output : w'.output = w.output
  size : w.heap.size ≤ w'.heap.size
  block : ∀ k, k < w.heap.size → k ≠ r → lv.ownBlock ≠ some k → w'.heap[k]? = w.heap[k]?
  own : ∀ k, lv'.ownBlock = some k → lv.ownBlock = some k ∨ w.heap.size ≤ k
theorem RFr.refl (r : Nat) (lv : Value) (w : World) : RFr r lv w w lv := ⟨rfl, rfl, rfl, Nat.le_refl _, fun _ _ _ _ => rfl, fun _ h => Or.inl h⟩
theorem RFr.drewN (r : Nat) (lv : Value) (w : World) (q : Nat) : RFr r lv w (w.drewN q) lv := ⟨rfl, rfl, rfl, Nat.le_refl _, fun _ _ _ _ => rfl, fun _ h => Or.inl h⟩
theorem RFr.below {r : Nat} {lv : Value} {w w' : World} (h : Below w.heap.size w w') : RFr r lv w w' lv := ⟨h.os, h.tape, h.output, h.size, fun k hk _ _ => h.block k hk, fun _ h => Or.inl h⟩
theorem RFr.trans {r : Nat} {lv lv' lv'' : Value} {a b c : World} (h : RFr r lv a b lv') (k : RFr r lv' b c lv'') : RFr r lv a c lv'' :=
  ⟨k.os.trans h.os, k.tape.trans h.tape, k.output.trans h.output, Nat.le_trans h.size k.size,
    fun i hi h1 h2 => (k.block i (Nat.lt_of_lt_of_le hi h.size) h1 (fun e => (h.own i e).elim h2 (fun q => by omega))).trans (h.block i hi h1 h2),
    fun i hi => (k.own i hi).elim (h.own i) (fun q => Or.inr (Nat.le_trans h.size q))⟩

theorem RRep.push {w w3 : World} {r : Nat} {lv : Value} {L : List Nd} {d : Nd} {g cap : Nat} (h : RRep w r lv L) (hgrow : w.grownBy w3 lv.ownBlock) (hat : lv.ownBlock = some g ∨ w.heap.size ≤ g)
    (hown : w3.ownsRow 0 62 3 (.slice (some ⟨g, 0, none⟩) (L.length + 1) cap) (L.length + 1) (L.flatMap refC ++ refC d)) :
    RRep (w3.setCell ⟨r, 0, none⟩ (.slice (some ⟨g, 0, none⟩) (L.length + 1) cap)) r (.slice (some ⟨g, 0, none⟩) (L.length + 1) cap) (L ++ [d]) ∧
      RFr r lv w (w3.setCell ⟨r, 0, none⟩ (.slice (some ⟨g, 0, none⟩) (L.length + 1) cap)) (.slice (some ⟨g, 0, none⟩) (L.length + 1) cap) := by
  have gr : g ≠ r := fun e => hat.elim (fun q => h.hn (by rw [q, e])) (fun q => by have := h.lt r (Or.inl rfl); omega)
  refine ⟨⟨?_, ?_, by simpa [Value.ownBlock] using gr⟩, ⟨hgrow.os, hgrow.tape, hgrow.output, by simpa [World.setCell] using hgrow.size, fun k hk h1 h2 => (Below.heap_setCell _ _ _ _ h1).trans (hgrow.block k hk (fun e => h2 e.symm)), fun k hk => ?_⟩⟩
  · have h3 : RowAt w3 r 60 1 (fun _ => lv) := h.head.of_heap (hgrow.block _ h.head.lt (fun e => h.hn e.symm))
    exact (h3.set 0 _).congr fun i hi => by obtain rfl : i = 0 := by omega
                                            rw [upd_same]
  · rw [List.length_append, refs_snoc]
    exact owns_of_heap hown fun k hk => Below.heap_setCell _ _ _ _ (fun e => gr (by simp [Value.ownBlock] at hk; exact hk.trans e))
  · have : g = k := by simpa [Value.ownBlock] using hk
    subst this
    exact hat

/-- What the document's calls that lay something answer. -/
def ROpE (w : World) (r : Nat) (lv : Value) (s : Nat × List Nd) (e : Ending) (w' : World) : Prop :=
  e = .returned (.int .i64 (s.1 : Int)) ∧ ∃ lv', RRep w' r lv' s.2 ∧ RFr r lv w w' lv'

theorem infoNode : (Try.prog.info? 62).map (fun i => (i.zero, i.size, i.bytes)) = some (some (.agg #[.bool false, .int .i64 0, .int .i64 0]), 3, 24) := by kernel_rfl

end Go.Proofs.Ytbggenilngpjcaa.Gr
