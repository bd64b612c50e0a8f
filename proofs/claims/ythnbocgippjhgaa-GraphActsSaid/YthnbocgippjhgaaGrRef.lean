/- The document's own graph: its memory; contracts of edge, Not, Input, And. -/
import Derived.Test.YthnbocgippjhgaaGrOnce
namespace Go.Proofs.Ythnbocgippjhgaa.Gr
open Go Go.RowKit Go.Lib Go.Maps

/-- A node's three cells. -/
def refC : Nd → List Value
  | none => [.bool true, .int .i64 0, .int .i64 0]
  | some p => [.bool false, .int .i64 (p.1 : Int), .int .i64 (p.2 : Int)]
theorem refC_len (d : Nd) : (refC d).length = 3 := by cases d <;> rfl
theorem refC_eq (d : Nd) : refC d = [.bool d.isNone, .int .i64 (lo d : Int), .int .i64 (Gr.hi d : Int)] := by cases d <;> rfl
theorem refs_get (l : List Nd) : ∀ (n : Nat) (d : Nd), l[n]? = some d → (l.flatMap refC)[n * 3]? = some (.bool d.isNone) ∧ (l.flatMap refC)[n * 3 + 1]? = some (.int .i64 (lo d : Int)) ∧ (l.flatMap refC)[n * 3 + 2]? = some (.int .i64 (Gr.hi d : Int)) := by
  induction l with
  | nil => intro n d h; simp at h
  | cons e l ih =>
    intro n d h
    rw [List.flatMap_cons, refC_eq]
    cases n with
    | zero => simp at h; subst h; exact ⟨rfl, rfl, rfl⟩
    | succ n =>
      have := ih n d (by simpa using h)
      rw [show (n + 1) * 3 = n * 3 + 3 by omega]
      simpa using this
theorem refs_snoc (L : List Nd) (d : Nd) : (L ++ [d]).flatMap refC = L.flatMap refC ++ refC d := by rw [List.flatMap_append]; simp

structure RRep (w : World) (r : Nat) (lv : Value) (L : List Nd) : Prop where
  head : RowAt w r 30 1 (fun _ => lv)
  nodes : w.ownsRow 0 42 3 lv L.length (L.flatMap refC)
  hn : lv.ownBlock ≠ some r
theorem RRep.of_heap {w w' : World} {r : Nat} {lv : Value} {L : List Nd} (h : RRep w r lv L) (e : ∀ k, (k = r ∨ lv.ownBlock = some k) → w'.heap[k]? = w.heap[k]?) : RRep w' r lv L :=
  ⟨h.head.of_heap (e _ (Or.inl rfl)), owns_of_heap h.nodes fun g hg => e g (Or.inr hg), h.hn⟩
theorem RRep.lt {w : World} {r : Nat} {lv : Value} {L : List Nd} (h : RRep w r lv L) : ∀ k, (k = r ∨ lv.ownBlock = some k) → k < w.heap.size := by
  rintro k (rfl | hk)
  · exact h.head.lt
  · exact (h.nodes.lt k hk).2
theorem RRep.below {w w' : World} {r : Nat} {lv : Value} {L : List Nd} (h : RRep w r lv L) (hb : Below w.heap.size w w') : RRep w' r lv L := h.of_heap fun k hk => hb.block k (h.lt k hk)
theorem RRep.drewN {w : World} {r : Nat} {lv : Value} {L : List Nd} (h : RRep w r lv L) (q : Nat) : RRep (w.drewN q) r lv L := h.of_heap fun _ _ => rfl
theorem RRep.c0 {w : World} {r : Nat} {lv : Value} {L : List Nd} (h : RRep w r lv L) : w.cell? ⟨r, 0, none⟩ = some lv := h.head.cell (i := 0) (by omega)
theorem RRep.form {w : World} {r : Nat} {lv : Value} {L : List Nd} (h : RRep w r lv L) : ∃ a c, lv = .slice a L.length c ∧ w.cell? ⟨r, 0, none⟩ = some (.slice a L.length c) := by
  obtain ⟨a, c, e, _⟩ := own_form h.nodes
  exact ⟨a, c, e, by rw [← e]; exact h.c0⟩
theorem RRep.node {w : World} {r : Nat} {lv : Value} {L : List Nd} (h : RRep w r lv L) {n : Nat} {d : Nd} (hd : L[n]? = some d) : ∃ g c, lv = .slice (some ⟨g, 0, none⟩) L.length c ∧ w.cell? ⟨g, n * 3, none⟩ = some (.bool d.isNone) ∧ w.cell? ⟨g, n * 3 + 1, none⟩ = some (.int .i64 (lo d : Int)) ∧ w.cell? ⟨g, n * 3 + 2, none⟩ = some (.int .i64 (Gr.hi d : Int)) := by
  have hn : n < L.length := (List.getElem?_eq_some_iff.1 hd).1
  obtain ⟨g, c, e, _, _⟩ := h.nodes.form (by omega)
  have ho := h.nodes
  rw [e] at ho
  obtain ⟨h1, h2, h3⟩ := refs_get L n d hd
  exact ⟨g, c, e, own_cell ho h1, own_cell ho h2, own_cell ho h3⟩

/-- What a call leaves. -/
structure RFr (r : Nat) (lv : Value) (w w' : World) (lv' : Value) : Prop where
  os : w'.os = w.os
  tape : w'.tape = w.tape
  output : w'.output = w.output
  size : w.heap.size ≤ w'.heap.size
  block : ∀ k, k < w.heap.size → k ≠ r → lv.ownBlock ≠ some k → w'.heap[k]? = w.heap[k]?
  own : ∀ k, lv'.ownBlock = some k → lv.ownBlock = some k ∨ w.heap.size ≤ k
theorem RFr.refl (r : Nat) (lv : Value) (w : World) : RFr r lv w w lv := ⟨rfl, rfl, rfl, Nat.le_refl _, fun _ _ _ _ => rfl, fun _ h => Or.inl h⟩
theorem RFr.drewN (r : Nat) (lv : Value) (w : World) (q : Nat) : RFr r lv w (w.drewN q) lv := ⟨rfl, rfl, rfl, Nat.le_refl _, fun _ _ _ _ => rfl, fun _ h => Or.inl h⟩
theorem RFr.below {r : Nat} {lv : Value} {w w' : World} (h : Below w.heap.size w w') : RFr r lv w w' lv := ⟨h.os, h.tape, h.output, h.size, fun k hk _ _ => h.block k hk, fun _ h => Or.inl h⟩
theorem RFr.trans {r : Nat} {lv lv' lv'' : Value} {a b c : World} (h : RFr r lv a b lv') (k : RFr r lv' b c lv'') : RFr r lv a c lv'' :=
  ⟨k.os.trans h.os, k.tape.trans h.tape, k.output.trans h.output, Nat.le_trans h.size k.size,
    fun i hi h1 h2 => (k.block i (Nat.lt_of_lt_of_le hi h.size) h1 (fun e => (h.own i e).elim h2 (fun q => by omega))).trans (h.block i hi h1 h2),
    fun i hi => (k.own i hi).elim (h.own i) (fun q => Or.inr (Nat.le_trans h.size q))⟩

theorem RRep.push {w w3 : World} {r : Nat} {lv : Value} {L : List Nd} {d : Nd} {g cap : Nat} (h : RRep w r lv L) (hgrow : w.grownBy w3 lv.ownBlock) (hat : lv.ownBlock = some g ∨ w.heap.size ≤ g)
    (hown : w3.ownsRow 0 42 3 (.slice (some ⟨g, 0, none⟩) (L.length + 1) cap) (L.length + 1) (L.flatMap refC ++ refC d)) :
    RRep (w3.setCell ⟨r, 0, none⟩ (.slice (some ⟨g, 0, none⟩) (L.length + 1) cap)) r (.slice (some ⟨g, 0, none⟩) (L.length + 1) cap) (L ++ [d]) ∧
      RFr r lv w (w3.setCell ⟨r, 0, none⟩ (.slice (some ⟨g, 0, none⟩) (L.length + 1) cap)) (.slice (some ⟨g, 0, none⟩) (L.length + 1) cap) := by
  have gr : g ≠ r := fun e => hat.elim (fun q => h.hn (by rw [q, e])) (fun q => by have := h.lt r (Or.inl rfl); omega)
  refine ⟨⟨?_, ?_, by simpa [Value.ownBlock] using gr⟩, ⟨hgrow.os, hgrow.tape, hgrow.output, by simpa [World.setCell] using hgrow.size, fun k hk h1 h2 => (Below.heap_setCell _ _ _ _ h1).trans (hgrow.block k hk (fun e => h2 e.symm)), fun k hk => ?_⟩⟩
  · have h3 : RowAt w3 r 30 1 (fun _ => lv) := h.head.of_heap (hgrow.block _ h.head.lt (fun e => h.hn e.symm))
    exact (h3.set 0 _).congr fun i hi => by obtain rfl : i = 0 := by omega
                                            rw [upd_same]
  · rw [List.length_append, refs_snoc]
    exact owns_of_heap hown fun k hk => Below.heap_setCell _ _ _ _ (fun e => gr (by simp [Value.ownBlock] at hk; exact hk.trans e))
  · have : g = k := by simpa [Value.ownBlock] using hk
    subst this
    exact hat

set_option maxHeartbeats 1000000 in
theorem refEdge_any {w : World} {r : Nat} {lv : Value} {L : List Nd} (h : RRep w r lv L) (e : Int) (hl : L.length < 250000) :
    Calls Try.prog 26 #[.pointer (some ⟨r, 0, none⟩), .int .i64 e] w fun e' w' => e' = .returned (.int .i64 (own L e : Int)) ∧ w = w' := by
  obtain ⟨a, c, _, c0⟩ := h.form
  obtain ⟨n, hn⟩ : ∃ n, n = L.length := ⟨_, rfl⟩
  rw [← hn] at c0
  have n9 : (n : Int) ≤ 250000 := by omega
  clear h
  by_cases h0 : e < 0
  · have HE := Lib.hid (own_neg (L := L) h0)
    clear hn hl
    go_enter Try.func26, Try.ntmps26
    go_wp2
    go_ret
    rw [HE.out]
    simp
  · by_cases h1 : e < 2 * ((n : Int) + 1)
    · have HE : Hid ((own L e : Int) = e) := by unfold Hid own; rw [if_pos (by omega)]; omega
      have h2 : ¬ (2 * ((n : Int) + 1) ≤ e) := by omega
      clear hn hl
      go_enter Try.func26, Try.ntmps26
      go_wp2
      go_ret
      rw [HE.out]
      simp
    · have HE : Hid (own L e = 0) := by unfold Hid own; rw [if_neg (by omega)]
      have h2 : 2 * ((n : Int) + 1) ≤ e := by omega
      clear hn hl h1
      go_enter Try.func26, Try.ntmps26
      go_wp2
      go_ret
      rw [HE.out]
      simp

set_option maxHeartbeats 400000 in
theorem refNot_any (e : Nat) (w : World) (h : e < 1000000) :
    Calls Try.prog 27 #[.int .i64 (e : Int)] w fun r w' => r = .returned (.int .i64 (neg e : Int)) ∧ w = w' := by
  have hm : (e : Int).tmod 2 = ((e % 2 : Nat) : Int) := by rw [Int.tmod_eq_emod_of_nonneg (by omega)]; omega
  have e9 : (e : Int) < 1000000 := by omega
  have e0 : (0 : Int) ≤ (e : Int) := by omega
  rcases Nat.mod_two_eq_zero_or_one e with q | q
  · rw [q] at hm
    have HE : Hid ((neg e : Int) = (e : Int) + 1) := by rw [Hid, neg_even q]; omega
    clear h q
    go_enter Try.func27, Try.ntmps27
    go_wp2
    go_ret
    rw [HE.out]
    exact ⟨rfl, rfl⟩
  · rw [q] at hm
    have HE : Hid ((neg e : Int) = (e : Int) - 1) := by rw [Hid, neg_odd q]; omega
    clear h q
    go_enter Try.func27, Try.ntmps27
    go_wp2
    go_ret
    rw [HE.out]
    exact ⟨rfl, rfl⟩

/-- What the document's calls that lay something answer. -/
def ROpE (w : World) (r : Nat) (lv : Value) (s : Nat × List Nd) (e : Ending) (w' : World) : Prop :=
  e = .returned (.int .i64 (s.1 : Int)) ∧ ∃ lv', RRep w' r lv' s.2 ∧ RFr r lv w w' lv'

theorem infoNode : (Try.prog.info? 42).map (fun i => (i.zero, i.size, i.bytes)) = some (some (.agg #[.bool false, .int .i64 0, .int .i64 0]), 3, 24) := by kernel_rfl

set_option maxRecDepth 100000 in
set_option maxHeartbeats 2000000 in
theorem refInput_any {w : World} {r : Nat} {lv : Value} {L : List Nd} (h : RRep w r lv L) (hl : L.length < 150000) :
    Calls Try.prog 9 #[.pointer (some ⟨r, 0, none⟩)] w (ROpE w r lv (2 * (L.length + 1), L ++ [none])) := by
  obtain ⟨a, c, elv, c0⟩ := h.form
  obtain ⟨n, hn⟩ : ∃ n, n = L.length := ⟨_, rfl⟩
  have HR := Lib.hid h
  have ho := h.nodes
  have hs := h.head.lt
  have z0 := h.head.free 0
  have hne := Ne.symm h.hn
  rw [elv, ← hn] at ho
  rw [← hn] at c0
  rw [elv, ← hn] at hne
  have HO := Lib.hid ho
  have HN := Lib.hid hn
  rw [← hn] at elv
  have HLV := Lib.hid elv
  have n9 : (n : Int) ≤ 150000 := by omega
  have n8 : n ≤ 150000 := by omega
  obtain ⟨ii, hi, hz0, hz1, hz2⟩ := info_parts infoNode
  clear h elv ho hn hl
  go_enter Try.func9, Try.ntmps9
  go_wp2_with (at_builtin; refine wpList_append_lies _ rfl _ _ 28 rfl 0 42 ii _ 3 24 Try.underlying28 hi hz0 hz1 hz2 rfl (by decide) _ _ _ rfl (HO.out.alloc _) ⟨w.heap.size, 0, none⟩ 1 1 [.bool true, .int .i64 0, .int .i64 0] rfl rfl (World.news_of_block (cs := #[.bool true, .int .i64 0, .int .i64 0]) (t := 42) (fr := (0, 0)) (heap_alloc_new w _)) (by simp [Value.oneCell']) (by decide) (by unfold maxLen; omega) (by omega) (Nat.zero_le _) (w.heap.size + 1) (by simp) ?_; intro g cap w3 hown hgrow hat hlt1; have cl := hgrow.cell ((World.cell?_of_block (a := ⟨r, 0, none⟩) (Below.heap_alloc w _ _ hs)).trans c0) hne; have fz := (hgrow.frozen_far ⟨r, 0, none⟩ (by simp; omega) hne).trans ((World.frozen?_of_block (Below.heap_alloc w _ _ hs)).trans z0))
  have HW : Hid (RRep (w.alloc (.cells #[.bool true, .int .i64 0, .int .i64 0] 42)) r lv L) := HR.out.below ((Below.refl _ _).alloc (Nat.le_refl _) _)
  have R := HW.out.push (d := none) (g := g) (cap := cap) (w3 := w3) (by rw [HLV.out]; exact hgrow) (by rw [HLV.out]; exact hat.imp id (fun e => by simp; omega)) (by rw [← HN.out]; exact hown)
  rw [← HN.out] at R
  have HFIN : Hid (ROpE w r lv (2 * (L.length + 1), L ++ [none]) (.returned (.int .i64 (2 * ((n : Int) + 1)))) (w3.setCell ⟨r, 0, none⟩ (.slice (some ⟨g, 0, none⟩) (n + 1) cap))) :=
    ⟨by rw [HN.out]; rfl, _, R.1, (RFr.below ((Below.refl _ _).alloc (Nat.le_refl _) _)).trans R.2⟩
  have c9 : (w3.setCell ⟨r, 0, none⟩ (.slice (some ⟨g, 0, none⟩) (n + 1) cap)).cell? ⟨r, 0, none⟩ = some (.slice (some ⟨g, 0, none⟩) (n + 1) cap) := R.1.c0
  clear R HW hown hgrow hat hlt1
  generalize w3.setCell ⟨r, 0, none⟩ (.slice (some ⟨g, 0, none⟩) (n + 1) cap) = W4 at *
  go_wp2_with fail
  go_ret
  exact HFIN.out
end Go.Proofs.Ythnbocgippjhgaa.Gr
