/- The heap in memory: four blocks of its own; what a store does to them. -/
import Derived.Test.YtanmpokfeidlcaaChecked
import Derived.Test.YtanmpokfeidlcaaHpPlain
import Derived.WalkKit
import Derived.OneCell
import Derived.Lib.Hide
import Derived.Deep.QuietTactic
import Derived.BigQuiet
import Derived.Deep.LoopGhost
namespace Go.Proofs.Ytanmpokfeidlcaa.Hp
open Go Go.RowKit Go.Lib

/-- Block b is a row of n cells that hold f. -/
def RowAt (w : World) (b : Nat) (ty : TypeId) (n : Nat) (f : Nat → Value) : Prop :=
  ∃ arr : Array Value, w.heap[b]? = some (.cells arr ty (0, 0)) ∧ arr.size = n ∧ ∀ i, i < n → arr[i]? = some (f i)

theorem RowAt.lt {w : World} {b : Nat} {ty : TypeId} {n : Nat} {f : Nat → Value} (h : RowAt w b ty n f) : b < w.heap.size := by
  obtain ⟨arr, h1, _⟩ := h; exact lt_of_block h1
theorem RowAt.cell {w : World} {b : Nat} {ty : TypeId} {n : Nat} {f : Nat → Value} (h : RowAt w b ty n f) {i : Nat} (hi : i < n) : w.cell? ⟨b, i, none⟩ = some (f i) := by
  obtain ⟨arr, h1, _, h3⟩ := h
  simp only [World.cell?, h1]
  simpa using h3 i hi
theorem RowAt.free {w : World} {b : Nat} {ty : TypeId} {n : Nat} {f : Nat → Value} (h : RowAt w b ty n f) (i : Nat) : w.frozen? ⟨b, i, none⟩ = false := by
  obtain ⟨arr, h1, _⟩ := h
  simp [World.frozen?, h1]
theorem RowAt.of_heap {w w' : World} {b : Nat} {ty : TypeId} {n : Nat} {f : Nat → Value} (h : RowAt w b ty n f) (e : w'.heap[b]? = w.heap[b]?) : RowAt w' b ty n f := by
  obtain ⟨arr, h1, h2, h3⟩ := h; exact ⟨arr, e.trans h1, h2, h3⟩
theorem RowAt.congr {w : World} {b : Nat} {ty : TypeId} {n : Nat} {f g : Nat → Value} (h : RowAt w b ty n f) (e : ∀ i, i < n → f i = g i) : RowAt w b ty n g := by
  obtain ⟨arr, h1, h2, h3⟩ := h; exact ⟨arr, h1, h2, fun i hi => by rw [h3 i hi, e i hi]⟩
theorem RowAt.set {w : World} {b : Nat} {ty : TypeId} {n : Nat} {f : Nat → Value} (h : RowAt w b ty n f) (i : Nat) (u : Value) : RowAt (w.setCell ⟨b, i, none⟩ u) b ty n (upd f i u) := by
  obtain ⟨arr, h1, h2, h3⟩ := h
  have hlt := lt_of_block h1
  have h' : w.heap[b] = .cells arr ty (0, 0) := by simpa [Array.getElem?_eq_getElem hlt] using h1
  refine ⟨arr.setIfInBounds i u, ?_, by simpa using h2, fun j hj => ?_⟩
  · show (w.heap.modify b _)[b]? = _
    rw [Array.getElem?_eq_getElem (by simpa using hlt), Array.getElem_modify_self, h']
    rfl
  · rw [Array.getElem?_setIfInBounds]
    by_cases e : i = j
    · subst e; rw [if_pos rfl, if_pos (by omega), upd_same]
    · rw [if_neg e, upd_ne _ _ _ (Ne.symm e)]; exact h3 j hj
theorem RowAt.other {w : World} {b : Nat} {ty : TypeId} {n : Nat} {f : Nat → Value} (h : RowAt w b ty n f) {a : Addr} (hne : b ≠ a.block) (u : Value) : RowAt (w.setCell a u) b ty n f :=
  h.of_heap (Below.heap_setCell _ _ _ _ hne)
theorem RowAt.alloc {w : World} {b : Nat} {ty : TypeId} {n : Nat} {f : Nat → Value} (h : RowAt w b ty n f) (o : Obj) : RowAt (w.alloc o) b ty n f := h.of_heap (Below.heap_alloc _ _ _ h.lt)

/-- Of the blocks that were there, those of S alone may have turned. -/
structure Only (S : List Nat) (w w' : World) : Prop where
  os : w'.os = w.os
  tape : w'.tape = w.tape
  output : w'.output = w.output
  size : w.heap.size ≤ w'.heap.size
  block : ∀ k, k < w.heap.size → k ∉ S → w'.heap[k]? = w.heap[k]?

theorem Only.refl (S : List Nat) (w : World) : Only S w w := ⟨rfl, rfl, rfl, Nat.le_refl _, fun _ _ _ => rfl⟩
theorem Only.trans {S : List Nat} {a b c : World} (h : Only S a b) (k : Only S b c) : Only S a c :=
  ⟨k.os.trans h.os, k.tape.trans h.tape, k.output.trans h.output, Nat.le_trans h.size k.size, fun i hi hn => (k.block i (Nat.lt_of_lt_of_le hi h.size) hn).trans (h.block i hi hn)⟩
theorem Only.alloc {S : List Nat} {a w : World} (h : Only S a w) (o : Obj) : Only S a (w.alloc o) :=
  h.trans ⟨rfl, rfl, rfl, by simp, fun k hk _ => Below.heap_alloc _ _ _ hk⟩
theorem Only.set {S : List Nat} {a w : World} (h : Only S a w) {p : Addr} (hp : p.block ∈ S) (u : Value) : Only S a (w.setCell p u) :=
  h.trans ⟨rfl, rfl, rfl, by simp [World.setCell], fun k _ hn => Below.heap_setCell _ _ _ _ (fun e => hn (e ▸ hp))⟩
theorem Only.drewN {S : List Nat} {a w : World} (h : Only S a w) (n : Nat) : Only S a (w.drewN n) := h.trans ⟨rfl, rfl, rfl, Nat.le_refl _, fun _ _ _ => rfl⟩
theorem Only.below {S : List Nat} {w w' : World} (h : Only S w w') {B : Nat} (hB : B ≤ w.heap.size) (hS : ∀ b ∈ S, B ≤ b) : Below B w w' :=
  ⟨h.os, h.tape, h.output, h.size, fun k hk => h.block k (by omega) (fun hm => by have := hS k hm; omega)⟩
theorem RowAt.only {S : List Nat} {w w' : World} {b : Nat} {ty : TypeId} {n : Nat} {f : Nat → Value} (h : RowAt w b ty n f) (ho : Only S w w') (hb : b ∉ S) : RowAt w' b ty n f := h.of_heap (ho.block b h.lt hb)

/-- Where a heap lies: its struct, tree, places, activities. -/
structure Loc where
  h : Nat
  t : Nat
  p : Nat
  a : Nat

def Loc.all (L : Loc) : List Nat := [L.h, L.t, L.p, L.a]

def headF (L : Loc) (n k : Nat) : Nat → Value
  | 0 => .slice (some ⟨L.t, 0, none⟩) k n
  | 1 => .slice (some ⟨L.p, 0, none⟩) (n + 1) (n + 1)
  | _ => .slice (some ⟨L.a, 0, none⟩) (n + 1) (n + 1)
def natF (T : Nat → Nat) : Nat → Value := fun i => .int .i64 (T i : Int)
def intF (P : Nat → Int) : Nat → Value := fun i => .int .i64 (P i)

structure Rep (w : World) (L : Loc) (n k : Nat) (T : Nat → Nat) (P A : Nat → Int) : Prop where
  head : RowAt w L.h 48 3 (headF L n k)
  tree : RowAt w L.t 3 n (natF T)
  place : RowAt w L.p 3 (n + 1) (intF P)
  act : RowAt w L.a 2 (n + 1) (intF A)
  tp : L.t ≠ L.p
  ht : L.h ≠ L.t
  hp : L.h ≠ L.p
  ha : L.h ≠ L.a
  ta : L.t ≠ L.a
  pa : L.p ≠ L.a

theorem Rep.c0 {w : World} {L : Loc} {n k : Nat} {T : Nat → Nat} {P A : Nat → Int} (h : Rep w L n k T P A) : w.cell? ⟨L.h, 0, none⟩ = some (.slice (some ⟨L.t, 0, none⟩) k n) := h.head.cell (i := 0) (by omega)
theorem Rep.c1 {w : World} {L : Loc} {n k : Nat} {T : Nat → Nat} {P A : Nat → Int} (h : Rep w L n k T P A) : w.cell? ⟨L.h, 1, none⟩ = some (.slice (some ⟨L.p, 0, none⟩) (n + 1) (n + 1)) := h.head.cell (i := 1) (by omega)
theorem Rep.c2 {w : World} {L : Loc} {n k : Nat} {T : Nat → Nat} {P A : Nat → Int} (h : Rep w L n k T P A) : w.cell? ⟨L.h, 2, none⟩ = some (.slice (some ⟨L.a, 0, none⟩) (n + 1) (n + 1)) := h.head.cell (i := 2) (by omega)
theorem Rep.ct {w : World} {L : Loc} {n k : Nat} {T : Nat → Nat} {P A : Nat → Int} (h : Rep w L n k T P A) {i : Nat} (hi : i < n) : w.cell? ⟨L.t, i, none⟩ = some (.int .i64 (T i : Int)) := h.tree.cell hi
theorem Rep.cp {w : World} {L : Loc} {n k : Nat} {T : Nat → Nat} {P A : Nat → Int} (h : Rep w L n k T P A) {i : Nat} (hi : i ≤ n) : w.cell? ⟨L.p, i, none⟩ = some (.int .i64 (P i)) := h.place.cell (by omega)
theorem Rep.ca {w : World} {L : Loc} {n k : Nat} {T : Nat → Nat} {P A : Nat → Int} (h : Rep w L n k T P A) {i : Nat} (hi : i ≤ n) : w.cell? ⟨L.a, i, none⟩ = some (.int .i64 (A i)) := h.act.cell (by omega)

theorem Rep.of_heap {w w' : World} {L : Loc} {n k : Nat} {T : Nat → Nat} {P A : Nat → Int} (h : Rep w L n k T P A) (e : ∀ b ∈ L.all, w'.heap[b]? = w.heap[b]?) : Rep w' L n k T P A :=
  { h with head := h.head.of_heap (e _ (by simp [Loc.all])), tree := h.tree.of_heap (e _ (by simp [Loc.all])), place := h.place.of_heap (e _ (by simp [Loc.all])), act := h.act.of_heap (e _ (by simp [Loc.all])) }
theorem Rep.drewN {w : World} {L : Loc} {n k : Nat} {T : Nat → Nat} {P A : Nat → Int} (h : Rep w L n k T P A) (q : Nat) : Rep (w.drewN q) L n k T P A := h.of_heap (fun _ _ => rfl)
theorem Rep.lt {w : World} {L : Loc} {n k : Nat} {T : Nat → Nat} {P A : Nat → Int} (h : Rep w L n k T P A) : ∀ b ∈ L.all, b < w.heap.size := by
  intro b hb
  simp only [Loc.all, List.mem_cons, List.not_mem_nil, or_false] at hb
  rcases hb with e | e | e | e
  · rw [e]; exact h.head.lt
  · rw [e]; exact h.tree.lt
  · rw [e]; exact h.place.lt
  · rw [e]; exact h.act.lt
theorem Rep.alloc {w : World} {L : Loc} {n k : Nat} {T : Nat → Nat} {P A : Nat → Int} (h : Rep w L n k T P A) (o : Obj) : Rep (w.alloc o) L n k T P A := h.of_heap (fun b hb => Below.heap_alloc _ _ _ (h.lt b hb))
theorem Rep.only {S : List Nat} {w w' : World} {L : Loc} {n k : Nat} {T : Nat → Nat} {P A : Nat → Int} (h : Rep w L n k T P A) (ho : Only S w w') (hS : ∀ b ∈ L.all, b ∉ S) : Rep w' L n k T P A := h.of_heap (fun b hb => ho.block b (h.lt b hb) (hS b hb))
theorem Rep.congr {w : World} {L : Loc} {n k : Nat} {T T' : Nat → Nat} {P P' A A' : Nat → Int} (h : Rep w L n k T P A) (hT : ∀ i, i < n → T i = T' i) (hP : ∀ i, i ≤ n → P i = P' i) (hA : ∀ i, i ≤ n → A i = A' i) : Rep w L n k T' P' A' :=
  { h with tree := h.tree.congr (fun i hi => by unfold natF; rw [hT i hi]), place := h.place.congr (fun i hi => by unfold intF; rw [hP i (by omega)]), act := h.act.congr (fun i hi => by unfold intF; rw [hA i (by omega)]) }

theorem natF_upd (T : Nat → Nat) (i v : Nat) : upd (natF T) i (.int .i64 (v : Int)) = natF (upd T i v) := by
  funext j; unfold natF upd; split <;> rfl
theorem intF_upd (P : Nat → Int) (i : Nat) (v : Int) : upd (intF P) i (.int .i64 v) = intF (upd P i v) := by
  funext j; unfold intF upd; split <;> rfl

theorem Rep.setTree {w : World} {L : Loc} {n k : Nat} {T : Nat → Nat} {P A : Nat → Int} (h : Rep w L n k T P A) (i v : Nat) : Rep (w.setCell ⟨L.t, i, none⟩ (.int .i64 (v : Int))) L n k (upd T i v) P A :=
  { h with head := h.head.other h.ht _, tree := by rw [← natF_upd]; exact h.tree.set i _, place := h.place.other h.tp.symm _, act := h.act.other h.ta.symm _ }
theorem Rep.setPlace {w : World} {L : Loc} {n k : Nat} {T : Nat → Nat} {P A : Nat → Int} (h : Rep w L n k T P A) (i : Nat) (v : Int) : Rep (w.setCell ⟨L.p, i, none⟩ (.int .i64 v)) L n k T (upd P i v) A :=
  { h with head := h.head.other h.hp _, tree := h.tree.other h.tp _, place := by rw [← intF_upd]; exact h.place.set i _, act := h.act.other h.pa.symm _ }
theorem Rep.setAct {w : World} {L : Loc} {n k : Nat} {T : Nat → Nat} {P A : Nat → Int} (h : Rep w L n k T P A) (i : Nat) (v : Int) : Rep (w.setCell ⟨L.a, i, none⟩ (.int .i64 v)) L n k T P (upd A i v) :=
  { h with head := h.head.other h.ha _, tree := h.tree.other h.ta _, place := h.place.other h.pa _, act := by rw [← intF_upd]; exact h.act.set i _ }
theorem Rep.setHead {w : World} {L : Loc} {n k : Nat} {T : Nat → Nat} {P A : Nat → Int} (h : Rep w L n k T P A) (k' : Nat) : Rep (w.setCell ⟨L.h, 0, none⟩ (.slice (some ⟨L.t, 0, none⟩) k' n)) L n k' T P A :=
  { h with head := (h.head.set 0 _).congr (fun i hi => by match i with | 0 => rfl | 1 => rfl | i + 2 => rfl), tree := h.tree.other h.ht.symm _, place := h.place.other h.hp.symm _, act := h.act.other h.ha.symm _ }

/-- The contained ones and the activities, as the document has them. -/
def IsHeap (w : World) (L : Loc) (n : Nat) (In : Nat → Bool) (A : Nat → Int) : Prop :=
  ∃ k T P, Rep w L n k T P A ∧ Inv 0 n k T P ∧ OrdFrom 0 k A T ∧ (∀ v, 1 ≤ v → v ≤ n → (In v = true ↔ P v ≠ -1)) ∧ k = cnt n In ∧ A 0 = 0 ∧ (∀ v, v ≤ n → 0 ≤ A v ∧ A v ≤ 1152921504606846976) ∧ n ≤ 100000

/-- A variable? -/
def isV (n : Nat) (v : Int) : Bool := decide (1 ≤ v) && decide (v ≤ (n : Int))
end Go.Proofs.Ytanmpokfeidlcaa.Hp
