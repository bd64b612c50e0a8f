/- The graph in memory: its struct, nodes, map and inputs; what changes when one is appended. -/
import Derived.Test.YtbggenilngpjcaaGrPlain
import Derived.WalkKit
import Derived.OneCell
import Derived.Lib.Hide
import Derived.Deep.QuietTactic
import Derived.BigQuiet
import Derived.Deep.LoopGhost
import Derived.Deep.AppendLies
import Derived.Maps.OwnSet
import Derived.Maps.Views
import Derived.DeepKeys4
import Derived.BigRegion
import Derived.ArgAppend
import Derived.OwnWalk
namespace Go.Proofs.Ytbggenilngpjcaa.Gr
open Go Go.RowKit Go.Lib Go.Maps

theorem lt_of_blk {w : World} {b : Nat} {o : Obj} (h : w.heap[b]? = some o) : b < w.heap.size := lt_of_block h

/-- Block b is a row of n cells that hold f. -/
def RowAt (w : World) (b : Nat) (ty : TypeId) (n : Nat) (f : Nat → Value) : Prop :=
  ∃ arr : Array Value, w.heap[b]? = some (.cells arr ty (0, 0)) ∧ arr.size = n ∧ ∀ i, i < n → arr[i]? = some (f i)

theorem RowAt.lt {w : World} {b : Nat} {ty : TypeId} {n : Nat} {f : Nat → Value} (h : RowAt w b ty n f) : b < w.heap.size := by
  obtain ⟨arr, h1, _⟩ := h; exact lt_of_block h1
theorem RowAt.cell {w : World} {b : Nat} {ty : TypeId} {n : Nat} {f : Nat → Value} (h : RowAt w b ty n f) {i : Nat} (hi : i < n) : w.cell? ⟨b, i, none⟩ = some (f i) := by
  obtain ⟨arr, h1, _, h3⟩ := h
  simp only [World.cell?, h1]
  simpa using h3 i hi
theorem RowAt.free {w : World} {b : Nat} {ty : TypeId} {n : Nat} {f : Nat → Value} (h : RowAt w b ty n f) (i : Nat) : w.frozen? ⟨b, i, none⟩ = false := by
  obtain ⟨arr, h1, _⟩ := h
  simp [World.frozen?, h1]
theorem RowAt.of_heap {w w' : World} {b : Nat} {ty : TypeId} {n : Nat} {f : Nat → Value} (h : RowAt w b ty n f) (e : w'.heap[b]? = w.heap[b]?) : RowAt w' b ty n f := by
  obtain ⟨arr, h1, h2, h3⟩ := h; exact ⟨arr, e.trans h1, h2, h3⟩
theorem RowAt.congr {w : World} {b : Nat} {ty : TypeId} {n : Nat} {f g : Nat → Value} (h : RowAt w b ty n f) (e : ∀ i, i < n → f i = g i) : RowAt w b ty n g := by
  obtain ⟨arr, h1, h2, h3⟩ := h; exact ⟨arr, h1, h2, fun i hi => by rw [h3 i hi, e i hi]⟩
theorem RowAt.set {w : World} {b : Nat} {ty : TypeId} {n : Nat} {f : Nat → Value} (h : RowAt w b ty n f) (i : Nat) (u : Value) : RowAt (w.setCell ⟨b, i, none⟩ u) b ty n (upd f i u) := by
  obtain ⟨arr, h1, h2, h3⟩ := h
  have hlt := lt_of_block h1
  have h' : w.heap[b] = .cells arr ty (0, 0) := by simpa [Array.getElem?_eq_getElem hlt] using h1
  refine ⟨arr.setIfInBounds i u, ?_, by simpa using h2, fun j hj => ?_⟩
  · show (w.heap.modify b _)[b]? = _
    rw [Array.getElem?_eq_getElem (by simpa using hlt), Array.getElem_modify_self, h']
    rfl
  · rw [Array.getElem?_setIfInBounds]
    by_cases e : i = j
    · subst e; rw [if_pos rfl, if_pos (by omega), upd_same]
    · rw [if_neg e, upd_ne _ _ _ (Ne.symm e)]; exact h3 j hj
theorem RowAt.other {w : World} {b : Nat} {ty : TypeId} {n : Nat} {f : Nat → Value} (h : RowAt w b ty n f) {a : Addr} (hne : b ≠ a.block) (u : Value) : RowAt (w.setCell a u) b ty n f :=
  h.of_heap (Below.heap_setCell _ _ _ _ hne)
theorem RowAt.alloc {w : World} {b : Nat} {ty : TypeId} {n : Nat} {f : Nat → Value} (h : RowAt w b ty n f) (o : Obj) : RowAt (w.alloc o) b ty n f := h.of_heap (Below.heap_alloc _ _ _ h.lt)

/-- Of the blocks that were there, those of S alone may have turned. -/
structure Only (S : List Nat) (w w' : World) : Prop where
  os : w'.os = w.os
  tape : w'.tape = w.tape
  output : w'.output = w.output
  size : w.heap.size ≤ w'.heap.size
  block : ∀ k, k < w.heap.size → k ∉ S → w'.heap[k]? = w.heap[k]?

theorem Only.refl (S : List Nat) (w : World) : Only S w w := ⟨rfl, rfl, rfl, Nat.le_refl _, fun _ _ _ => rfl⟩
theorem Only.trans {S : List Nat} {a b c : World} (h : Only S a b) (k : Only S b c) : Only S a c :=
  ⟨k.os.trans h.os, k.tape.trans h.tape, k.output.trans h.output, Nat.le_trans h.size k.size, fun i hi hn => (k.block i (Nat.lt_of_lt_of_le hi h.size) hn).trans (h.block i hi hn)⟩
theorem Only.alloc {S : List Nat} {a w : World} (h : Only S a w) (o : Obj) : Only S a (w.alloc o) :=
  h.trans ⟨rfl, rfl, rfl, by simp, fun k hk _ => Below.heap_alloc _ _ _ hk⟩
theorem Only.set {S : List Nat} {a w : World} (h : Only S a w) {p : Addr} (hp : p.block ∈ S) (u : Value) : Only S a (w.setCell p u) :=
  h.trans ⟨rfl, rfl, rfl, by simp [World.setCell], fun k _ hn => Below.heap_setCell _ _ _ _ (fun e => hn (e ▸ hp))⟩
theorem Only.drewN {S : List Nat} {a w : World} (h : Only S a w) (n : Nat) : Only S a (w.drewN n) := h.trans ⟨rfl, rfl, rfl, Nat.le_refl _, fun _ _ _ => rfl⟩
theorem Only.below {S : List Nat} {w w' : World} (h : Only S w w') {B : Nat} (hB : B ≤ w.heap.size) (hS : ∀ b ∈ S, B ≤ b) : Below B w w' :=
  ⟨h.os, h.tape, h.output, h.size, fun k hk => h.block k (by omega) (fun hm => by have := hS k hm; omega)⟩
theorem RowAt.only {S : List Nat} {w w' : World} {b : Nat} {ty : TypeId} {n : Nat} {f : Nat → Value} (h : RowAt w b ty n f) (ho : Only S w w') (hb : b ∉ S) : RowAt w' b ty n f := h.of_heap (ho.block b h.lt hb)

/-- Where a graph lies: its struct, its map, its slices. -/
structure Loc where
  h : Nat
  b : Nat
  nv : Value
  iv : Value

def Loc.has (G : Loc) (k : Nat) : Prop := k = G.h ∨ k = G.b ∨ G.nv.ownBlock = some k ∨ G.iv.ownBlock = some k

def headF (G : Loc) : Nat → Value
  | 0 => G.nv
  | 1 => .map (some G.b)
  | _ => G.iv

/-- A node's two cells. -/
def pairC : Nd → List Value
  | none => [.int .i64 0, .int .i64 0]
  | some p => [.int .i64 (p.1 : Int), .int .i64 (p.2 : Int)]
def pairV : Nd → Value := fun d => .agg (pairC d).toArray
def nodeC (L : List Nd) : List Value := (none :: L).flatMap pairC
theorem pairC_len (d : Nd) : (pairC d).length = 2 := by cases d <;> rfl
theorem flat_len (l : List Nd) : (l.flatMap pairC).length = l.length * 2 := by
  induction l with
  | nil => rfl
  | cons d l ih => rw [List.flatMap_cons, List.length_append, ih, pairC_len, List.length_cons]; omega
theorem nodeC_len (L : List Nd) : (nodeC L).length = (L.length + 1) * 2 := flat_len _
theorem nodeC_snoc (L : List Nd) (d : Nd) : nodeC (L ++ [d]) = nodeC L ++ pairC d := by
  unfold nodeC; rw [← List.cons_append, List.flatMap_append]; simp
def lo : Nd → Nat
  | none => 0
  | some p => p.1
def hi : Nd → Nat
  | none => 0
  | some p => p.2
theorem pairC_eq (d : Nd) : pairC d = [.int .i64 (lo d : Int), .int .i64 (hi d : Int)] := by cases d <;> rfl
theorem flat_get (l : List Nd) : ∀ (n : Nat) (d : Nd), l[n]? = some d → (l.flatMap pairC)[n * 2]? = some (.int .i64 (lo d : Int)) ∧ (l.flatMap pairC)[n * 2 + 1]? = some (.int .i64 (hi d : Int)) := by
  induction l with
  | nil => intro n d h; simp at h
  | cons e l ih =>
    intro n d h
    rw [List.flatMap_cons, pairC_eq]
    cases n with
    | zero => simp at h; subst h; exact ⟨rfl, rfl⟩
    | succ n =>
      have := ih n d (by simpa using h)
      rw [show (n + 1) * 2 = n * 2 + 2 by omega]
      simpa using this

/-- The node's pair: no pair for node 0 and for inputs. -/
def nd (L : List Nd) (n : Nat) : Nd := (none :: L)[n]?.getD none
theorem nd_get {L : List Nd} {n : Nat} (h : n < L.length + 1) : (none :: L)[n]? = some (nd L n) := by
  unfold nd
  rw [List.getElem?_eq_getElem (by simpa using h)]
  rfl
theorem nd_succ (L : List Nd) (n : Nat) : nd L (n + 1) = (L[n]?).getD none := by unfold nd; simp
theorem nd_zero (L : List Nd) : nd L 0 = none := rfl

/-- What a pair reads as, as a key. -/
def keyL (p : Nat × Nat) : Lit := .string (keyBytes [.int .i64 (p.1 : Int), .int .i64 (p.2 : Int)])

/-- The map's datum tells the ands. -/
def Told (D : DataW Unit) (L : List Nd) : Prop :=
  Maps.IsMap D ∧ ∀ p : Nat × Nat, p.1 < 1000000 → p.2 < 1000000 → (∀ n, look L p = some n → Maps.has D (keyL p) = true ∧ D.atKey (keyL p) (.lit (.int .i64 0)) = .lit (.int .i64 ((2 * (n + 1) : Nat) : Int))) ∧ (look L p = none → Maps.has D (keyL p) = false)

theorem filterMap_same {α β : Type} {f g : α → Option β} : ∀ {l : List α}, (∀ x ∈ l, f x = g x) → l.filterMap f = l.filterMap g
  | [], _ => rfl
  | x :: l, h => by rw [List.filterMap_cons, List.filterMap_cons, h x (by simp), filterMap_same fun y hy => h y (by simp [hy])]
/-- The edges of the inputs, in order. -/
def inE (L : List Nd) : List Int := (List.range L.length).filterMap fun (i : Nat) => if L[i]? = some none then some (2 * ((i : Int) + 1)) else none
theorem inE_snoc (L : List Nd) (d : Nd) : inE (L ++ [d]) = inE L ++ if d.isNone then [2 * ((L.length : Int) + 1)] else [] := by
  unfold inE
  rw [List.length_append, List.length_singleton, List.range_succ, List.filterMap_append]
  congr 1
  · refine filterMap_same fun i hi => ?_
    rw [List.getElem?_append_left (by simpa using hi)]
  · cases d <;> simp
theorem snoc_ind {α : Type} {p : List α → Prop} (h0 : p []) (h1 : ∀ l x, p l → p (l ++ [x])) (l : List α) : p l := by
  have : ∀ r : List α, p r.reverse := fun r => by
    induction r with
    | nil => exact h0
    | cons x r ih => rw [List.reverse_cons]; exact h1 _ _ ih
  have := this l.reverse
  rwa [List.reverse_reverse] at this
theorem inE_len (L : List Nd) : (inE L).length = ins L := by
  refine snoc_ind (p := fun L => (inE L).length = ins L) rfl (fun L d ih => ?_) L
  · show _ = _
    rw [inE_snoc, ins_snoc, List.length_append, show (inE L).length = ins L from ih]; cases d <;> rfl
/-- The first k of them. -/
structure InOk (L : List Nd) (k : Nat) (xs : List Int) : Prop where
  len : xs.length = k
  eq : xs = (inE L).take k
theorem InOk.nil : InOk [] 0 [] := ⟨rfl, rfl⟩
theorem InOk.le {L : List Nd} {k : Nat} {xs : List Int} (h : InOk L k xs) : k ≤ (inE L).length := by
  have := h.len; rw [h.eq, List.length_take] at this; omega
theorem InOk.snoc {L : List Nd} {k : Nat} {xs : List Int} (h : InOk L k xs) (d : Nd) : InOk (L ++ [d]) k xs :=
  ⟨h.len, by rw [inE_snoc, List.take_append_of_le_length h.le]; exact h.eq⟩
theorem InOk.push {L : List Nd} {k : Nat} {xs : List Int} (h : InOk L k xs) {x : Int} (hx : (inE L)[k]? = some x) : InOk L (k + 1) (xs ++ [x]) :=
  ⟨by rw [List.length_append, h.len]; rfl, by rw [List.take_add_one, hx, ← h.eq]; rfl⟩

/-- The nodes are those of L, the map tells the ands of M, there are k inputs. -/
structure RepX (w : World) (G : Loc) (L M : List Nd) (k : Nat) : Prop where
  head : RowAt w G.h 73 3 (headF G)
  nodes : w.ownsRow 0 69 2 G.nv (L.length + 1) (nodeC L)
  map : ∃ D, w.ownsMap Try.prog 69 (plainElem Try.prog 3) G.b M.length D ∧ Told D M
  inps : ∃ xs : List Int, InOk L k xs ∧ w.ownsRow 0 3 1 G.iv k (xs.map (Value.int .i64))
  hb : G.h ≠ G.b
  hn : G.nv.ownBlock ≠ some G.h
  hi : G.iv.ownBlock ≠ some G.h
  bn : G.nv.ownBlock ≠ some G.b
  bi : G.iv.ownBlock ≠ some G.b
  ni : ∀ k, G.nv.ownBlock = some k → G.iv.ownBlock ≠ some k

abbrev Rep (w : World) (G : Loc) (L : List Nd) : Prop := RepX w G L L (ins L)

theorem owns_of_heap {w w' : World} {base : Nat} {e : TypeId} {size : Nat} {v : Value} {n : Nat} {xs : List Value} (h : w.ownsRow base e size v n xs) (hb : ∀ g, v.ownBlock = some g → w'.heap[g]? = w.heap[g]?) : w'.ownsRow base e size v n xs := by
  obtain ⟨h1, h2⟩ := h
  refine ⟨h1, ?_⟩
  rcases h2 with h2 | ⟨g, cap, cur, rfl, h3, h4, h5⟩
  · exact Or.inl h2
  · exact Or.inr ⟨g, cap, cur, rfl, h3, (hb g rfl).trans h4, h5⟩
theorem map_of_heap {w w' : World} {P : Program} {k : TypeId} {R : Value → Option (DataW Unit × List MemPlace)} {b n : Nat} {D : DataW Unit} (h : w.ownsMap P k R b n D) (e : w'.heap[b]? = w.heap[b]?) : w'.ownsMap P k R b n D := by
  obtain ⟨es, clock, hb, r⟩ := h
  exact ⟨es, clock, e.trans hb, r⟩

theorem RepX.of_heap {w w' : World} {G : Loc} {L M : List Nd} {j : Nat} (h : RepX w G L M j) (e : ∀ k, G.has k → w'.heap[k]? = w.heap[k]?) : RepX w' G L M j := by
  obtain ⟨D, m1, m2⟩ := h.map
  obtain ⟨xs, x1, x2⟩ := h.inps
  exact { h with
    head := h.head.of_heap (e _ (Or.inl rfl))
    nodes := owns_of_heap h.nodes fun g hg => e g (Or.inr (Or.inr (Or.inl hg)))
    map := ⟨D, map_of_heap m1 (e _ (Or.inr (Or.inl rfl))), m2⟩
    inps := ⟨xs, x1, owns_of_heap x2 fun g hg => e g (Or.inr (Or.inr (Or.inr hg)))⟩ }
theorem RepX.lt {w : World} {G : Loc} {L M : List Nd} {j : Nat} (h : RepX w G L M j) : ∀ k, G.has k → k < w.heap.size := by
  intro k hk
  rcases hk with rfl | rfl | hk | hk
  · exact h.head.lt
  · obtain ⟨D, m1, _⟩ := h.map; exact m1.lt
  · exact (h.nodes.lt k hk).2
  · obtain ⟨xs, _, x2⟩ := h.inps; exact (x2.lt k hk).2
theorem RepX.drewN {w : World} {G : Loc} {L M : List Nd} {j : Nat} (h : RepX w G L M j) (q : Nat) : RepX (w.drewN q) G L M j := h.of_heap fun _ _ => rfl
theorem RepX.below {w w' : World} {G : Loc} {L M : List Nd} {j : Nat} {B : Nat} (h : RepX w G L M j) (hb : Below B w w') (hB : w.heap.size ≤ B) : RepX w' G L M j := h.of_heap fun k hk => hb.block k (Nat.lt_of_lt_of_le (h.lt k hk) hB)

/-- What a call leaves: of the blocks that were there the graph's alone may have turned; what is the graph's now was so, or is new. -/
structure Fr (G : Loc) (w w' : World) (G' : Loc) : Prop where
  h : G'.h = G.h
  os : w'.os = w.os
  tape : w'.tape = w.tape
  output : w'.output = w.output
  size : w.heap.size ≤ w'.heap.size
  block : ∀ k, k < w.heap.size → ¬ G.has k → w'.heap[k]? = w.heap[k]?
  own : ∀ k, G'.has k → G.has k ∨ w.heap.size ≤ k

theorem Fr.refl (G : Loc) (w : World) : Fr G w w G := ⟨rfl, rfl, rfl, rfl, Nat.le_refl _, fun _ _ _ => rfl, fun _ h => Or.inl h⟩
theorem Fr.trans {G G' G'' : Loc} {w w' w'' : World} (a : Fr G w w' G') (b : Fr G' w' w'' G'') : Fr G w w'' G'' :=
  ⟨b.h.trans a.h, b.os.trans a.os, b.tape.trans a.tape, b.output.trans a.output, Nat.le_trans a.size b.size,
    fun k hk hn => (b.block k (Nat.lt_of_lt_of_le hk a.size) (fun q => (a.own k q).elim hn (fun r => by omega))).trans (a.block k hk hn),
    fun k hk => (b.own k hk).elim (fun q => a.own k q) (fun q => Or.inr (Nat.le_trans a.size q))⟩
theorem Fr.drewN {G G' : Loc} {w w' : World} (a : Fr G w w' G') (q : Nat) : Fr G w (w'.drewN q) G' := ⟨a.h, a.os, a.tape, a.output, a.size, a.block, a.own⟩
theorem Fr.ofBelow {G : Loc} {w w' : World} (a : Below w.heap.size w w') : Fr G w w' G := ⟨rfl, a.os, a.tape, a.output, a.size, fun k hk _ => a.block k hk, fun _ h => Or.inl h⟩
theorem Fr.below {G G' : Loc} {w w' : World} (a : Fr G w w' G') {B : Nat} (hB : B ≤ w.heap.size) (hG : ∀ k, G.has k → B ≤ k) : Below B w w' :=
  ⟨a.os, a.tape, a.output, a.size, fun k hk => a.block k (by omega) fun q => by have := hG k q; omega⟩
theorem Fr.from {G G' : Loc} {w w' : World} (a : Fr G w w' G') {B : Nat} (hB : B ≤ w.heap.size) (hG : ∀ k, G.has k → B ≤ k) : ∀ k, G'.has k → B ≤ k :=
  fun k hk => (a.own k hk).elim (hG k) fun q => by omega

/-! ### Loads -/
theorem RepX.c0 {w : World} {G : Loc} {L M : List Nd} {j : Nat} (h : RepX w G L M j) : w.cell? ⟨G.h, 0, none⟩ = some G.nv := h.head.cell (i := 0) (by omega)
theorem RepX.c1 {w : World} {G : Loc} {L M : List Nd} {j : Nat} (h : RepX w G L M j) : w.cell? ⟨G.h, 1, none⟩ = some (.map (some G.b)) := h.head.cell (i := 1) (by omega)
theorem RepX.c2 {w : World} {G : Loc} {L M : List Nd} {j : Nat} (h : RepX w G L M j) : w.cell? ⟨G.h, 2, none⟩ = some G.iv := h.head.cell (i := 2) (by omega)
theorem own_form {w : World} {base : Nat} {e : TypeId} {size : Nat} {v : Value} {n : Nat} {xs : List Value} (h : w.ownsRow base e size v n xs) : ∃ a c, v = .slice a n c ∧ n ≤ c ∧ c ≤ maxLen ∧ (a = none → n = 0 ∧ c = 0) ∧ ∀ ad, a = some ad → ad.off = 0 ∧ ad.spot = none := by
  rcases h.2 with ⟨rfl, rfl⟩ | ⟨g, cap, cur, rfl, _, _, h5, h6, _⟩
  · exact ⟨none, 0, rfl, Nat.le_refl _, Nat.zero_le _, fun _ => ⟨rfl, rfl⟩, fun _ h => by cases h⟩
  · exact ⟨some ⟨g, 0, none⟩, cap, rfl, h5, h6, fun h => by (cases h), fun ad h => by cases h; exact ⟨rfl, rfl⟩⟩
theorem own_cell {w : World} {base : Nat} {e : TypeId} {size : Nat} {g n c : Nat} {xs : List Value} (h : w.ownsRow base e size (.slice (some ⟨g, 0, none⟩) n c) n xs) {j : Nat} {u : Value} (hj : xs[j]? = some u) : w.cell? ⟨g, j, none⟩ = some u := by
  rcases h.2 with ⟨e, _⟩ | ⟨g', cap, cur, e, _, hb, h5, h6, h7, h8⟩
  · cases e
  · simp only [Value.slice.injEq, Option.some.injEq, Addr.mk.injEq, and_true, true_and] at e
    obtain ⟨rfl, rfl⟩ := e
    simp only [World.cell?, hb]
    rw [← h8] at hj
    rw [List.getElem?_take] at hj
    split at hj
    · simpa using hj
    · cases hj
theorem own_free {w : World} {base : Nat} {e : TypeId} {size : Nat} {g n c : Nat} {xs : List Value} (h : w.ownsRow base e size (.slice (some ⟨g, 0, none⟩) n c) n xs) (j : Nat) : w.frozen? ⟨g, j, none⟩ = false := by
  rcases h.2 with ⟨e, _⟩ | ⟨g', cap, cur, e, _, hb, _⟩
  · cases e
  · simp only [Value.slice.injEq, Option.some.injEq, Addr.mk.injEq, and_true, true_and] at e
    obtain ⟨rfl, rfl⟩ := e
    simp [World.frozen?, hb]

/-- The nodes: their slice written out; each node's two cells. -/
theorem RepX.node {w : World} {G : Loc} {L M : List Nd} {j : Nat} (h : RepX w G L M j) : ∃ g c, G.nv = .slice (some ⟨g, 0, none⟩) (L.length + 1) c ∧ L.length + 1 ≤ c ∧ ∀ n, n < L.length + 1 → w.cell? ⟨g, n * 2, none⟩ = some (.int .i64 (lo (nd L n) : Int)) ∧ w.cell? ⟨g, n * 2 + 1, none⟩ = some (.int .i64 (Gr.hi (nd L n) : Int)) := by
  obtain ⟨g, c, e, _, _⟩ := h.nodes.form (by omega)
  have hn := h.nodes
  rw [e] at hn
  obtain ⟨a', c', e', hc, _⟩ := own_form hn
  simp only [Value.slice.injEq] at e'
  refine ⟨g, c, e, by omega, fun n hn' => ?_⟩
  have := flat_get (none :: L) n _ (nd_get hn')
  exact ⟨own_cell hn this.1, own_cell hn this.2⟩

/-! ### The map -/
theorem lawPair : Keyed Try.prog 69 := Keyed.of_law (deep_law_laid (by kernel_rfl) (m := 2) (by omega) (of_decide_eq_true (by kernel_rfl)) (by kernel_rfl) (by rw [Try.underlying69]))
theorem wf_i {x : Int} (h : -9223372036854775808 ≤ x ∧ x ≤ 9223372036854775807) : (Lit.int .i64 x).wf = true := WalkArith.wf_i64 h
theorem key_pair {p : Nat × Nat} (h1 : p.1 < 1000000) (h2 : p.2 < 1000000) : keyOf Try.prog 69 (.agg #[.int .i64 (p.1 : Int), .int .i64 (p.2 : Int)]) = some (keyL p) := by
  have w1 : (Lit.int .i64 (p.1 : Int)).wf = true := wf_i (by omega)
  have w2 : (Lit.int .i64 (p.2 : Int)).wf = true := wf_i (by omega)
  have hk : Try.prog.keyType 69 = true := by kernel_rfl
  have hc : Try.prog.cellsOf 69 = 2 := by kernel_rfl
  have hi1 : Try.prog.cellsOf 3 = 1 := by kernel_rfl
  have hpos : 0 < Try.prog.types.size := of_decide_eq_true (by kernel_rfl)
  obtain ⟨m, hm⟩ : ∃ m, Try.prog.types.size = m + 1 := ⟨Try.prog.types.size - 1, by omega⟩
  unfold keyOf
  simp only [Try.underlying69]
  rw [if_pos (by simp [hk, Value.formed, Try.underlying69, hc]), hm]
  unfold Program.keyLits
  simp only [Try.underlying69, Value.cells]
  rw [if_pos (by rw [hc]; simp)]
  simp [hi1, Program.keyLits, Try.underlying3, w1, w2, keyL]
theorem keyL_inj {p q : Nat × Nat} (h1 : p.1 < 1000000) (h2 : p.2 < 1000000) (k1 : q.1 < 1000000) (k2 : q.2 < 1000000) (e : keyL p = keyL q) : p = q := by
  have := lawPair.inj (key_pair h1 h2) (by rw [e]; exact key_pair k1 k2)
  simp only [Value.agg.injEq, Array.mk.injEq, List.cons.injEq, Value.int.injEq, true_and, and_true] at this
  obtain ⟨a, b⟩ := this
  exact Prod.ext (by omega) (by omega)

theorem look_snoc_none (L : List Nd) (p : Nat × Nat) : look (L ++ [none]) p = look L p := by
  cases e : look L p with
  | some n =>
    unfold look at e ⊢
    rw [List.findIdx?_append, e]; rfl
  | none =>
    refine look_no fun n hn => ?_
    rcases get_snoc hn with h | ⟨_, h⟩
    · exact look_none e n h
    · cases h
theorem look_snoc {L : List Nd} {q : Nat × Nat} (hq : look L q = none) (p : Nat × Nat) : look (L ++ [some q]) p = if p = q then some L.length else look L p := by
  unfold look at hq ⊢
  rw [List.findIdx?_append]
  by_cases e : p = q
  · subst e
    rw [if_pos rfl, hq]
    simp
  · rw [if_neg e]
    cases he : L.findIdx? (fun d => d == some p) with
    | some n => rfl
    | none =>
      have : (q == p) = false := by simpa using Ne.symm e
      simp [this]
theorem Told.input {D : DataW Unit} {L : List Nd} (h : Told D L) : Told D (L ++ [none]) := ⟨h.1, fun p h1 h2 => by rw [look_snoc_none]; exact h.2 p h1 h2⟩
theorem Told.put {D : DataW Unit} {L : List Nd} (h : Told D L) {q : Nat × Nat} (hq : look L q = none) (k1 : q.1 < 1000000) (k2 : q.2 < 1000000) : Told (D.put (keyL q) (.lit (.int .i64 ((2 * (L.length + 1) : Nat) : Int)))) (L ++ [some q]) := by
  obtain ⟨hm, hk⟩ := h
  refine ⟨?_, fun p h1 h2 => ?_⟩
  · obtain ⟨es, rfl⟩ := hm; exact ⟨_, rfl⟩
  · rw [look_snoc hq]
    by_cases e : p = q
    · subst e
      rw [if_pos rfl]
      refine ⟨fun n hn => ?_, fun hn => by cases hn⟩
      obtain rfl : L.length = n := Option.some.inj hn
      exact ⟨Maps.has_put_same hm (by exact True.intro) _, Maps.atKey_put_same hm (by exact True.intro) _ _⟩
    · rw [if_neg e]
      have hne : keyL p ≠ keyL q := fun z => e (keyL_inj h1 h2 k1 k2 z)
      rw [Maps.has_put_other hne, Maps.atKey_put_other hne]
      exact hk p h1 h2
theorem RepX.asInput {w : World} {G : Loc} {L M : List Nd} {j : Nat} (h : RepX w G L M j) : RepX w G L (M ++ [none]) j := by
  obtain ⟨D, m1, m2⟩ := h.map
  exact { h with map := ⟨D, m1.mono (by simp), m2.input⟩ }
theorem Told.nil : Told (.map []) [] := ⟨⟨_, rfl⟩, fun p _ _ => ⟨fun n h => by (simp [look] at h), fun _ => rfl⟩⟩

theorem RepX.alloc {w : World} {G : Loc} {L M : List Nd} {j : Nat} (h : RepX w G L M j) (o : Obj) : RepX (w.alloc o) G L M j := h.of_heap fun k hk => Below.heap_alloc _ _ _ (h.lt k hk)
theorem RepX.drew {w : World} {G : Loc} {L M : List Nd} {j : Nat} (h : RepX w G L M j) : RepX w.drew G L M j := h.of_heap fun _ _ => rfl
theorem Fr.alloc (G : Loc) (w : World) (o : Obj) : Fr G w (w.alloc o) G := Fr.ofBelow ((Below.refl _ _).alloc (Nat.le_refl _) o)
theorem Fr.drew (G : Loc) (w : World) : Fr G w w.drew G := ⟨rfl, rfl, rfl, rfl, Nat.le_refl _, fun _ _ _ => rfl, fun _ h => Or.inl h⟩

/-! ### What an append and a store into the map leave -/
theorem headF_nv {G : Loc} {v : Value} (i : Nat) : upd (headF G) 0 v i = headF { G with nv := v } i := by
  match i with | 0 => rfl | 1 => rfl | i + 2 => rfl
theorem headF_iv {G : Loc} {v : Value} {i : Nat} (hi : i < 3) : upd (headF G) 2 v i = headF { G with iv := v } i := by
  match i, hi with | 0, _ => rfl | 1, _ => rfl | 2, _ => rfl

theorem RepX.push {w w3 : World} {G : Loc} {L M : List Nd} {j : Nat} {d : Nd} {g cap : Nat} (h : RepX w G L M j) (hgrow : w.grownBy w3 G.nv.ownBlock) (hat : G.nv.ownBlock = some g ∨ w.heap.size ≤ g)
    (hown : w3.ownsRow 0 69 2 (.slice (some ⟨g, 0, none⟩) (L.length + 1 + 1) cap) (L.length + 1 + 1) (nodeC L ++ pairC d)) :
    RepX (w3.setCell ⟨G.h, 0, none⟩ (.slice (some ⟨g, 0, none⟩) (L.length + 1 + 1) cap)) { G with nv := .slice (some ⟨g, 0, none⟩) (L.length + 1 + 1) cap } (L ++ [d]) M j ∧
      Fr G w (w3.setCell ⟨G.h, 0, none⟩ (.slice (some ⟨g, 0, none⟩) (L.length + 1 + 1) cap)) { G with nv := .slice (some ⟨g, 0, none⟩) (L.length + 1 + 1) cap } := by
  have lt := h.lt
  have gh : g ≠ G.h := fun e => hat.elim (fun q => h.hn (by rw [q, e])) (fun q => by have := lt G.h (Or.inl rfl); omega)
  have gb : g ≠ G.b := fun e => hat.elim (fun q => h.bn (by rw [q, e])) (fun q => by have := lt G.b (Or.inr (Or.inl rfl)); omega)
  have gi : G.iv.ownBlock ≠ some g := fun e => hat.elim (fun q => h.ni g q e) (fun q => by have := lt g (Or.inr (Or.inr (Or.inr e))); omega)
  have hS : ∀ k, k < w.heap.size → k ≠ G.h → G.nv.ownBlock ≠ some k → (w3.setCell ⟨G.h, 0, none⟩ (.slice (some ⟨g, 0, none⟩) (L.length + 1 + 1) cap)).heap[k]? = w.heap[k]? := fun k h1 h2 h3 =>
    (Below.heap_setCell _ _ _ _ h2).trans (hgrow.block k h1 (fun e => h3 e.symm))
  obtain ⟨D, m1, m2⟩ := h.map
  obtain ⟨xs, x1, x2⟩ := h.inps
  have hlen : (L ++ [d]).length = L.length + 1 := by simp
  refine ⟨⟨?_, ?_, ⟨D, ?_, m2⟩, ⟨xs, x1.snoc d, ?_⟩, h.hb, ?_, h.hi, ?_, h.bi, ?_⟩, ⟨rfl, hgrow.os, hgrow.tape, hgrow.output, by simpa [World.setCell] using hgrow.size, fun k hk hn => hS k hk (fun e => hn (Or.inl e)) (fun e => hn (Or.inr (Or.inr (Or.inl e)))), fun k hk => ?_⟩⟩
  · have h3 : RowAt w3 G.h 73 3 (headF G) := h.head.of_heap (hgrow.block _ (lt _ (Or.inl rfl)) (fun e => h.hn e.symm))
    exact (h3.set 0 _).congr fun i _ => headF_nv i
  · rw [hlen, nodeC_snoc]
    exact owns_of_heap hown fun k hk => Below.heap_setCell _ _ _ _ (fun e => gh (by simp [Value.ownBlock] at hk; exact hk.trans e))
  · exact map_of_heap m1 (hS _ (lt _ (Or.inr (Or.inl rfl))) h.hb.symm h.bn)
  · exact owns_of_heap x2 fun k hk => hS k (lt k (Or.inr (Or.inr (Or.inr hk)))) (fun e => h.hi (by rw [hk, e])) (fun e => h.ni k e hk)
  · simpa [Value.ownBlock] using gh
  · simpa [Value.ownBlock] using gb
  · intro k hk
    have : g = k := by simpa [Value.ownBlock] using hk
    rw [← this]; exact gi
  · rcases hk with hk | hk | hk | hk
    · exact Or.inl (Or.inl hk)
    · exact Or.inl (Or.inr (Or.inl hk))
    · have : g = k := by simpa [Value.ownBlock] using hk
      subst this
      exact hat.imp (fun q => Or.inr (Or.inr (Or.inl q))) id
    · exact Or.inl (Or.inr (Or.inr (Or.inr hk)))

theorem RepX.pushIn {w w3 : World} {G : Loc} {L M : List Nd} {j : Nat} {x : Int} {xs : List Int} {g cap : Nat} (h : RepX w G L M j) (hx : InOk L j xs) (hx2 : (inE L)[j]? = some x) (hgrow : w.grownBy w3 G.iv.ownBlock) (hat : G.iv.ownBlock = some g ∨ w.heap.size ≤ g)
    (hown : w3.ownsRow 0 3 1 (.slice (some ⟨g, 0, none⟩) (j + 1) cap) (j + 1) (xs.map (Value.int .i64) ++ [.int .i64 x])) :
    RepX (w3.setCell ⟨G.h, 2, none⟩ (.slice (some ⟨g, 0, none⟩) (j + 1) cap)) { G with iv := .slice (some ⟨g, 0, none⟩) (j + 1) cap } L M (j + 1) ∧
      Fr G w (w3.setCell ⟨G.h, 2, none⟩ (.slice (some ⟨g, 0, none⟩) (j + 1) cap)) { G with iv := .slice (some ⟨g, 0, none⟩) (j + 1) cap } := by
  have lt := h.lt
  have gh : g ≠ G.h := fun e => hat.elim (fun q => h.hi (by rw [q, e])) (fun q => by have := lt G.h (Or.inl rfl); omega)
  have gb : g ≠ G.b := fun e => hat.elim (fun q => h.bi (by rw [q, e])) (fun q => by have := lt G.b (Or.inr (Or.inl rfl)); omega)
  have gi : G.nv.ownBlock ≠ some g := fun e => hat.elim (fun q => h.ni g e q) (fun q => by have := lt g (Or.inr (Or.inr (Or.inl e))); omega)
  have hS : ∀ k, k < w.heap.size → k ≠ G.h → G.iv.ownBlock ≠ some k → (w3.setCell ⟨G.h, 2, none⟩ (.slice (some ⟨g, 0, none⟩) (j + 1) cap)).heap[k]? = w.heap[k]? := fun k h1 h2 h3 =>
    (Below.heap_setCell _ _ _ _ h2).trans (hgrow.block k h1 (fun e => h3 e.symm))
  obtain ⟨D, m1, m2⟩ := h.map
  refine ⟨⟨?_, ?_, ⟨D, ?_, m2⟩, ⟨xs ++ [x], hx.push hx2, ?_⟩, h.hb, h.hn, ?_, h.bn, ?_, ?_⟩, ⟨rfl, hgrow.os, hgrow.tape, hgrow.output, by simpa [World.setCell] using hgrow.size, fun k hk hn => hS k hk (fun e => hn (Or.inl e)) (fun e => hn (Or.inr (Or.inr (Or.inr e)))), fun k hk => ?_⟩⟩
  · have h3 : RowAt w3 G.h 73 3 (headF G) := h.head.of_heap (hgrow.block _ (lt _ (Or.inl rfl)) (fun e => h.hi e.symm))
    exact (h3.set 2 _).congr fun i hi => headF_iv hi
  · exact owns_of_heap h.nodes fun k hk => hS k (lt k (Or.inr (Or.inr (Or.inl hk)))) (fun e => h.hn (by rw [hk, e])) (fun e => h.ni k hk e)
  · exact map_of_heap m1 (hS _ (lt _ (Or.inr (Or.inl rfl))) h.hb.symm h.bi)
  · rw [List.map_append]
    exact owns_of_heap hown fun k hk => Below.heap_setCell _ _ _ _ (fun e => gh (by simp [Value.ownBlock] at hk; exact hk.trans e))
  · simpa [Value.ownBlock] using gh
  · simpa [Value.ownBlock] using gb
  · intro k hk e
    have : g = k := by simpa [Value.ownBlock] using e
    subst this; exact gi hk
  · rcases hk with hk | hk | hk | hk
    · exact Or.inl (Or.inl hk)
    · exact Or.inl (Or.inr (Or.inl hk))
    · exact Or.inl (Or.inr (Or.inr (Or.inl hk)))
    · have : g = k := by simpa [Value.ownBlock] using hk
      subst this
      exact hat.imp (fun q => Or.inr (Or.inr (Or.inr q))) id

theorem RepX.putMap {w w3 : World} {G : Loc} {L M M' : List Nd} {j n : Nat} {D' : DataW Unit} (h : RepX w G L M j) (hm : w3.ownsMap Try.prog 69 (plainElem Try.prog 3) G.b n D') (hn : n ≤ M'.length) (hgrow : w.grownBy w3 (some G.b)) (hD : Told D' M') :
    RepX w3 G L M' j ∧ Fr G w w3 G := by
  have lt := h.lt
  obtain ⟨xs, x1, x2⟩ := h.inps
  refine ⟨{ h with head := h.head.of_heap (hgrow.block _ (lt _ (Or.inl rfl)) (fun e => h.hb (by simpa using e))), nodes := owns_of_heap h.nodes fun k hk => hgrow.block k (lt k (Or.inr (Or.inr (Or.inl hk)))) (fun e => h.bn (by rw [hk, e])), map := ⟨D', hm.mono hn, hD⟩, inps := ⟨xs, x1, owns_of_heap x2 fun k hk => hgrow.block k (lt k (Or.inr (Or.inr (Or.inr hk)))) (fun e => h.bi (by rw [hk, e]))⟩ }, ⟨rfl, hgrow.os, hgrow.tape, hgrow.output, hgrow.size, fun k hk hn => hgrow.block k hk (fun e => hn (Or.inr (Or.inl (by simpa using e)))), fun _ q => Or.inl q⟩⟩

/-! ### A look into a map, a store into one, at a step of a region that draws -/
theorem step_lookup {P : Program} {ops : Array Oper} {o : Oper} {a : Act} {K : Act → World → Prop} {Q : Exit → Act → World → Prop} {E : Prop} {w : World} (hgd : o.guard = none) (m x : Operand) (t : TypeId) (hop : o.op = Op.lookup t m x true)
    (mv xv u : Value) (hm : a.eval m = mv) (hx : a.eval x = xv) (hrun : (Instr.lookup t mv xv true).run P w = .ok u w) (hK : K (a.put o.dst u) w) :
    if Region.wanted o (yielded ops a.tmps) = true then Oper.wp P o a w K Q else E := by
  rw [if_pos (by simp [Region.wanted, hgd])]
  unfold Oper.wp
  simp [execOp, hop, hm, hx, hrun, Result.andThen]
  exact hK
theorem step_mapUpdate {P : Program} {ops : Array Oper} {o : Oper} {a : Act} {K : Act → World → Prop} {Q : Exit → Act → World → Prop} {E : Prop} {w w' : World} (hgd : o.guard = none) (m x v : Operand) (t : TypeId) (hop : o.op = Op.mapUpdate t m x v)
    (mv xv vv : Value) (hm : a.eval m = mv) (hx : a.eval x = xv) (hv : a.eval v = vv) (hrun : (Instr.mapUpdate t mv xv vv).run P w = .ok () w') (hK : K (a.put o.dst undef) w') :
    if Region.wanted o (yielded ops a.tmps) = true then Oper.wp P o a w K Q else E := by
  rw [if_pos (by simp [Region.wanted, hgd])]
  unfold Oper.wp
  simp [execOp, hop, hm, hx, hv, hrun, Result.andThen]
  exact hK
end Go.Proofs.Ytbggenilngpjcaa.Gr
