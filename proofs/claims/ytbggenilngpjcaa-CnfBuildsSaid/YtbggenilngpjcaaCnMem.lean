/- The maker in memory: its struct, map and clauses; what changes when a node gets a variable and when clauses come. -/
import Derived.Test.YtbggenilngpjcaaCnPlain
import Derived.Test.YtbggenilngpjcaaGrH
import Derived.Maps.OwnOps
import Derived.Maps.OwnIn
namespace Go.Proofs.Ytbggenilngpjcaa.Cn
open Go Go.RowKit Go.Lib Go.Maps Go.Proofs.Ytbggenilngpjcaa.Gr

/-- Where a maker lies: its struct, its map, its clauses' slice and theirs. -/
structure MLoc where
  h : Nat
  b : Nat
  cv : Value
  rs : List Value

def MLoc.has (M : MLoc) (k : Nat) : Prop := k = M.h ∨ k = M.b ∨ M.cv.ownBlock = some k ∨ ∃ v ∈ M.rs, v.ownBlock = some k

def headM (gh : Nat) (M : MLoc) : Nat → Value
  | 0 => .pointer (some ⟨gh, 0, none⟩)
  | 1 => .map (some M.b)
  | _ => M.cv

/-- A clause in a block of its own. -/
def clV (w : World) (v : Value) (c : List Int) : Prop := ∃ g, v = .slice (some ⟨g, 0, none⟩) c.length c.length ∧ w.heap[g]? = some (.cells (c.map (Value.int .i64)).toArray 3 (0, 0))
theorem clV.of_heap {w w' : World} {v : Value} {c : List Int} (h : clV w v c) (e : ∀ k, v.ownBlock = some k → w'.heap[k]? = w.heap[k]?) : clV w' v c := by
  obtain ⟨g, rfl, h2⟩ := h; exact ⟨g, rfl, (e g rfl).trans h2⟩
theorem clV.lt {w : World} {v : Value} {c : List Int} (h : clV w v c) {k : Nat} (hk : v.ownBlock = some k) : k < w.heap.size := by
  obtain ⟨g, rfl, h2⟩ := h
  have : g = k := by simpa [Value.ownBlock] using hk
  subst this; exact lt_of_block h2
/-- Clauses, each in a block of its own. -/
def Cls (w : World) (rs : List Value) (cs : List (List Int)) : Prop := rs.length = cs.length ∧ ∀ (i : Nat) v c, rs[i]? = some v → cs[i]? = some c → clV w v c
theorem Cls.of_heap {w w' : World} {rs : List Value} {cs : List (List Int)} (h : Cls w rs cs) (e : ∀ v ∈ rs, ∀ k, v.ownBlock = some k → w'.heap[k]? = w.heap[k]?) : Cls w' rs cs :=
  ⟨h.1, fun i v c h1 h2 => (h.2 i v c h1 h2).of_heap fun k hk => e v (List.mem_of_getElem? h1) k hk⟩
theorem Cls.lt {w : World} {rs : List Value} {cs : List (List Int)} (h : Cls w rs cs) {v : Value} (hv : v ∈ rs) {k : Nat} (hk : v.ownBlock = some k) : k < w.heap.size := by
  obtain ⟨i, hi⟩ := List.getElem?_of_mem hv
  have hl := (List.getElem?_eq_some_iff.1 hi).1
  have hl2 : i < cs.length := by rw [← h.1]; exact hl
  exact (h.2 i v cs[i] hi (List.getElem?_eq_getElem hl2)).lt hk
theorem Cls.nil (w : World) : Cls w [] [] := ⟨rfl, fun i v c h => by simp at h⟩
theorem Cls.append {w : World} {rs qs : List Value} {cs ds : List (List Int)} (h : Cls w rs cs) (k : Cls w qs ds) : Cls w (rs ++ qs) (cs ++ ds) := by
  refine ⟨by rw [List.length_append, List.length_append, h.1, k.1], fun i v c h1 h2 => ?_⟩
  by_cases e : i < rs.length
  · rw [List.getElem?_append_left e] at h1
    rw [List.getElem?_append_left (by rw [← h.1]; exact e)] at h2
    exact h.2 i v c h1 h2
  · rw [List.getElem?_append_right (by omega)] at h1
    rw [List.getElem?_append_right (by rw [← h.1]; omega), ← h.1] at h2
    exact k.2 _ v c h1 h2

/-- The map's datum tells the variables. -/
def kN (n : Nat) : Go.Lit := .int .i64 (n : Int)
def ToldM (D : DataW Unit) (vs : List Nat) : Prop :=
  Maps.Tidy D ∧ Maps.size D = vs.length ∧ ∀ n, Maps.has D (kN n) = decide (n ∈ vs) ∧ D.atKey (kN n) (.lit (.int .i64 0)) = .lit (.int .i64 (var vs n : Int))
theorem kN_inj {n k : Nat} (h : kN n = kN k) : n = k := by
  have : (n : Int) = (k : Int) := by simpa [kN] using h
  omega
theorem ToldM.put {D : DataW Unit} {vs : List Nat} (h : ToldM D vs) {n : Nat} (hn : n ∉ vs) : ToldM (D.put (kN n) (.lit (.int .i64 ((vs.length + 1 : Nat) : Int)))) (vs ++ [n]) := by
  obtain ⟨ht, hs, hk⟩ := h
  refine ⟨ht.put (by exact True.intro) _, ?_, fun k => ?_⟩
  · rw [Maps.size_put ht, (hk n).1, hs]; simp [hn]
  · by_cases e : k = n
    · subst e
      rw [Maps.has_put_same ht.isMap (by exact True.intro), Maps.atKey_put_same ht.isMap (by exact True.intro), var_snoc hn]
      exact ⟨by simp, rfl⟩
    · have hne : kN k ≠ kN n := fun z => e (kN_inj z)
      rw [Maps.has_put_other hne, Maps.atKey_put_other hne, var_snoc_ne e, (hk k).1, (hk k).2]
      exact ⟨by simp [e], rfl⟩
theorem ToldM.nil : ToldM (.map []) [] := ⟨Maps.tidy_empty, rfl, fun n => ⟨by simp [Maps.has_eq], by simp [var]; rfl⟩⟩

/-- The maker's nodes and clauses are those of S. -/
structure MRep (w : World) (gh : Nat) (M : MLoc) (S : Mk) : Prop where
  head : RowAt w M.h 65 3 (headM gh M)
  map : ∃ D, w.ownsMap Try.prog 3 (plainElem Try.prog 3) M.b S.vs.length D ∧ ToldM D S.vs
  rows : w.ownsRow 0 26 1 M.cv S.cs.length M.rs
  each : Cls w M.rs S.cs
  hb : M.h ≠ M.b
  hc : M.cv.ownBlock ≠ some M.h
  bc : M.cv.ownBlock ≠ some M.b
  hr : ∀ v ∈ M.rs, v.ownBlock ≠ some M.h
  br : ∀ v ∈ M.rs, v.ownBlock ≠ some M.b
  cr : ∀ v ∈ M.rs, ∀ k, v.ownBlock = some k → M.cv.ownBlock ≠ some k

theorem MRep.of_heap {w w' : World} {gh : Nat} {M : MLoc} {S : Mk} (h : MRep w gh M S) (e : ∀ k, M.has k → w'.heap[k]? = w.heap[k]?) : MRep w' gh M S := by
  obtain ⟨D, m1, m2⟩ := h.map
  exact { h with
    head := h.head.of_heap (e _ (Or.inl rfl))
    map := ⟨D, map_of_heap m1 (e _ (Or.inr (Or.inl rfl))), m2⟩
    rows := owns_of_heap h.rows fun g hg => e g (Or.inr (Or.inr (Or.inl hg)))
    each := h.each.of_heap fun v hv k hk => e k (Or.inr (Or.inr (Or.inr ⟨v, hv, hk⟩))) }
theorem MRep.lt {w : World} {gh : Nat} {M : MLoc} {S : Mk} (h : MRep w gh M S) : ∀ k, M.has k → k < w.heap.size := by
  intro k hk
  rcases hk with rfl | rfl | hk | ⟨v, hv, hk⟩
  · exact h.head.lt
  · obtain ⟨D, m1, _⟩ := h.map; exact m1.lt
  · exact (h.rows.lt k hk).2
  · exact h.each.lt hv hk
theorem MRep.drewN {w : World} {gh : Nat} {M : MLoc} {S : Mk} (h : MRep w gh M S) (q : Nat) : MRep (w.drewN q) gh M S := h.of_heap fun _ _ => rfl
theorem MRep.drew {w : World} {gh : Nat} {M : MLoc} {S : Mk} (h : MRep w gh M S) : MRep w.drew gh M S := h.of_heap fun _ _ => rfl
theorem MRep.alloc {w : World} {gh : Nat} {M : MLoc} {S : Mk} (h : MRep w gh M S) (o : Obj) : MRep (w.alloc o) gh M S := h.of_heap fun k hk => Below.heap_alloc _ _ _ (h.lt k hk)
theorem MRep.below {w w' : World} {gh : Nat} {M : MLoc} {S : Mk} (h : MRep w gh M S) (hb : Below w.heap.size w w') : MRep w' gh M S := h.of_heap fun k hk => hb.block k (h.lt k hk)
theorem MRep.c0 {w : World} {gh : Nat} {M : MLoc} {S : Mk} (h : MRep w gh M S) : w.cell? ⟨M.h, 0, none⟩ = some (.pointer (some ⟨gh, 0, none⟩)) := h.head.cell (i := 0) (by omega)
theorem MRep.c1 {w : World} {gh : Nat} {M : MLoc} {S : Mk} (h : MRep w gh M S) : w.cell? ⟨M.h, 1, none⟩ = some (.map (some M.b)) := h.head.cell (i := 1) (by omega)
theorem MRep.c2 {w : World} {gh : Nat} {M : MLoc} {S : Mk} (h : MRep w gh M S) : w.cell? ⟨M.h, 2, none⟩ = some M.cv := h.head.cell (i := 2) (by omega)

/-- What a call leaves: of the blocks that were there the maker's alone may have turned; what is the maker's now was so, or is new. -/
structure MFr (M : MLoc) (w w' : World) (M' : MLoc) : Prop where
  h : M'.h = M.h
  os : w'.os = w.os
  tape : w'.tape = w.tape
  output : w'.output = w.output
  size : w.heap.size ≤ w'.heap.size
  block : ∀ k, k < w.heap.size → ¬ M.has k → w'.heap[k]? = w.heap[k]?
  own : ∀ k, M'.has k → M.has k ∨ w.heap.size ≤ k
theorem MFr.refl (M : MLoc) (w : World) : MFr M w w M := ⟨rfl, rfl, rfl, rfl, Nat.le_refl _, fun _ _ _ => rfl, fun _ h => Or.inl h⟩
theorem MFr.trans {M M' M'' : MLoc} {w w' w'' : World} (a : MFr M w w' M') (b : MFr M' w' w'' M'') : MFr M w w'' M'' :=
  ⟨b.h.trans a.h, b.os.trans a.os, b.tape.trans a.tape, b.output.trans a.output, Nat.le_trans a.size b.size,
    fun k hk hn => (b.block k (Nat.lt_of_lt_of_le hk a.size) (fun q => (a.own k q).elim hn (fun r => by omega))).trans (a.block k hk hn),
    fun k hk => (b.own k hk).elim (fun q => a.own k q) (fun q => Or.inr (Nat.le_trans a.size q))⟩
theorem MFr.ofBelow {M : MLoc} {w w' : World} (a : Below w.heap.size w w') : MFr M w w' M := ⟨rfl, a.os, a.tape, a.output, a.size, fun k hk _ => a.block k hk, fun _ h => Or.inl h⟩
theorem MFr.drewN {M M' : MLoc} {w w' : World} (a : MFr M w w' M') (q : Nat) : MFr M w (w'.drewN q) M' := ⟨a.h, a.os, a.tape, a.output, a.size, a.block, a.own⟩
theorem MFr.below {M M' : MLoc} {w w' : World} (a : MFr M w w' M') {B : Nat} (hB : B ≤ w.heap.size) (hM : ∀ k, M.has k → B ≤ k) : Below B w w' :=
  ⟨a.os, a.tape, a.output, a.size, fun k hk => a.block k (by omega) fun q => by have := hM k q; omega⟩
theorem MFr.from {M M' : MLoc} {w w' : World} (a : MFr M w w' M') {B : Nat} (hB : B ≤ w.heap.size) (hM : ∀ k, M.has k → B ≤ k) : ∀ k, M'.has k → B ≤ k :=
  fun k hk => (a.own k hk).elim (hM k) fun q => by omega

/-- A graph and its maker, apart. -/
structure Both (w : World) (G : Gr.Loc) (L : List Nd) (M : MLoc) (S : Mk) : Prop where
  g : Rep w G L
  m : MRep w G.h M S
  wf : Wf L
  ok : Ok L S.vs
  apart : ∀ k, M.has k → ¬ G.has k
theorem Both.mk' {w w' : World} {G : Gr.Loc} {L : List Nd} {M M' : MLoc} {S S' : Mk} (h : Both w G L M S) (hf : MFr M w w' M') (hm : MRep w' G.h M' S') (ho : Ok L S'.vs) : Both w' G L M' S' :=
  ⟨h.g.of_heap fun k hk => hf.block k (h.g.lt k hk) fun q => h.apart k q hk, hm, h.wf, ho, fun k hk q => (hf.own k hk).elim (fun r => h.apart k r q) fun r => by have := h.g.lt k q; omega⟩
theorem Both.below {w w' : World} {G : Gr.Loc} {L : List Nd} {M : MLoc} {S : Mk} (h : Both w G L M S) (hb : Below w.heap.size w w') : Both w' G L M S :=
  ⟨h.g.below hb (Nat.le_refl _), h.m.below hb, h.wf, h.ok, h.apart⟩
theorem Both.drewN {w : World} {G : Gr.Loc} {L : List Nd} {M : MLoc} {S : Mk} (h : Both w G L M S) (q : Nat) : Both (w.drewN q) G L M S := ⟨h.g.drewN q, h.m.drewN q, h.wf, h.ok, h.apart⟩
/-- The graph has grown. -/
theorem Both.grow {w w' : World} {G G' : Gr.Loc} {L X : List Nd} {M : MLoc} {S : Mk} (h : Both w G L M S) (hr : Rep w' G' (L ++ X)) (hf : Fr G w w' G') (hw : Wf (L ++ X)) : Both w' G' (L ++ X) M S :=
  ⟨hr, by rw [hf.h]; exact h.m.of_heap fun k hk => hf.block k (h.m.lt k hk) (h.apart k hk), hw, h.ok.grow X, fun k hk q => (hf.own k q).elim (h.apart k hk) fun r => by have := h.m.lt k hk; omega⟩

/-! ### What the map answers -/
theorem lawInt : Keyed Try.prog 3 := int_keyed Try.underlying3
theorem infoInt : (Try.prog.info? 3).map (fun i => (i.zero, i.size, i.bytes)) = some (some (.int .i64 0), 1, 8) := by kernel_rfl
theorem zeroI (w : World) : (zeroValue 3).run Try.prog w = .ok (.int .i64 0) w := by kernel_rfl
theorem wfN {n : Nat} (h : n < 1000000) : (Go.Lit.int .i64 (n : Int)).wf = true := wf_i (x := (n : Int)) (by omega)
theorem MRep.look {w : World} {gh : Nat} {M : MLoc} {S : Mk} (h : MRep w gh M S) {n : Nat} (hn : n < 1000000) :
    (Instr.lookup 63 (.map (some M.b)) (.int .i64 (n : Int)) false).run Try.prog w = .ok (.int .i64 (var S.vs n : Int)) w := by
  obtain ⟨D, m1, _, _, m2⟩ := h.map
  obtain ⟨c, hrun, hat, _⟩ := m1.lookup_int lawInt Try.underlying63 Try.underlying3 (zeroI w) (keyOf_int_mk Try.underlying3 (wfN hn))
  have := (m2 n).2
  rw [show kN n = Go.Lit.int .i64 (n : Int) from rfl, hat] at this
  simp only [DataW.lit.injEq, Lit.int.injEq, true_and] at this
  rw [← this]; exact hrun
theorem MRep.look_ok {w : World} {gh : Nat} {M : MLoc} {S : Mk} (h : MRep w gh M S) {n : Nat} (hn : n < 1000000) :
    (Instr.lookup 63 (.map (some M.b)) (.int .i64 (n : Int)) true).run Try.prog w = .ok (.tuple #[.int .i64 (var S.vs n : Int), .bool (decide (n ∈ S.vs))]) w := by
  obtain ⟨D, m1, _, _, m2⟩ := h.map
  obtain ⟨v, ps, hrun, hv⟩ := m1.look_ok lawInt Try.underlying63 (zeroI w) (zd := .lit (.int .i64 0)) (zp := []) (plainElem_int Try.underlying3 (by decide)) (keyOf_int_mk Try.underlying3 (wfN hn))
  obtain ⟨c, rfl, hc, _⟩ := plainElem_int_inv Try.underlying3 hv
  have hc1 : D.atKey (kN n) (.lit (.int .i64 0)) = .lit (.int .i64 c) := congrArg Prod.fst hc
  rw [(m2 n).2] at hc1
  simp only [DataW.lit.injEq, Lit.int.injEq, true_and] at hc1
  rw [show Go.Lit.int .i64 (n : Int) = kN n from rfl, (m2 n).1, ← hc1] at hrun
  exact hrun
theorem MRep.len {w : World} {gh : Nat} {M : MLoc} {S : Mk} (h : MRep w gh M S) (ty : TypeId) : (Builtin.len_ #[63] ty #[.map (some M.b)]).run Try.prog w = .ok (.int .i64 (S.vs.length : Int)) w := by
  obtain ⟨D, m1, _, m3, _⟩ := h.map
  have := m1.len Try.underlying63 ty
  rw [m3] at this; exact this

/-- A node gets the next variable. -/
theorem MRep.store {w : World} {gh : Nat} {M : MLoc} {S : Mk} (h : MRep w gh M S) {n : Nat} (hn : n < 1000000) (hm : n ∉ S.vs) (hl : S.vs.length < 900000) :
    ∃ w', (Instr.mapUpdate 63 (.map (some M.b)) (.int .i64 (n : Int)) (.int .i64 ((S.vs.length + 1 : Nat) : Int))).run Try.prog w = .ok () w' ∧ MRep w' gh M ⟨S.vs ++ [n], S.cs⟩ ∧ MFr M w w' M := by
  obtain ⟨D, m1, m2⟩ := h.map
  obtain ⟨w', hrun, ho, ht⟩ := m1.store lawInt Try.underlying63 (by unfold maxLen; omega) (keyOf_int_mk Try.underlying3 (wfN hn)) (plainElem_int Try.underlying3 (wfN (n := S.vs.length + 1) (by omega)))
  have hg := ht.grown
  refine ⟨w', hrun, ?_, ⟨rfl, hg.os, hg.tape, hg.output, hg.size, fun k hk hn => hg.block k hk (fun e => hn (Or.inr (Or.inl (by simpa using e)))), fun _ q => Or.inl q⟩⟩
  exact { h with
    head := h.head.of_heap (hg.block _ (h.lt _ (Or.inl rfl)) (fun e => h.hb (by simpa using e)))
    map := ⟨_, ho.mono (by simp), m2.put hm⟩
    rows := owns_of_heap h.rows fun k hk => hg.block k (h.lt k (Or.inr (Or.inr (Or.inl hk)))) (fun e => h.bc (by rw [hk, e]))
    each := h.each.of_heap fun v hv k hk => hg.block k (h.lt k (Or.inr (Or.inr (Or.inr ⟨v, hv, hk⟩)))) (fun e => h.br v hv (by rw [hk, e])) }

theorem headM_cv {gh : Nat} {M : MLoc} {v : Value} {rs : List Value} {i : Nat} (hi : i < 3) : upd (headM gh M) 2 v i = headM gh { M with cv := v, rs := rs } i := by
  match i, hi with | 0, _ => rfl | 1, _ => rfl | 2, _ => rfl
/-- Clauses come behind those that are there. -/
theorem MRep.push {w w3 : World} {gh : Nat} {M : MLoc} {S : Mk} {qs : List Value} {ds : List (List Int)} {g cap m : Nat} (h : MRep w gh M S) (hm : m = S.cs.length + ds.length) (hq : Cls w qs ds) (hqb : ∀ v ∈ qs, ∀ k, v.ownBlock = some k → ¬ M.has k)
    (hgrow : w.grownBy w3 M.cv.ownBlock) (hat : M.cv.ownBlock = some g ∨ w.heap.size ≤ g)
    (hown : w3.ownsRow 0 26 1 (.slice (some ⟨g, 0, none⟩) m cap) m (M.rs ++ qs)) :
    MRep (w3.setCell ⟨M.h, 2, none⟩ (.slice (some ⟨g, 0, none⟩) m cap)) gh { M with cv := .slice (some ⟨g, 0, none⟩) m cap, rs := M.rs ++ qs } ⟨S.vs, S.cs ++ ds⟩ ∧
      ∀ k, k < w.heap.size → k ≠ M.h → M.cv.ownBlock ≠ some k → (w3.setCell ⟨M.h, 2, none⟩ (.slice (some ⟨g, 0, none⟩) m cap)).heap[k]? = w.heap[k]? := by
  have lt := h.lt
  have gh' : g ≠ M.h := fun e => hat.elim (fun q => h.hc (by rw [q, e])) (fun q => by have := lt M.h (Or.inl rfl); omega)
  have gb : g ≠ M.b := fun e => hat.elim (fun q => h.bc (by rw [q, e])) (fun q => by have := lt M.b (Or.inr (Or.inl rfl)); omega)
  have hS : ∀ k, k < w.heap.size → k ≠ M.h → M.cv.ownBlock ≠ some k → (w3.setCell ⟨M.h, 2, none⟩ (.slice (some ⟨g, 0, none⟩) m cap)).heap[k]? = w.heap[k]? := fun k h1 h2 h3 =>
    (Below.heap_setCell _ _ _ _ h2).trans (hgrow.block k h1 (fun e => h3 e.symm))
  obtain ⟨D, m1, m2⟩ := h.map
  have hlen : (S.cs ++ ds).length = m := by rw [List.length_append, hm]
  have hqc : ∀ v ∈ qs, ∀ k, v.ownBlock = some k → k < w.heap.size ∧ k ≠ M.h ∧ M.cv.ownBlock ≠ some k ∧ k ≠ M.b := fun v hv k hk =>
    ⟨hq.lt hv hk, fun e => hqb v hv k hk (Or.inl e), fun e => hqb v hv k hk (Or.inr (Or.inr (Or.inl e))), fun e => hqb v hv k hk (Or.inr (Or.inl e))⟩
  refine ⟨⟨?_, ⟨D, map_of_heap m1 (hS _ (lt _ (Or.inr (Or.inl rfl))) h.hb.symm h.bc), m2⟩, ?_, ?_, h.hb, ?_, ?_, fun v hv => ?_, fun v hv => ?_, fun v hv k hk => ?_⟩, hS⟩
  · have h3 : RowAt w3 M.h 65 3 (headM gh M) := h.head.of_heap (hgrow.block _ (lt _ (Or.inl rfl)) (fun e => h.hc e.symm))
    exact (h3.set 2 _).congr fun i hi => headM_cv hi
  · show World.ownsRow _ _ _ _ _ (S.cs ++ ds).length _
    rw [hlen]
    exact owns_of_heap hown fun k hk => Below.heap_setCell _ _ _ _ (fun e => gh' (by simp [Value.ownBlock] at hk; exact hk.trans e))
  · refine Cls.append (h.each.of_heap fun v hv k hk => ?_) (hq.of_heap fun v hv k hk => ?_)
    · exact hS k (h.each.lt hv hk) (fun e => h.hr v hv (by rw [hk, e])) (h.cr v hv k hk)
    · have := hqc v hv k hk; exact hS k this.1 this.2.1 this.2.2.1
  · simpa [Value.ownBlock] using gh'
  · simpa [Value.ownBlock] using gb
  · rcases List.mem_append.1 hv with q | q
    · exact h.hr v q
    · intro e; exact (hqc v q _ e).2.1 rfl
  · rcases List.mem_append.1 hv with q | q
    · exact h.br v q
    · intro e; exact (hqc v q _ e).2.2.2 rfl
  · intro e
    have : g = k := by simpa [Value.ownBlock] using e
    subst this
    rcases List.mem_append.1 hv with q | q
    · rcases hat with r | r
      · exact h.cr v q g hk r
      · have := h.each.lt q hk; omega
    · have := hqc v q g hk
      rcases hat with r | r
      · exact this.2.2.1 r
      · omega

/-- The clauses are taken. -/
theorem MRep.take {w : World} {gh : Nat} {M : MLoc} {S : Mk} (h : MRep w gh M S) : MRep (w.setCell ⟨M.h, 2, none⟩ (.slice none 0 0)) gh { M with cv := .slice none 0 0, rs := [] } ⟨S.vs, []⟩ := by
  obtain ⟨D, m1, m2⟩ := h.map
  refine ⟨(h.head.set 2 _).congr fun i hi => headM_cv hi, ⟨D, map_of_heap m1 (Below.heap_setCell _ _ _ _ h.hb.symm), m2⟩, World.ownsRow_nil _ _ _ _, Cls.nil _, h.hb, by simp [Value.ownBlock], by simp [Value.ownBlock], fun v hv => by simp at hv, fun v hv => by simp at hv, fun v hv => by simp at hv⟩
end Go.Proofs.Ytbggenilngpjcaa.Cn
