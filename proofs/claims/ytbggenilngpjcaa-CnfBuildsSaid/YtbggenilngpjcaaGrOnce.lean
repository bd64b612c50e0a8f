/- The law GraphOnce as a contract. -/
import Derived.Test.YtbggenilngpjcaaGrH
namespace Go.Proofs.Ytbggenilngpjcaa.Gr
open Go Go.RowKit Go.Lib Go.Maps

structure ActV where
  k : Int
  a : Int
  b : Int
  c : Int
instance : Inhabited ActV := ⟨⟨0, 0, 0, 0⟩⟩

/-- A slice of m acts that came in. -/
def ArgA (w : World) (a : Option Addr) (m : Nat) (K : Nat → ActV) : Prop :=
  m = 0 ∨ ∃ b off, a = some ⟨b, off, none⟩ ∧ b < w.heap.size ∧ ∀ j, j < m → w.cell? ⟨b, off + j * 4, none⟩ = some (.int .i64 (K j).k) ∧ w.cell? ⟨b, off + j * 4 + 1, none⟩ = some (.int .i64 (K j).a) ∧ w.cell? ⟨b, off + j * 4 + 2, none⟩ = some (.int .i64 (K j).b) ∧ w.cell? ⟨b, off + j * 4 + 3, none⟩ = some (.int .i64 (K j).c)
theorem ArgA.below {w w' : World} {a : Option Addr} {m : Nat} {K : Nat → ActV} (h : ArgA w a m K) (hb : Below w.heap.size w w') : ArgA w' a m K := by
  rcases h with h | ⟨b, off, h1, h2, h3⟩
  · exact Or.inl h
  · exact Or.inr ⟨b, off, h1, Nat.lt_of_lt_of_le h2 hb.size, fun j hj => ⟨(hb.cell (by exact h2)).trans (h3 j hj).1, (hb.cell (by exact h2)).trans (h3 j hj).2.1, (hb.cell (by exact h2)).trans (h3 j hj).2.2.1, (hb.cell (by exact h2)).trans (h3 j hj).2.2.2⟩⟩

/-- Not below 0. -/
def nat0 (x : Int) : Nat := (if x < 0 then 0 else x).toNat
theorem nat0_eq (x : Int) : (if x < 0 then (0 : Int) else x) = (nat0 x : Int) := by unfold nat0; split <;> omega
theorem nat0_le {x : Int} (h : x ≤ 9223372036854775807) : (nat0 x : Int) ≤ 9223372036854775807 := by unfold nat0; split <;> omega

/-- What is laid. -/
def nxt (s : List Nat × List Nd) (x y : Nat) : Nat × List Nd := andE s.2 (edgeF (fun j => s.1.getD j 0) s.1.length x) (edgeF (fun j => s.1.getD j 0) s.1.length y)
def laid (K : Nat → ActV) : Nat → List Nat × List Nd
  | 0 => ([0, 2, 4], [none, none])
  | i + 1 => ((laid K i).1 ++ [(nxt (laid K i) (nat0 (K i).a) (nat0 (K i).b)).1], (nxt (laid K i) (nat0 (K i).a) (nat0 (K i).b)).2)

structure LaidOk (s : List Nat × List Nd) (i : Nat) : Prop where
  wf : Wf s.2
  len : s.2.length ≤ i + 2
  esl : s.1.length = i + 3
  own : ∀ j, j < s.1.length → s.1.getD j 0 < 2 * (s.2.length + 1)
theorem LaidOk.nxt {s : List Nat × List Nd} {i : Nat} (h : LaidOk s i) (x y : Nat) : ∃ f, Ans s.2 1 (nxt s x y) f :=
  ⟨_, andE_ans h.wf (edgeF_lt (by have := h.esl; omega) h.own) (edgeF_lt (by have := h.esl; omega) h.own)⟩
theorem getD_snoc (l : List Nat) (x j : Nat) : (l ++ [x]).getD j 0 = if j < l.length then l.getD j 0 else if j = l.length then x else 0 := by
  rw [List.getD_eq_getElem?_getD]
  by_cases e : j < l.length
  · rw [if_pos e, List.getElem?_append_left e, ← List.getD_eq_getElem?_getD]
  · rw [if_neg e, List.getElem?_append_right (by omega)]
    by_cases q : j = l.length
    · rw [if_pos q, q]; simp
    · rw [if_neg q, List.getElem?_eq_none (by simp; omega)]; rfl
theorem LaidOk.step {s : List Nat × List Nd} {i : Nat} (h : LaidOk s i) {r : Nat × List Nd} {f : (Nat → Bool) → Bool} (hA : Ans s.2 1 r f) : LaidOk (s.1 ++ [r.1], r.2) (i + 1) := by
  have hl := hA.lenle
  have hl2 := hA.le
  have ho := hA.own
  have he := h.esl
  refine ⟨hA.wf, ?_, ?_, fun j hj => ?_⟩
  · show r.2.length ≤ _; have := h.len; omega
  · show (s.1 ++ [r.1]).length = _; rw [List.length_append, he]; rfl
  · show (s.1 ++ [r.1]).getD j 0 < 2 * (r.2.length + 1)
    rw [getD_snoc]
    split
    · rename_i e; have := h.own j e; omega
    · split <;> omega
theorem laid_ok (K : Nat → ActV) (i : Nat) : LaidOk (laid K i) i := by
  induction i with
  | zero =>
    refine ⟨Wf.nil.input.input, Nat.le_refl 2, rfl, fun j hj => ?_⟩
    show [0, 2, 4].getD j 0 < 6
    have : j < 3 := hj
    match j, this with | 0, _ => decide | 1, _ => decide | 2, _ => decide
  | succ i ih =>
    obtain ⟨f, hA⟩ := ih.nxt (nat0 (K i).a) (nat0 (K i).b)
    exact ih.step hA
theorem laid_ext (K : Nat → ActV) (i m : Nat) (h : i ≤ m) : ∃ X, (laid K m).2 = (laid K i).2 ++ X := by
  induction m with
  | zero => obtain rfl : i = 0 := by omega
            exact ⟨[], by simp⟩
  | succ m ih =>
    by_cases e : i = m + 1
    · subst e; exact ⟨[], by simp⟩
    · obtain ⟨X, hX⟩ := ih (by omega)
      obtain ⟨f, hA⟩ := (laid_ok K m).nxt (nat0 (K m).a) (nat0 (K m).b)
      obtain ⟨Y, hY, _⟩ := hA.ext
      exact ⟨X ++ Y, by rw [← List.append_assoc, ← hX]; exact hY⟩
/-- Laid again, in the other order, on whatever has been laid since. -/
theorem laid_again (K : Nat → ActV) (i m : Nat) (h : i < m) : nxt ((laid K i).1, (laid K m).2) (nat0 (K i).b) (nat0 (K i).a) = ((nxt (laid K i) (nat0 (K i).a) (nat0 (K i).b)).1, (laid K m).2) := by
  obtain ⟨X, hX⟩ := laid_ext K (i + 1) m h
  have hW := (laid_ok K m).wf
  have hX2 : (laid K m).2 = (nxt (laid K i) (nat0 (K i).a) (nat0 (K i).b)).2 ++ X := hX
  unfold nxt at hX2 ⊢
  rw [hX2] at hW ⊢
  rw [andE_comm]
  exact andE_stays hW

/-- Where the law stands: the graph, and a list of edges. -/
def OnceI (W : World) (h : Nat) (L : List Nd) (es : List Nat) (v : Value) (w : World) : Prop := ∃ G : Loc, G.h = h ∧ Law W w G L ∧ EsS W w G v es

theorem encN_snoc (es : List Nat) (e : Nat) : (es ++ [e]).map encN = es.map encN ++ [.int .i64 (e : Int)] := by rw [List.map_append]; rfl
theorem EsS.push {W w w1 : World} {G : Loc} {v : Value} {es : List Nat} {e g cap : Nat} {L : List Nd} (h : EsS W w G v es) (hr : Law W w G L) (o : Obj) (hgrow : (w.alloc o).grownBy w1 v.ownBlock) (hat : v.ownBlock = some g ∨ g = w.heap.size + 1)
    (hown : w1.ownsRow W.heap.size 3 1 (.slice (some ⟨g, 0, none⟩) (es.length + 1) cap) (es.length + 1) (es.map encN ++ [.int .i64 (e : Int)])) :
    OnceI W G.h L (es ++ [e]) (.slice (some ⟨g, 0, none⟩) (es.length + 1) cap) w1 := by
  have lt := hr.rep.lt
  have hk : ∀ k, k < w.heap.size → v.ownBlock ≠ some k → w1.heap[k]? = w.heap[k]? := fun k h1 h2 => (hgrow.block k (by simp; omega) (fun e => h2 e.symm)).trans (Below.heap_alloc _ _ _ h1)
  refine ⟨G, rfl, ⟨hr.rep.of_heap fun k hk' => hk k (lt k hk') (fun e => h.2 k e hk'), hr.wf, (hr.below.alloc hr.below.size o).grown hgrow (by have := hr.below.size; simp; omega) (fun k hk => (h.1.lt k hk).1), hr.new⟩, ?_, fun k hk' q => ?_⟩
  · rw [List.length_append, encN_snoc]; exact hown
  · have : g = k := by simpa [Value.ownBlock] using hk'
    subst this
    rcases hat with e | e
    · exact h.2 _ e q
    · have := lt _ q; omega

/-- .. and the list laid again. -/
def OnceJ (W : World) (h : Nat) (L : List Nd) (es : List Nat) (v : Value) (fs : List Nat) (u : Value) (w : World) : Prop :=
  ∃ G : Loc, G.h = h ∧ Law W w G L ∧ EsS W w G v es ∧ EsS W w G u fs ∧ ∀ k, v.ownBlock = some k → u.ownBlock ≠ some k
theorem OnceJ.push {W w w1 : World} {G : Loc} {v u : Value} {es fs : List Nat} {e g cap : Nat} {L : List Nd} (h : EsS W w G u fs) (h1 : EsS W w G v es) (hne : ∀ k, v.ownBlock = some k → u.ownBlock ≠ some k) (hr : Law W w G L) (o : Obj) (hgrow : (w.alloc o).grownBy w1 u.ownBlock) (hat : u.ownBlock = some g ∨ g = w.heap.size + 1)
    (hown : w1.ownsRow W.heap.size 3 1 (.slice (some ⟨g, 0, none⟩) (fs.length + 1) cap) (fs.length + 1) (fs.map encN ++ [.int .i64 (e : Int)])) :
    OnceJ W G.h L es v (fs ++ [e]) (.slice (some ⟨g, 0, none⟩) (fs.length + 1) cap) w1 := by
  have lt := hr.rep.lt
  have hk : ∀ k, k < w.heap.size → u.ownBlock ≠ some k → w1.heap[k]? = w.heap[k]? := fun k h1 h2 => (hgrow.block k (by simp; omega) (fun e => h2 e.symm)).trans (Below.heap_alloc _ _ _ h1)
  refine ⟨G, rfl, ⟨hr.rep.of_heap fun k hk' => hk k (lt k hk') (fun e => h.2 k e hk'), hr.wf, (hr.below.alloc hr.below.size o).grown hgrow (by have := hr.below.size; simp; omega) (fun k hk => (h.1.lt k hk).1), hr.new⟩, ⟨owns_of_heap h1.1 fun k hk' => hk k (h1.1.lt k hk').2 (hne k hk'), h1.2⟩, ⟨?_, fun k hk' q => ?_⟩, fun k hk' q => ?_⟩
  · rw [List.length_append, encN_snoc]; exact hown
  · have : g = k := by simpa [Value.ownBlock] using hk'
    subst this
    rcases hat with e | e
    · exact h.2 _ e q
    · have := lt _ q; omega
  · have : g = k := by simpa [Value.ownBlock] using q
    subst this
    rcases hat with e | e
    · exact hne _ hk' e
    · have := (h1.1.lt _ hk').2; omega

end Go.Proofs.Ytbggenilngpjcaa.Gr
