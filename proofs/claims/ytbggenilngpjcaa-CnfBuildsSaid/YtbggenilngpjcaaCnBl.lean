/- Where the law CnfBuilds stands: a graph and its maker, the document's own, the clauses taken. -/
import Derived.Test.YtbggenilngpjcaaCnRd
import Derived.Test.YtbggenilngpjcaaCnLi
import Derived.Test.YtbggenilngpjcaaCnIn
import Derived.Test.YtbggenilngpjcaaCnSem
import Derived.Test.YtbggenilngpjcaaCnGrows
import Derived.Maps.AppendAt
import Derived.Laws.AppendOwnNone
namespace Go.Proofs.Ytbggenilngpjcaa.Cn
open Go Go.RowKit Go.Lib Go.Maps Go.Proofs.Ytbggenilngpjcaa.Gr

def hasC (cv : Value) (rs : List Value) (k : Nat) : Prop := cv.ownBlock = some k ∨ hasRs rs k

structure Bld (W w : World) (G : Gr.Loc) (L : List Nd) (M : MLoc) (S : Mk) (r : Nat) (gv : Value) (R : RLoc) (T : Mk) (cv : Value) (rs : List Value) (cs : List (List Int)) (ev : Value) (es : List Nat) : Prop where
  lm : LawM W w G L M S
  rm : RM w r gv L R T
  rc : w.ownsRow W.heap.size 26 1 cv rs.length rs
  ec : Cls w rs cs
  re : RowI W w G M ev (toI es)
  dr : ∀ k, R.has r gv k → ¬ G.has k ∧ ¬ M.has k
  dc : ∀ k, hasC cv rs k → ¬ G.has k ∧ ¬ M.has k ∧ ¬ R.has r gv k
  dcc : ∀ k, cv.ownBlock = some k → ¬ hasRs rs k
  de : ∀ k, ev.ownBlock = some k → ¬ R.has r gv k ∧ ¬ hasC cv rs k
  nr : ∀ k, R.has r gv k → W.heap.size ≤ k
  nc : ∀ k, hasC cv rs k → W.heap.size ≤ k

theorem Bld.clt {W w : World} {G : Gr.Loc} {L : List Nd} {M : MLoc} {S T : Mk} {r : Nat} {gv cv ev : Value} {R : RLoc} {rs : List Value} {cs : List (List Int)} {es : List Nat} (h : Bld W w G L M S r gv R T cv rs cs ev es) : ∀ k, hasC cv rs k → k < w.heap.size := fun k hk =>
  hk.elim (fun q => (h.rc.lt k q).2) (fun ⟨_, hv, q⟩ => h.ec.lt hv q)
theorem Bld.after {W w w' : World} {G : Gr.Loc} {L : List Nd} {M : MLoc} {S T : Mk} {r : Nat} {gv cv ev : Value} {R : RLoc} {rs : List Value} {cs : List (List Int)} {es : List Nat} (h : Bld W w G L M S r gv R T cv rs cs ev es) (hb : Below w.heap.size w w') : Bld W w' G L M S r gv R T cv rs cs ev es :=
  { h with
    lm := h.lm.after hb
    rm := h.rm.below hb
    rc := owns_of_heap h.rc fun k hk => hb.block k (h.rc.lt k hk).2
    ec := h.ec.of_heap fun _ hv k hk => hb.block k (h.ec.lt hv hk)
    re := h.re.after hb }
/-- The program's maker does something. -/
theorem Bld.mk' {W w w' : World} {G : Gr.Loc} {L : List Nd} {M M' : MLoc} {S S' T : Mk} {r : Nat} {gv cv ev : Value} {R : RLoc} {rs : List Value} {cs : List (List Int)} {es : List Nat} (h : Bld W w G L M S r gv R T cv rs cs ev es) (hb : Both w' G L M' S') (hf : MFr M w w' M') (hc : S'.cs.length ≤ 3 * S'.vs.length) : Bld W w' G L M' S' r gv R T cv rs cs ev es := by
  have kr := hf.x.keep h.rm.lt fun k hk => (h.dr k hk).2
  have kc := hf.x.keep h.clt fun k hk => (h.dc k hk).2.1
  exact { h with
    lm := h.lm.mk' hb hf hc
    rm := h.rm.of_heap kr.1
    rc := owns_of_heap h.rc fun k hk => kc.1 k (Or.inl hk)
    ec := h.ec.of_heap fun v hv k hk => kc.1 k (Or.inr ⟨v, hv, hk⟩)
    re := h.re.mk' hf
    dr := fun k hk => ⟨(h.dr k hk).1, kr.2 k hk⟩
    dc := fun k hk => ⟨(h.dc k hk).1, kc.2 k hk, (h.dc k hk).2.2⟩ }
/-- The document's does. -/
theorem Bld.rf {W w w' : World} {G : Gr.Loc} {L : List Nd} {M : MLoc} {S T T' : Mk} {r : Nat} {gv cv ev : Value} {R R' : RLoc} {rs : List Value} {cs : List (List Int)} {es : List Nat} (h : Bld W w G L M S r gv R T cv rs cs ev es) (hr : RM w' r gv L R' T') (hf : XFr (R.has r gv) w w' (R'.has r gv)) : Bld W w' G L M S r gv R' T' cv rs cs ev es := by
  have kg := hf.keep h.lm.both.g.lt fun k hk q => (h.dr k q).1 hk
  have km := hf.keep h.lm.both.m.lt fun k hk q => (h.dr k q).2 hk
  have kc := hf.keep h.clt fun k hk => (h.dc k hk).2.2
  have ke := hf.keep (C := fun k => ev.ownBlock = some k) (fun k hk => (h.re.1.lt k hk).2) fun k hk => (h.de k hk).1
  have hbl := hf.below h.lm.below.size h.nr
  exact { h with
    lm := ⟨h.lm.both.of_heap fun k hk => hk.elim (kg.1 k) (km.1 k), h.lm.below.trans hbl, h.lm.newG, h.lm.newM, h.lm.few⟩
    rm := hr
    rc := owns_of_heap h.rc fun k hk => kc.1 k (Or.inl hk)
    ec := h.ec.of_heap fun v hv k hk => kc.1 k (Or.inr ⟨v, hv, hk⟩)
    re := ⟨owns_of_heap h.re.1 fun k hk => ke.1 k hk, h.re.2⟩
    dr := fun k hk => ⟨fun q => kg.2 k q hk, fun q => km.2 k q hk⟩
    dc := fun k hk => ⟨(h.dc k hk).1, (h.dc k hk).2.1, kc.2 k hk⟩
    de := fun k hk => ⟨ke.2 k hk, (h.de k hk).2⟩
    nr := hf.from h.lm.below.size h.nr }
/-- The clauses are taken, and come to those that were. -/
theorem Bld.tk {W w w2 w3 : World} {G : Gr.Loc} {L : List Nd} {M : MLoc} {S T : Mk} {r : Nat} {gv cv cv' ev : Value} {R : RLoc} {rs : List Value} {cs : List (List Int)} {es : List Nat} (h : Bld W w G L M S r gv R T cv rs cs ev es) (hw2 : w2 = w.setCell ⟨M.h, 2, none⟩ (.slice none 0 0))
    (hown : w3.ownsRow W.heap.size 26 1 cv' (rs.length + S.cs.length) (rs ++ M.rs)) (hgrow : w2.grownBy w3 cv.ownBlock) (hat : ∀ k, cv'.ownBlock = some k → cv.ownBlock = some k ∨ w2.heap.size ≤ k) :
    Bld W w3 G L { M with cv := .slice none 0 0, rs := [] } ⟨S.vs, []⟩ r gv R T cv' (rs ++ M.rs) (cs ++ S.cs) ev es := by
  subst hw2
  have hs : (w.setCell ⟨M.h, 2, none⟩ (.slice none 0 0)).heap.size = w.heap.size := by simp [World.setCell]
  have hM2 := h.lm.both.m
  have h1 : Bld W (w.setCell ⟨M.h, 2, none⟩ (.slice none 0 0)) G L { M with cv := .slice none 0 0, rs := [] } ⟨S.vs, []⟩ r gv R T cv rs cs ev es := by
    have := h.lm.take
    exact h.mk' this.both (takeFr _) (Nat.zero_le _)
  -- M's clauses in the world behind
  have hmr : ∀ k, hasRs M.rs k → M.has k := fun k q => Or.inr (Or.inr (Or.inr q))
  have hmlt : ∀ k, hasRs M.rs k → k < w.heap.size := fun k q => hM2.lt k (hmr k q)
  have hcm : ∀ k, cv.ownBlock = some k → ¬ hasRs M.rs k := fun k hk q => (h.dc k (Or.inl hk)).2.1 (hmr k q)
  have hmh : ∀ k, hasRs M.rs k → k ≠ M.h := fun k ⟨v, hv, q⟩ e => hM2.hr v hv (by rw [q, e])
  have hm1 : ∀ k, hasRs M.rs k → w3.heap[k]? = w.heap[k]? := fun k hk =>
    (hgrow.block k (by rw [hs]; exact hmlt k hk) (fun e => hcm k e.symm hk)).trans (Below.heap_setCell _ _ _ _ (hmh k hk))
  have hO : ∀ (C : Nat → Prop), (∀ k, C k → k < w.heap.size) → (∀ k, C k → cv.ownBlock ≠ some k) → ∀ k, C k → w3.heap[k]? = (w.setCell ⟨M.h, 2, none⟩ (.slice none 0 0)).heap[k]? := fun C c1 c2 k hk =>
    hgrow.block k (by rw [hs]; exact c1 k hk) (fun e => c2 k hk e.symm)
  have hgb := hO G.has h.lm.both.g.lt fun k hk e => (h.dc k (Or.inl e)).1 hk
  have hmb := hO (({ M with cv := .slice none 0 0, rs := [] } : MLoc).has) (fun k hk => by have := h1.lm.both.m.lt k hk; rw [hs] at this; exact this) fun k hk e => (h1.dc k (Or.inl e)).2.1 hk
  have hrb := hO (R.has r gv) h.rm.lt fun k hk e => (h.dc k (Or.inl e)).2.2 hk
  have heb := hO (fun k => ev.ownBlock = some k) (fun k hk => (h.re.1.lt k hk).2) fun k hk e => (h.de k hk).2 (Or.inl e)
  have hcb := hO (hasRs rs) (fun k hk => h.clt k (Or.inr hk)) fun k hk e => h.dcc k e hk
  have hap : ∀ k, hasRs (rs ++ M.rs) k → hasRs rs k ∨ hasRs M.rs k := fun k ⟨v, hv, hk⟩ => (List.mem_append.1 hv).imp (fun q => ⟨v, q, hk⟩) (fun q => ⟨v, q, hk⟩)
  have hMR : ∀ k, hasRs M.rs k → ¬ ({ M with cv := .slice none 0 0, rs := [] } : MLoc).has k := fun k ⟨v, hv, hk⟩ q => by
    rcases q with q | q | q | ⟨u, hu, _⟩
    · exact hM2.hr v hv (by rw [hk]; exact congrArg some q)
    · exact hM2.br v hv (by rw [hk]; exact congrArg some q)
    · simp [Value.ownBlock] at q
    · simp at hu
  have hcv : ∀ k, cv'.ownBlock = some k → ¬ G.has k ∧ ¬ ({ M with cv := .slice none 0 0, rs := [] } : MLoc).has k ∧ ¬ R.has r gv k ∧ ev.ownBlock ≠ some k ∧ ¬ hasRs rs k ∧ ¬ hasRs M.rs k := fun k hk => by
    rcases hat k hk with q | q
    · have := h1.dc k (Or.inl q)
      exact ⟨this.1, this.2.1, this.2.2, fun e => (h.de k e).2 (Or.inl q), h.dcc k q, hcm k q⟩
    · rw [hs] at q
      refine ⟨fun z => ?_, fun z => ?_, fun z => ?_, fun z => ?_, fun z => ?_, fun z => ?_⟩
      · have := h.lm.both.g.lt k z; omega
      · have := h1.lm.both.m.lt k z; rw [hs] at this; omega
      · have := h.rm.lt k z; omega
      · have := (h.re.1.lt k z).2; omega
      · have := h.clt k (Or.inr z); omega
      · have := hmlt k z; omega
  have hbl : Below W.heap.size W w3 := h1.lm.below.grown hgrow h1.lm.below.size (fun k e => (h.rc.lt k e).1)
  refine ⟨⟨h1.lm.both.of_heap fun k hk => hk.elim (hgb k) (hmb k), hbl, h.lm.newG, h1.lm.newM, Nat.zero_le _⟩, h1.rm.of_heap hrb, by rw [List.length_append, hM2.each.1]; exact hown,
    Cls.append (h1.ec.of_heap fun v hv k hk => hcb k ⟨v, hv, hk⟩) (hM2.each.of_heap fun v hv k hk => hm1 k ⟨v, hv, hk⟩), ⟨owns_of_heap h1.re.1 heb, h1.re.2⟩, h1.dr, fun k hk => ?_, fun k hk q => ?_, fun k hk => ⟨(h.de k hk).1, fun q => ?_⟩, h.nr, fun k hk => ?_⟩
  · rcases hk with q | q
    · have := hcv k q; exact ⟨this.1, this.2.1, this.2.2.1⟩
    · rcases hap k q with q | q
      · exact h1.dc k (Or.inr q)
      · exact ⟨h.lm.both.apart k (hmr k q), hMR k q, fun z => (h.dr k z).2 (hmr k q)⟩
  · have := hcv k hk
    exact (hap k q).elim this.2.2.2.2.1 this.2.2.2.2.2
  · rcases q with q | q
    · exact (hcv k q).2.2.2.1 hk
    · rcases hap k q with q | q
      · exact (h.de k hk).2 (Or.inr q)
      · exact (h.re.2 k hk).2 (hmr k q)
  · rcases hk with q | q
    · exact (hown.lt k q).1
    · rcases hap k q with q | q
      · exact h.nc k (Or.inr q)
      · exact h.lm.newM k (hmr k q)

/-- append of one list of clauses to another. -/
theorem wpList_append_rows {P : Program} {w : World} {ops : Array Oper} {rest : List Oper} {o : Oper} {a : Act} {Q : Exit → Act → World → Prop} (hgd : o.guard = none) (s x : Operand) (t : TypeId)
    (ho : o.op = .call { callee := .builtin .append, args := #[s, x], argTypes := #[t, t] })
    (base : Nat) (e : TypeId) (i : TypeInfo) (z : Value) (bytes : Nat) (ht : P.underlying t = some (.slice e)) (hi : P.info? e = some i) (hz : i.zero = some z)
    (hsize : i.size = 1) (hby : i.bytes = bytes) (hzs : z.cells.size = 1)
    (v : Value) (n : Nat) (xs : List Value) (hs : a.eval s = v) (hown : w.ownsRow base e 1 v n xs)
    (base2 : Nat) (u : Value) (m : Nat) (ys : List Value) (hx : a.eval x = u) (hu : w.ownsRow base2 e 1 u m ys) (h1 : ∀ y ∈ ys, y.oneCell' = true)
    (h63 : n + m ≤ maxLen) (hbytes : (n + m) * bytes ≤ 140737488355328) (hbase : base ≤ w.heap.size)
    (h : ∀ v' w', w'.ownsRow base e 1 v' (n + m) (xs ++ ys) → w.grownBy w' v.ownBlock → (∀ k, v'.ownBlock = some k → v.ownBlock = some k ∨ w.heap.size ≤ k) → wpList P ops Q rest (a.put o.dst v') w') : wpList P ops Q (o :: rest) a w := by
  have hu0 := hu
  obtain ⟨hl, hu⟩ := hu
  rcases hu with ⟨rfl, rfl⟩ | ⟨g, cap, cur, rfl, _, hh, hc, hm, hcs, ht2⟩
  · have : ys = [] := by simpa using hl
    subst this
    refine wpList_append_own_none hgd s x t ho base e i 1 ht hi v n xs hs hown hx ?_
    exact h v w (by simpa using hown) ⟨rfl, rfl, rfl, Nat.le_refl _, fun _ _ _ => rfl⟩ fun k hk => Or.inl hk
  · refine wpList_append_own_at w hgd s x t ho base e i z 1 bytes ht hi hz hsize hby hzs (by decide) v n xs hs hown ⟨g, 0, none⟩ m cap ys hx hl (fun j q hj => ?_) h1 h63 hbytes hbase fun v' w' g1 g2 _ g3 => h v' w' g1 g2 fun k hk => ?_
    · rw [Addr.add_lit, Nat.zero_add]
      exact own_cell hu0 hj
    · rcases g3 with q | q
      · exact Or.inl (by rw [← q]; exact hk)
      · rw [q] at hk; exact Or.inr (by have := Option.some.inj hk; omega)
end Go.Proofs.Ytbggenilngpjcaa.Cn
