/- The document's own maker in memory; New, Var, lit. -/
import Derived.Test.YtbggenilngpjcaaCnRa
namespace Go.Proofs.Ytbggenilngpjcaa.Cn
open Go Go.RowKit Go.Lib Go.Maps Go.Proofs.Ytbggenilngpjcaa.Gr

structure RLoc where
  h : Nat
  lv : Value
  cv : Value
  rs : List Value
def headR (r : Nat) (R : RLoc) : Nat → Value
  | 0 => .pointer (some ⟨r, 0, none⟩)
  | 1 => R.lv
  | _ => R.cv
def hasG (r : Nat) (gv : Value) (k : Nat) : Prop := k = r ∨ gv.ownBlock = some k
def hasRs (rs : List Value) (k : Nat) : Prop := ∃ v ∈ rs, v.ownBlock = some k
def RLoc.has (R : RLoc) (r : Nat) (gv : Value) (k : Nat) : Prop := k = R.h ∨ hasG r gv k ∨ R.lv.ownBlock = some k ∨ R.cv.ownBlock = some k ∨ hasRs R.rs k

structure RM (w : World) (r : Nat) (gv : Value) (L : List Nd) (R : RLoc) (S : Mk) : Prop where
  head : RowAt w R.h 39 3 (headR r R)
  gr : RRep w r gv L
  vs : w.ownsRow 0 3 1 R.lv S.vs.length (S.vs.map encN)
  cs : w.ownsRow 0 26 1 R.cv S.cs.length R.rs
  each : Cls w R.rs S.cs
  nh : ∀ k, (hasG r gv k ∨ R.lv.ownBlock = some k ∨ R.cv.ownBlock = some k ∨ hasRs R.rs k) → k ≠ R.h
  nl : ∀ k, R.lv.ownBlock = some k → ¬ hasG r gv k ∧ R.cv.ownBlock ≠ some k ∧ ¬ hasRs R.rs k
  nc : ∀ k, R.cv.ownBlock = some k → ¬ hasG r gv k ∧ ¬ hasRs R.rs k

theorem RM.of_heap {w w' : World} {r : Nat} {gv : Value} {L : List Nd} {R : RLoc} {S : Mk} (h : RM w r gv L R S) (e : ∀ k, R.has r gv k → w'.heap[k]? = w.heap[k]?) : RM w' r gv L R S :=
  { h with
    head := h.head.of_heap (e _ (Or.inl rfl))
    gr := h.gr.of_heap fun k hk => e k (Or.inr (Or.inl hk))
    vs := owns_of_heap h.vs fun k hk => e k (Or.inr (Or.inr (Or.inl hk)))
    cs := owns_of_heap h.cs fun k hk => e k (Or.inr (Or.inr (Or.inr (Or.inl hk))))
    each := h.each.of_heap fun v hv k hk => e k (Or.inr (Or.inr (Or.inr (Or.inr ⟨v, hv, hk⟩)))) }
theorem RM.lt {w : World} {r : Nat} {gv : Value} {L : List Nd} {R : RLoc} {S : Mk} (h : RM w r gv L R S) : ∀ k, R.has r gv k → k < w.heap.size := by
  intro k hk
  rcases hk with rfl | hk | hk | hk | ⟨v, hv, hk⟩
  · exact h.head.lt
  · exact h.gr.lt k hk
  · exact (h.vs.lt k hk).2
  · exact (h.cs.lt k hk).2
  · exact h.each.lt hv hk
theorem RM.below {w w' : World} {r : Nat} {gv : Value} {L : List Nd} {R : RLoc} {S : Mk} (h : RM w r gv L R S) (hb : Below w.heap.size w w') : RM w' r gv L R S := h.of_heap fun k hk => hb.block k (h.lt k hk)
theorem RM.drew {w : World} {r : Nat} {gv : Value} {L : List Nd} {R : RLoc} {S : Mk} (h : RM w r gv L R S) : RM w.drew r gv L R S := h.of_heap fun _ _ => rfl
theorem RM.c0 {w : World} {r : Nat} {gv : Value} {L : List Nd} {R : RLoc} {S : Mk} (h : RM w r gv L R S) : w.cell? ⟨R.h, 0, none⟩ = some (.pointer (some ⟨r, 0, none⟩)) := h.head.cell (i := 0) (by omega)
theorem RM.c1 {w : World} {r : Nat} {gv : Value} {L : List Nd} {R : RLoc} {S : Mk} (h : RM w r gv L R S) : w.cell? ⟨R.h, 1, none⟩ = some R.lv := h.head.cell (i := 1) (by omega)
theorem RM.c2 {w : World} {r : Nat} {gv : Value} {L : List Nd} {R : RLoc} {S : Mk} (h : RM w r gv L R S) : w.cell? ⟨R.h, 2, none⟩ = some R.cv := h.head.cell (i := 2) (by omega)

/-- A node comes to the list. -/
theorem RM.pushV {w w3 : World} {r : Nat} {gv : Value} {L : List Nd} {R : RLoc} {S : Mk} {n g cap : Nat} (h : RM w r gv L R S) (hgrow : w.grownBy w3 R.lv.ownBlock) (hat : R.lv.ownBlock = some g ∨ w.heap.size ≤ g)
    (hown : w3.ownsRow 0 3 1 (.slice (some ⟨g, 0, none⟩) (S.vs.length + 1) cap) (S.vs.length + 1) (S.vs.map encN ++ [.int .i64 (n : Int)])) :
    RM (w3.setCell ⟨R.h, 1, none⟩ (.slice (some ⟨g, 0, none⟩) (S.vs.length + 1) cap)) r gv L { R with lv := .slice (some ⟨g, 0, none⟩) (S.vs.length + 1) cap } ⟨S.vs ++ [n], S.cs⟩ ∧
      XFr (R.has r gv) w (w3.setCell ⟨R.h, 1, none⟩ (.slice (some ⟨g, 0, none⟩) (S.vs.length + 1) cap)) (({ R with lv := .slice (some ⟨g, 0, none⟩) (S.vs.length + 1) cap } : RLoc).has r gv) := by
  have lt := h.lt
  have ghn : ∀ k, (hasG r gv k ∨ R.cv.ownBlock = some k ∨ hasRs R.rs k ∨ k = R.h) → g ≠ k := fun k hk e => by
    subst e
    rcases hat with q | q
    · rcases hk with z | z | z | z
      · exact (h.nl g q).1 z
      · exact (h.nl g q).2.1 z
      · exact (h.nl g q).2.2 z
      · exact h.nh g (Or.inr (Or.inl q)) z
    · have : R.has r gv g := by
        rcases hk with z | z | z | z
        · exact Or.inr (Or.inl z)
        · exact Or.inr (Or.inr (Or.inr (Or.inl z)))
        · exact Or.inr (Or.inr (Or.inr (Or.inr z)))
        · exact Or.inl z
      have := lt g this; omega
  have hS : ∀ k, k < w.heap.size → k ≠ R.h → R.lv.ownBlock ≠ some k → (w3.setCell ⟨R.h, 1, none⟩ (.slice (some ⟨g, 0, none⟩) (S.vs.length + 1) cap)).heap[k]? = w.heap[k]? := fun k h1 h2 h3 =>
    (Below.heap_setCell _ _ _ _ h2).trans (hgrow.block k h1 (fun e => h3 e.symm))
  have hO : ∀ k, (hasG r gv k ∨ R.cv.ownBlock = some k ∨ hasRs R.rs k) → (w3.setCell ⟨R.h, 1, none⟩ (.slice (some ⟨g, 0, none⟩) (S.vs.length + 1) cap)).heap[k]? = w.heap[k]? := fun k hk => by
    refine hS k (lt k ?_) (h.nh k ?_) (fun q => ?_)
    · rcases hk with z | z | z
      · exact Or.inr (Or.inl z)
      · exact Or.inr (Or.inr (Or.inr (Or.inl z)))
      · exact Or.inr (Or.inr (Or.inr (Or.inr z)))
    · rcases hk with z | z | z
      · exact Or.inl z
      · exact Or.inr (Or.inr (Or.inl z))
      · exact Or.inr (Or.inr (Or.inr z))
    · rcases hk with z | z | z
      · exact (h.nl k q).1 z
      · exact (h.nl k q).2.1 z
      · exact (h.nl k q).2.2 z
  have hlv : ∀ k, (Value.slice (some ⟨g, 0, none⟩) (S.vs.length + 1) cap).ownBlock = some k → g = k := fun k hk => by simpa [Value.ownBlock] using hk
  refine ⟨⟨?_, h.gr.of_heap fun k hk => hO k (Or.inl hk), ?_, owns_of_heap h.cs fun k hk => hO k (Or.inr (Or.inl hk)), h.each.of_heap fun v hv k hk => hO k (Or.inr (Or.inr ⟨v, hv, hk⟩)), fun k hk => ?_, fun k hk => ?_, h.nc⟩, ⟨hgrow.os, hgrow.tape, hgrow.output, by simpa [World.setCell] using hgrow.size, fun k hk hn => hS k hk (fun e => hn (Or.inl e)) (fun e => hn (Or.inr (Or.inr (Or.inl e)))), fun k hk => ?_⟩⟩
  · have h3 : RowAt w3 R.h 39 3 (headR r R) := h.head.of_heap (hgrow.block _ h.head.lt (fun e => h.nh R.h (Or.inr (Or.inl e.symm)) rfl))
    refine (h3.set 1 _).congr fun i hi => ?_
    match i, hi with | 0, _ => rfl | 1, _ => rfl | 2, _ => rfl
  · show World.ownsRow _ _ _ _ _ (S.vs ++ [n]).length _
    rw [List.length_append, List.map_append]
    exact owns_of_heap hown fun k hk => Below.heap_setCell _ _ _ _ (fun e => ghn R.h (Or.inr (Or.inr (Or.inr rfl))) ((hlv k hk).trans e))
  · rcases hk with z | z | z | z
    · exact h.nh k (Or.inl z)
    · have := hlv k z; subst this; exact ghn R.h (Or.inr (Or.inr (Or.inr rfl)))
    · exact h.nh k (Or.inr (Or.inr (Or.inl z)))
    · exact h.nh k (Or.inr (Or.inr (Or.inr z)))
  · have := hlv k hk; subst this
    exact ⟨fun z => ghn g (Or.inl z) rfl, fun z => ghn g (Or.inr (Or.inl z)) rfl, fun z => ghn g (Or.inr (Or.inr (Or.inl z))) rfl⟩
  · rcases hk with z | z | z | z | z
    · exact Or.inl (Or.inl z)
    · exact Or.inl (Or.inr (Or.inl z))
    · have := hlv k z; subst this
      exact hat.imp (fun q => Or.inr (Or.inr (Or.inl q))) id
    · exact Or.inl (Or.inr (Or.inr (Or.inr (Or.inl z))))
    · exact Or.inl (Or.inr (Or.inr (Or.inr (Or.inr z))))

/-- Clauses come. -/
theorem RM.pushC {w w2 w3 : World} {r : Nat} {gv : Value} {L : List Nd} {R : RLoc} {S : Mk} {qs : List Value} {ds : List (List Int)} {g cap m : Nat} (h : RM w r gv L R S) (hb : Below w.heap.size w w2) (hm : m = S.cs.length + ds.length) (hq : Cls w2 qs ds) (hqb : ∀ k, hasRs qs k → w.heap.size ≤ k)
    (hgrow : w2.grownBy w3 R.cv.ownBlock) (hat : R.cv.ownBlock = some g ∨ w2.heap.size ≤ g)
    (hown : w3.ownsRow 0 26 1 (.slice (some ⟨g, 0, none⟩) m cap) m (R.rs ++ qs)) :
    RM (w3.setCell ⟨R.h, 2, none⟩ (.slice (some ⟨g, 0, none⟩) m cap)) r gv L { R with cv := .slice (some ⟨g, 0, none⟩) m cap, rs := R.rs ++ qs } ⟨S.vs, S.cs ++ ds⟩ ∧
      XFr (R.has r gv) w (w3.setCell ⟨R.h, 2, none⟩ (.slice (some ⟨g, 0, none⟩) m cap)) (({ R with cv := .slice (some ⟨g, 0, none⟩) m cap, rs := R.rs ++ qs } : RLoc).has r gv) := by
  have lt := h.lt
  have hsz := hb.size
  have hql : ∀ k, hasRs qs k → k < w2.heap.size := fun k ⟨v, hv, hk⟩ => hq.lt hv hk
  have ghn : ∀ k, (hasG r gv k ∨ R.lv.ownBlock = some k ∨ hasRs R.rs k ∨ hasRs qs k ∨ k = R.h) → g ≠ k := fun k hk e => by
    subst e
    rcases hat with q | q
    · have hgl : g < w.heap.size := lt g (Or.inr (Or.inr (Or.inr (Or.inl q))))
      rcases hk with z | z | z | z | z
      · exact (h.nc g q).1 z
      · exact (h.nl g z).2.1 q
      · exact (h.nc g q).2 z
      · have := hqb g z; omega
      · exact h.nh g (Or.inr (Or.inr (Or.inl q))) z
    · have : g < w2.heap.size := by
        rcases hk with z | z | z | z | z
        · have := lt g (Or.inr (Or.inl z)); omega
        · have := lt g (Or.inr (Or.inr (Or.inl z))); omega
        · have := lt g (Or.inr (Or.inr (Or.inr (Or.inr z)))); omega
        · exact hql g z
        · have := lt g (Or.inl z); omega
      omega
  have hS : ∀ k, k < w2.heap.size → k ≠ R.h → R.cv.ownBlock ≠ some k → (w3.setCell ⟨R.h, 2, none⟩ (.slice (some ⟨g, 0, none⟩) m cap)).heap[k]? = w2.heap[k]? := fun k h1 h2 h3 =>
    (Below.heap_setCell _ _ _ _ h2).trans (hgrow.block k h1 (fun e => h3 e.symm))
  have hO : ∀ k, (hasG r gv k ∨ R.lv.ownBlock = some k ∨ hasRs R.rs k) → (w3.setCell ⟨R.h, 2, none⟩ (.slice (some ⟨g, 0, none⟩) m cap)).heap[k]? = w.heap[k]? := fun k hk => by
    have hkl : k < w.heap.size := lt k (by
      rcases hk with z | z | z
      · exact Or.inr (Or.inl z)
      · exact Or.inr (Or.inr (Or.inl z))
      · exact Or.inr (Or.inr (Or.inr (Or.inr z))))
    refine (hS k (by omega) (h.nh k ?_) (fun q => ?_)).trans (hb.block k hkl)
    · rcases hk with z | z | z
      · exact Or.inl z
      · exact Or.inr (Or.inl z)
      · exact Or.inr (Or.inr (Or.inr z))
    · rcases hk with z | z | z
      · exact (h.nc k q).1 z
      · exact (h.nl k z).2.1 q
      · exact (h.nc k q).2 z
  have hcv : ∀ k, (Value.slice (some ⟨g, 0, none⟩) m cap).ownBlock = some k → g = k := fun k hk => by simpa [Value.ownBlock] using hk
  have hap : ∀ k, hasRs (R.rs ++ qs) k → hasRs R.rs k ∨ hasRs qs k := fun k ⟨v, hv, hk⟩ => (List.mem_append.1 hv).imp (fun q => ⟨v, q, hk⟩) (fun q => ⟨v, q, hk⟩)
  have hh : R.h < w.heap.size := lt R.h (Or.inl rfl)
  refine ⟨⟨?_, h.gr.of_heap fun k hk => hO k (Or.inl hk), owns_of_heap h.vs fun k hk => hO k (Or.inr (Or.inl hk)), ?_, Cls.append (h.each.of_heap fun v hv k hk => hO k (Or.inr (Or.inr ⟨v, hv, hk⟩))) (hq.of_heap fun v hv k hk => ?_), fun k hk => ?_, fun k hk => ⟨(h.nl k hk).1, fun q => ?_, fun q => ?_⟩, fun k hk => ?_⟩, ⟨hgrow.os.trans hb.os, hgrow.tape.trans hb.tape, hgrow.output.trans hb.output, Nat.le_trans hsz (by simpa [World.setCell] using hgrow.size), fun k hk hn => (hS k (by omega) (fun e => hn (Or.inl e)) (fun e => hn (Or.inr (Or.inr (Or.inr (Or.inl e)))))).trans (hb.block k hk), fun k hk => ?_⟩⟩
  · have h3 : RowAt w3 R.h 39 3 (headR r R) := h.head.of_heap ((hgrow.block _ (by omega) (fun e => h.nh R.h (Or.inr (Or.inr (Or.inl e.symm))) rfl)).trans (hb.block _ hh))
    refine (h3.set 2 _).congr fun i hi => ?_
    match i, hi with | 0, _ => rfl | 1, _ => rfl | 2, _ => rfl
  · show World.ownsRow _ _ _ _ _ (S.cs ++ ds).length _
    rw [List.length_append, ← hm]
    exact owns_of_heap hown fun k hk => Below.heap_setCell _ _ _ _ (fun e => ghn R.h (Or.inr (Or.inr (Or.inr (Or.inr rfl)))) ((hcv k hk).trans e))
  · have hk2 := hqb k ⟨v, hv, hk⟩
    refine hS k (hql k ⟨v, hv, hk⟩) (by omega) (fun q => ?_)
    have := lt k (Or.inr (Or.inr (Or.inr (Or.inl q)))); omega
  · rcases hk with z | z | z | z
    · exact h.nh k (Or.inl z)
    · exact h.nh k (Or.inr (Or.inl z))
    · have := hcv k z; subst this; exact ghn R.h (Or.inr (Or.inr (Or.inr (Or.inr rfl))))
    · rcases hap k z with z | z
      · exact h.nh k (Or.inr (Or.inr (Or.inr z)))
      · have := hqb k z; show k ≠ R.h; omega
  · have := hcv k q; subst this; exact ghn g (Or.inr (Or.inl hk)) rfl
  · rcases hap k q with z | z
    · exact (h.nl k hk).2.2 z
    · have := hqb k z; have := lt k (Or.inr (Or.inr (Or.inl hk))); omega
  · have := hcv k hk; subst this
    exact ⟨fun z => ghn g (Or.inl z) rfl, fun z => (hap g z).elim (fun q => ghn g (Or.inr (Or.inr (Or.inl q))) rfl) (fun q => ghn g (Or.inr (Or.inr (Or.inr (Or.inl q)))) rfl)⟩
  · rcases hk with z | z | z | z | z
    · exact Or.inl (Or.inl z)
    · exact Or.inl (Or.inr (Or.inl z))
    · exact Or.inl (Or.inr (Or.inr (Or.inl z)))
    · have := hcv k z; subst this
      exact hat.imp (fun q => Or.inr (Or.inr (Or.inr (Or.inl q)))) (fun q => by omega)
    · exact (hap k z).imp (fun q => Or.inr (Or.inr (Or.inr (Or.inr q)))) (fun q => hqb k q)

/-- The list alone. -/
def VRep (w : World) (hh : Nat) (lv : Value) (vs : List Nat) : Prop := w.cell? ⟨hh, 1, none⟩ = some lv ∧ w.ownsRow 0 3 1 lv vs.length (vs.map encN)
set_option maxRecDepth 100000 in
set_option maxHeartbeats 1000000 in
/-- Where a node stands in the list. -/
theorem Var_v {w : World} {hh : Nat} {lv : Value} {vs : List Nat} (h : VRep w hh lv vs) (n : Nat) (hn : n < 1000000) (hl : vs.length < 1000000) (hv : ∀ x ∈ vs, x < 1000000) :
    Calls Try.prog 19 #[.pointer (some ⟨hh, 0, none⟩), .int .i64 (n : Int)] w fun e w' => e = .returned (.int .i64 (var vs n : Int)) ∧ w = w' := by
  have c1 := h.1
  obtain ⟨a, c, e, _, _, hz, hof⟩ := own_form h.2
  have hvs := h.2
  rw [e] at c1 hvs
  obtain ⟨V, hV⟩ : ∃ V, V = vs.length := ⟨_, rfl⟩
  rw [← hV] at c1 hvs
  have V9 : (V : Int) ≤ 1000000 := by omega
  have HC : Hid (∀ k x, k < V → vs[k]? = some x → ∃ b, a = some ⟨b, 0, none⟩ ∧ w.cell? ⟨b, k, none⟩ = some (.int .i64 (x : Int))) := fun k x hk hx => by
    cases a with
    | none => have := (hz rfl).1; omega
    | some ad =>
      obtain ⟨b, off, sp⟩ := ad
      obtain ⟨rfl, rfl⟩ : off = 0 ∧ sp = none := hof _ rfl
      exact ⟨b, rfl, own_cell hvs (by rw [List.getElem?_map, hx]; rfl)⟩
  have HVV := Lib.hid (And.intro hV hv)
  have START : Hid (∀ j, j < 0 → vs[j]? ≠ some n) := fun j hj => absurd hj (Nat.not_lt_zero _)
  clear h hvs e hz hof hV hl hv
  go_enter Try.func19, Try.ntmps19
  go_wp2_with fail
  go_loop [5] (fun iv => ∃ k : Nat, iv = .int .i64 (k : Int) ∧ k ≤ V ∧ Hid (∀ j, j < k → vs[j]? ≠ some n)) (fun iv => V - (intOf iv).toNat)
  case atStart => exact ⟨0, rfl, Nat.zero_le _, START⟩
  case round =>
    obtain ⟨k, rfl, hk, HH⟩ := hrel
    by_cases hlt : k < V
    · have hlz : (k : Int) < (V : Int) := by omega
      obtain ⟨x, hx⟩ : ∃ x, vs[k]? = some x := ⟨_, List.getElem?_eq_getElem (by have := HVV.out.1; omega)⟩
      obtain ⟨b, rfl, cx⟩ := HC.out k x hlt hx
      have k0 : (0 : Int) ≤ (k : Int) := by omega
      by_cases e : x = n
      · subst e
        have HE : Hid (var vs x = k + 1) := by
          have hm : x ∈ vs := List.mem_of_getElem? hx
          have h1 := List.idxOf_lt_length_iff.2 hm
          have h2 : vs.idxOf x = k := by
            rcases Nat.lt_trichotomy (vs.idxOf x) k with q | q | q
            · exact absurd (by rw [List.getElem?_eq_getElem h1, List.getElem_idxOf h1]) (HH.out _ q)
            · exact q
            · have hz := List.not_of_lt_findIdx (p := (· == x)) (xs := vs) (i := k) q
              have hg := (List.getElem?_eq_some_iff.1 hx).2
              simp [hg] at hz
          show (if x ∈ vs then vs.idxOf x + 1 else 0) = k + 1
          rw [if_pos hm, h2]
        have ex : ((x : Int) == (x : Int)) = true := by simp
        clear HH START hx
        go_wp2_with fail
        go_ret
        rw [HE.out]
        exact ⟨rfl, rfl⟩
      · have ex : ((x : Int) == (n : Int)) = false := by simp; omega
        have HH2 : Hid (∀ j, j < k + 1 → vs[j]? ≠ some n) := fun j hj => by
          by_cases q : j < k
          · exact HH.out j q
          · obtain rfl : j = k := by omega
            rw [hx]; intro q; exact e (Option.some.inj q)
        clear HH START hx e
        go_wp2_with fail
        go_round
        case rel => exact ⟨k + 1, by go_num, by omega, HH2⟩
        case measure => simp [intOf]; omega
    · obtain rfl : k = V := by omega
      have hlz : ¬ (k : Int) < (k : Int) := by omega
      have HE : Hid (var vs n = 0) := var_zero fun q => by
        obtain ⟨j, hj⟩ := List.getElem?_of_mem q
        exact HH.out j (by have := (List.getElem?_eq_some_iff.1 hj).1; have := HVV.out.1; omega) hj
      clear HH START
      go_wp2_with fail
      go_ret
      rw [HE.out]
      exact ⟨rfl, rfl⟩

set_option maxHeartbeats 1000000 in
theorem reflit_v {w : World} {hh : Nat} {lv : Value} {vs : List Nat} (h : VRep w hh lv vs) (e : Nat) (he : e < 1000000) (hl : vs.length < 1000000) (hv : ∀ x ∈ vs, x < 1000000) :
    Calls Try.prog 35 #[.pointer (some ⟨hh, 0, none⟩), .int .i64 (e : Int)] w fun x w' => x = .returned (.int .i64 (lit vs e)) ∧ w = w' := by
  obtain ⟨q, hq⟩ : ∃ q, q = e / 2 := ⟨_, rfl⟩
  have hd : (e : Int).tdiv 2 = (q : Int) := by rw [Int.tdiv_eq_ediv_of_nonneg (by omega), hq]; omega
  have hm3 : (e : Int).tmod 2 = ((e % 2 : Nat) : Int) := by rw [Int.tmod_eq_emod_of_nonneg (by omega)]; omega
  have HV := Lib.hid (Var_v h q (by omega) hl hv)
  have hvl := var_le vs q
  have HE : Hid (lit vs e = if e % 2 = 1 then -(var vs q : Int) else (var vs q : Int)) := by rw [Hid, hq]; rfl
  generalize var vs q = v at *
  have v9 : (v : Int) ≤ 1000000 := by omega
  have q9 : (q : Int) ≤ 1000000 := by omega
  have e0 : ¬ (e : Int) < 0 := by omega
  have e9 : (e : Int) ≤ 1000000 := by omega
  rcases Nat.mod_two_eq_zero_or_one e with h2 | h2
  · rw [h2] at hm3
    have HE2 : Hid (lit vs e = (v : Int)) := by rw [Hid, HE.out, if_neg (by omega)]
    clear h hq he hl hvl h2 HE hv
    go_enter Try.func35, Try.ntmps35
    go_wp2_with fail
    refine HV.out.mono ?_
    rintro e w' ⟨rfl, rfl⟩
    go_wp2_with fail
    go_ret
    rw [HE2.out]
    exact ⟨rfl, rfl⟩
  · rw [h2] at hm3
    have HE2 : Hid (lit vs e = -(v : Int)) := by rw [Hid, HE.out, if_pos h2]
    clear h hq he hl hvl h2 HE hv
    go_enter Try.func35, Try.ntmps35
    go_wp2_with fail
    refine HV.out.mono ?_
    rintro e w' ⟨rfl, rfl⟩
    go_wp2_with fail
    go_ret
    rw [HE2.out]
    exact ⟨rfl, rfl⟩

theorem RM.v {w : World} {r : Nat} {gv : Value} {L : List Nd} {R : RLoc} {S : Mk} (h : RM w r gv L R S) : VRep w R.h R.lv S.vs := ⟨h.c1, h.vs⟩
theorem Var_any {w : World} {r : Nat} {gv : Value} {L : List Nd} {R : RLoc} {S : Mk} (h : RM w r gv L R S) (n : Nat) (hn : n < 1000000) (hl : S.vs.length < 1000000) (hv : ∀ x ∈ S.vs, x < 1000000) :
    Calls Try.prog 19 #[.pointer (some ⟨R.h, 0, none⟩), .int .i64 (n : Int)] w fun e w' => e = .returned (.int .i64 (var S.vs n : Int)) ∧ w = w' := Var_v h.v n hn hl hv
theorem reflit_any {w : World} {r : Nat} {gv : Value} {L : List Nd} {R : RLoc} {S : Mk} (h : RM w r gv L R S) (e : Nat) (he : e < 1000000) (hl : S.vs.length < 1000000) (hv : ∀ x ∈ S.vs, x < 1000000) :
    Calls Try.prog 35 #[.pointer (some ⟨R.h, 0, none⟩), .int .i64 (e : Int)] w fun x w' => x = .returned (.int .i64 (lit S.vs e)) ∧ w = w' := reflit_v h.v e he hl hv

/-- What New answers. -/
def NewRE (w : World) (r : Nat) (gv : Value) (L : List Nd) (e : Ending) (w' : World) : Prop :=
  ∃ R : RLoc, e = .returned (.pointer (some ⟨R.h, 0, none⟩)) ∧ RM w' r gv L R ⟨[0], [[-1]]⟩ ∧ Below w.heap.size w w' ∧ ∀ k, R.has r gv k → hasG r gv k ∨ w.heap.size ≤ k
set_option maxRecDepth 100000 in
set_option maxHeartbeats 2000000 in
theorem NewR_any {w : World} {r : Nat} {gv : Value} {L : List Nd} (h : RRep w r gv L) : Calls Try.prog 10 #[.pointer (some ⟨r, 0, none⟩)] w (NewRE w r gv L) := by
  have HR := Lib.hid h
  clear h
  go_enter Try.func10, Try.ntmps10
  go_wp2
  go_ret
  obtain ⟨b1, b2, b3⟩ := at4 w (.cells #[.int .i64 0] 3) (.cells #[.int .i64 (-1)] 3) (.cells #[.slice (some ⟨w.heap.size + 1, 0, none⟩) 1 1] 26) (.cells #[.pointer (some ⟨r, 0, none⟩), .slice (some ⟨w.heap.size, 0, none⟩) 1 1, .slice (some ⟨w.heap.size + 1 + 1, 0, none⟩) 1 1] 39)
  have b4 := at5 w (.cells #[.int .i64 0] 3) (.cells #[.int .i64 (-1)] 3) (.cells #[.slice (some ⟨w.heap.size + 1, 0, none⟩) 1 1] 26) (.cells #[.pointer (some ⟨r, 0, none⟩), .slice (some ⟨w.heap.size, 0, none⟩) 1 1, .slice (some ⟨w.heap.size + 1 + 1, 0, none⟩) 1 1] 39)
  have hb := below4 w (.cells #[.int .i64 0] 3) (.cells #[.int .i64 (-1)] 3) (.cells #[.slice (some ⟨w.heap.size + 1, 0, none⟩) 1 1] 26) (.cells #[.pointer (some ⟨r, 0, none⟩), .slice (some ⟨w.heap.size, 0, none⟩) 1 1, .slice (some ⟨w.heap.size + 1 + 1, 0, none⟩) 1 1] 39)
  have hlt := HR.out.lt
  have h1 : ∀ k, (Value.slice (some ⟨w.heap.size, 0, none⟩) 1 1).ownBlock = some k → w.heap.size = k := fun k hk => Option.some.inj hk
  have h2 : ∀ k, (Value.slice (some ⟨w.heap.size + 1 + 1, 0, none⟩) 1 1).ownBlock = some k → w.heap.size + 1 + 1 = k := fun k hk => Option.some.inj hk
  have h3 : ∀ k, hasRs [.slice (some ⟨w.heap.size + 1, 0, none⟩) 1 1] k → w.heap.size + 1 = k := fun k ⟨v, hv, hk⟩ => by simp at hv; subst hv; exact Option.some.inj hk
  refine ⟨⟨w.heap.size + 1 + 1 + 1, .slice (some ⟨w.heap.size, 0, none⟩) 1 1, .slice (some ⟨w.heap.size + 1 + 1, 0, none⟩) 1 1, [.slice (some ⟨w.heap.size + 1, 0, none⟩) 1 1]⟩, rfl, ⟨⟨_, b4, rfl, fun i hi => ?_⟩, HR.out.below hb, ownsAt b1 (by decide) rfl, ownsAt b3 (by decide) rfl, ⟨rfl, fun i v c g1 g2 => ?_⟩, fun k hk => ?_, fun k hk => ⟨fun q => ?_, fun q => ?_, fun q => ?_⟩, fun k hk => ⟨fun q => ?_, fun q => ?_⟩⟩, hb, fun k hk => ?_⟩
  · match i, hi with | 0, _ => rfl | 1, _ => rfl | 2, _ => rfl
  · match i with
    | 0 => simp at g1 g2; subst g1 g2; exact ⟨_, rfl, b2⟩
    | i + 1 => simp at g1
  · show k ≠ w.heap.size + 1 + 1 + 1
    rcases hk with z | z | z | z
    · have := hlt k z; omega
    · have := h1 k z; omega
    · have := h2 k z; omega
    · have := h3 k z; omega
  · have := h1 k hk; have := hlt k q; omega
  · have := h1 k hk; have := h2 k q; omega
  · have := h1 k hk; have := h3 k q; omega
  · have := h2 k hk; have := hlt k q; omega
  · have := h2 k hk; have := h3 k q; omega
  · rcases hk with z | z | z | z | z
    · exact Or.inr (by have : k = w.heap.size + 1 + 1 + 1 := z; omega)
    · exact Or.inl z
    · exact Or.inr (by have := h1 k z; omega)
    · exact Or.inr (by have := h2 k z; omega)
    · exact Or.inr (by have := h3 k z; omega)
end Go.Proofs.Ytbggenilngpjcaa.Cn
