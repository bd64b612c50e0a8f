/- The list of values in memory; what an input's value is. -/
import Derived.Test.YtbggenilngpjcaaCnBl
namespace Go.Proofs.Ytbggenilngpjcaa.Cn
open Go Go.RowKit Go.Lib Go.Maps Go.Proofs.Ytbggenilngpjcaa.Gr

theorem own_set {w : World} {base : Nat} {e : TypeId} {g n c i : Nat} {xs : List Value} {u : Value} (h : w.ownsRow base e 1 (.slice (some ⟨g, 0, none⟩) n c) n xs) : (w.setCell ⟨g, i, none⟩ u).ownsRow base e 1 (.slice (some ⟨g, 0, none⟩) n c) n (xs.set i u) := by
  obtain ⟨h1, h2⟩ := h
  refine ⟨by simpa using h1, ?_⟩
  rcases h2 with ⟨q, _⟩ | ⟨g', cap, cur, q, h3, h4, h5, h6, h7, h8⟩
  · cases q
  · simp only [Value.slice.injEq, Option.some.injEq, Addr.mk.injEq, and_true, true_and] at q
    obtain ⟨rfl, rfl⟩ := q
    have hlt := lt_of_block h4
    have h' : w.heap[g] = .cells cur e (0, 0) := by simpa [Array.getElem?_eq_getElem hlt] using h4
    refine Or.inr ⟨g, c, cur.setIfInBounds i u, rfl, h3, ?_, h5, h6, by simpa using h7, ?_⟩
    · show (w.heap.modify g _)[g]? = _
      rw [Array.getElem?_eq_getElem (by simpa using hlt), Array.getElem_modify_self, h']
      rfl
    · rw [Array.toList_setIfInBounds, List.take_set, h8]
theorem bools_row {w : World} {base : Nat} {a : Option Addr} {n c : Nat} {mv : List Bool} (h : w.ownsRow base 4 1 (.slice a n c) n (mv.map Value.bool)) : Cl.RowIn Value.bool w a mv ∧ ArgV (fun j => .bool (mv.getD j false)) w a n ∧ mv.length = n := by
  have hl : mv.length = n := by have := h.1; simpa using this
  obtain ⟨a', c', e, _, _, hz, hof⟩ := own_form h
  simp only [Value.slice.injEq, true_and] at e
  obtain ⟨rfl, rfl⟩ := e
  cases a with
  | none =>
    have := (hz rfl).1
    exact ⟨Or.inl (List.eq_nil_of_length_eq_zero (by omega)), Or.inl this, hl⟩
  | some ad =>
    obtain ⟨b, off, sp⟩ := ad
    obtain ⟨rfl, rfl⟩ : off = 0 ∧ sp = none := hof _ rfl
    refine ⟨Or.inr ⟨b, 0, rfl, (h.lt b rfl).2, fun j hj => ?_⟩, Or.inr ⟨b, 0, rfl, (h.lt b rfl).2, fun j hj => ?_⟩, hl⟩
    · rw [Nat.zero_add, getElem!_pos mv j hj]
      exact own_cell h (by rw [List.getElem?_map, List.getElem?_eq_getElem hj]; rfl)
    · have hj' : j < mv.length := by omega
      rw [Nat.zero_add]
      refine own_cell h ?_
      rw [List.getElem?_map, List.getElem?_eq_getElem hj']
      simp [hj']
theorem infoBool1 : (Try.prog.info? 4).map (fun i => (i.zero, i.size, i.bytes)) = some (some (.bool false), 1, 1) := by kernel_rfl

theorem valOf_take {m : Nat → Bool} {L : List Nd} {vs : List Nat} {i x : Nat} (h : vs[i]? = some x) : (valOf m L vs).take (i + 1) = (valOf m L vs).take i ++ [val m L (2 * x)] := by
  unfold valOf
  rw [List.take_add_one, List.getElem?_map, h]; rfl
theorem valOf_get {m : Nat → Bool} {L : List Nd} {vs : List Nat} {i x : Nat} (h : vs[i]? = some x) : (valOf m L vs)[i]? = some (val m L (2 * x)) := by
  unfold valOf
  rw [List.getElem?_map, h]; rfl
/-- What Inputs tells of an input. -/
theorem inB_val {L : List Nd} {vs : List Nat} {mn : Nat} {Mv : Nat → Bool} {j : Nat} (hj : j < ins L) : inB L vs vs.length (fun q => (valOf (mdl Mv mn) L vs).getD q false) j = ((decide (j < mn) && Mv j) && decide (inN L j ∈ vs)) := by
  obtain ⟨k, h1, h2, h3, h4, h5⟩ := inN_get hj
  unfold inB
  by_cases hm : inN L j ∈ vs
  · have hv := var_le vs (inN L j)
    have hp := get_var hm
    have hg := valOf_get (m := mdl Mv mn) (L := L) hp
    have h6 : val (mdl Mv mn) L (2 * (k + 1)) = mdl Mv mn j := by rw [← vs_val, vs_in h4, h5]
    have h7 : (valOf (mdl Mv mn) L vs).getD (var vs (inN L j) - 1) false = mdl Mv mn j := by
      rw [List.getD_eq_getElem?_getD, hg, h3, Option.getD_some, h6]
    show (decide (inN L j ∈ vs) && (decide (var vs (inN L j) ≤ vs.length) && (valOf (mdl Mv mn) L vs).getD (var vs (inN L j) - 1) false)) = _
    rw [decide_eq_true hm, decide_eq_true hv, h7]
    simp [mdl]
  · rw [decide_eq_false hm]; simp
end Go.Proofs.Ytbggenilngpjcaa.Cn
