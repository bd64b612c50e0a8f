/- A region that draws its order and ends in a store to what it reads: what it reads must stay till the end alone. -/
import Derived.WalkKit
import Derived.OrdersHeld
import Derived.Deep.RegionHeld
import Derived.StillTail
namespace Go.Proofs.Ytnkcdgpaphphaaa.Gr
open Go Go.RowKit

section
variable {P : Program} {ops : Array Oper} {Q : Exit → Act → World → Prop} {md : Region.Mode} {S : World → Prop}

/-- Whatever order is picked from here on, and S holds behind every operation but the last. -/
def wpAnyL (P : Program) (md : Region.Mode) (ops : Array Oper) (Q : Exit → Act → World → Prop) (S : World → Prop) : Nat → Array Bool → Act → World → Prop
  | 0, listed, a, w => Region.ready md ops listed = [] ∧ Q .normal a w
  | fuel + 1, listed, a, w =>
    (Region.ready md ops listed = [] → Q .normal a w) ∧
    ∀ i ∈ Region.ready md ops listed, wpOp P ops Q i (fun a' w' => (Region.ready md ops (listed.setIfInBounds i true) ≠ [] → S w') ∧ wpAnyL P md ops Q S fuel (listed.setIfInBounds i true) a' w') a w

theorem wpAny_of_L : ∀ (fuel : Nat) (listed : Array Bool) (a : Act) (w : World), wpAnyL P md ops Q S fuel listed a w → wpAny P md ops Q fuel listed a w
  | 0, _, _, _, h => h
  | fuel + 1, _, _, _, h => ⟨h.1, fun i hi => wpOp_mono (fun a' w' h' => wpAny_of_L fuel _ a' w' h'.2) (h.2 i hi)⟩

/-- Each operation waits for earlier ones alone; the last one, in the end, for all others. -/
def backB (md : Region.Mode) (ops : Array Oper) : Bool := (List.range ops.size).all fun i => match ops[i]? with | some o => o.after.all (fun e => !Region.binds md e || decide (e.on < i)) | none => true
/-- What is listed waits for listed ones alone; the last one is not listed. -/
def headB (md : Region.Mode) (ops : Array Oper) (listed : Array Bool) : Bool :=
  decide (listed.size = ops.size) && !listed.getD (ops.size - 1) true &&
  (List.range ops.size).all fun j => !listed.getD j false || (match ops[j]? with | some o => o.after.all (fun e => !Region.binds md e || listed.getD e.on false) | none => true)
theorem headInv {listed : Array Bool} (h : headB md ops listed = true) (h0 : 0 < ops.size) : HeadInv md ops (ops.size - 1) listed := by
  unfold headB at h
  simp only [Bool.and_eq_true, decide_eq_true_eq, Bool.not_eq_true'] at h
  obtain ⟨⟨h1, h2⟩, h3⟩ := h
  refine ⟨h1, fun j oj hj hl e he hb => ?_, fun t ht ht' => ?_⟩
  · have hjs : j < ops.size := (Array.getElem?_eq_some_iff.1 hj).1
    have := List.all_eq_true.1 h3 j (List.mem_range.2 hjs)
    rw [hl, hj] at this
    simp only [Bool.not_true, Bool.false_or] at this
    have := Array.all_eq_true_iff_forall_mem.1 this e he
    simpa [hb] using this
  · obtain rfl : t = ops.size - 1 := by omega
    exact h2

theorem ready_ne {listed : Array Bool} (hb : backB md ops = true) {m : Nat} (hmo : m < ops.size) (hm : listed.getD m true = false) : Region.ready md ops listed ≠ [] := by
  have key : ∀ k, k < ops.size → listed.getD k true = false → ∃ j, j ∈ Region.ready md ops listed := by
    intro k
    induction k using Nat.strongRecOn with
    | _ k ih =>
      intro hk hl
      by_cases hall : ∀ i, i < k → listed.getD i true = true
      · refine ⟨k, mem_ready.2 ⟨hl, ops[k], Array.getElem?_eq_getElem hk, fun e he hbd => ?_⟩⟩
        have h1 := List.all_eq_true.1 hb k (List.mem_range.2 hk)
        rw [Array.getElem?_eq_getElem hk] at h1
        have h2 : e.on < k := by
          have := Array.all_eq_true_iff_forall_mem.1 h1 e he
          simpa [hbd] using this
        have h3 := hall e.on h2
        have hks : k < listed.size := by
          rcases Nat.lt_or_ge k listed.size with q | q
          · exact q
          · simp [Array.getElem?_eq_none q] at hl
        have h4 : e.on < listed.size := by omega
        simp [h4] at h3 ⊢
        exact h3
      · obtain ⟨i, hi⟩ := Classical.not_forall.1 hall
        obtain ⟨hi1, hi2⟩ := Classical.not_imp.1 hi
        exact ih i hi1 (by omega) (by simpa using hi2)
  obtain ⟨j, hj⟩ := key m hmo hm
  intro e
  rw [e] at hj
  cases hj

theorem wpAnyL_first {i : Nat} {oi : Oper} {v : Value} (hb : backB md ops = true) (hl : Region.sinkB md ops (ops.size - 1) = true) (hch : Region.chainB md ops (ops.size - 1) = true) (him : i < ops.size - 1) (hi : ops[i]? = some oi) (hsel : ∀ (j : Nat) (o : Oper) cs b, ops[j]? = some o → o.op ≠ .select cs b)
    (hQ : ∀ c a w, Q (.panic c) (a.put oi.dst v) w → Q (.panic c) a w) :
    ∀ (fuel : Nat) (listed : Array Bool) (a : Act) (w : World), HeadInv md ops (ops.size - 1) listed →
      (∀ j oj, ops[j]? = some oj → j ≠ i → listed.getD j true = false → (∀ e ∈ oj.after, Region.binds md e = true → e.on ≠ i) → oi.apart ops oj = true) →
      i ∈ Region.ready md ops listed → YieldsIf P ops S oi v a → S w →
      wpAnyL P md ops Q S fuel (listed.setIfInBounds i true) (a.put oi.dst v) w → wpAnyL P md ops Q S (fuel + 1) listed a w := by
  intro fuel
  induction fuel with
  | zero =>
    intro listed a w _ _ hr hy hS H
    refine ⟨fun h => (by rw [h] at hr; cases hr), fun j hj => ?_⟩
    by_cases hji : j = i
    · subst hji; exact hy.wpOp hi hS ⟨fun _ => hS, H⟩
    · have := ready_mono hj hji
      rw [H.1] at this
      cases this
  | succ fuel ih =>
    intro listed a w hlast hfree hr hy hS H
    refine ⟨fun h => (by rw [h] at hr; cases hr), fun j hj => ?_⟩
    by_cases hji : j = i
    · subst hji; exact hy.wpOp hi hS ⟨fun _ => hS, H⟩
    · have h1 := H.2 j (ready_mono hj hji)
      obtain ⟨hjun, oj, hoj, hall⟩ := mem_ready.1 hj
      have hnot : ∀ e ∈ oj.after, Region.binds md e = true → e.on ≠ i := fun e he hb heq => by
        have h1 := hall e he hb
        have h0 := (mem_ready.1 hr).1
        rw [heq] at h1
        rcases Nat.lt_or_ge i listed.size with h' | h'
        · simp [h'] at h0 h1; rw [h0] at h1; cases h1
        · simp [Array.getElem?_eq_none h'] at h1
      have hjm : j ≠ ops.size - 1 := by
        intro e
        have hi0 := (mem_ready.1 hr).1
        have hw := tail_waits hl hch (by omega) hlast (ops.size - 1 - i) i rfl him (by
          rcases Nat.lt_or_ge i listed.size with h' | h'
          · simp [h'] at hi0 ⊢; exact hi0
          · simp [Array.getElem?_eq_none h'] at hi0) (ops.size - 1) (Nat.le_refl _)
        exact hw (e ▸ hj)
      have h2 := wpOp_putIf hoj (hfree j oj hoj hji hjun hnot) (fun cs b => hsel i oi cs b hi) (fun cs b => hsel j oj cs b hoj) hQ hy h1
      have hfree' : ∀ k ok, ops[k]? = some ok → k ≠ i → (listed.setIfInBounds j true).getD k true = false →
          (∀ e ∈ ok.after, Region.binds md e = true → e.on ≠ i) → oi.apart ops ok = true := fun k ok hk hki hun hno => by
        refine hfree k ok hk hki ?_ hno
        by_cases hjk : j = k
        · subst hjk; exact hjun
        · rw [getD_set_ne true hjk] at hun; exact hun
      have hjs : j < ops.size := (Array.getElem?_eq_some_iff.1 hoj).1
      have hlast1 : HeadInv md ops (ops.size - 1) (listed.setIfInBounds j true) := hlast.set hj (by omega)
      have hlastF := hlast.tail (ops.size - 1) (Nat.le_refl _) (by omega)
      have hne : Region.ready md ops ((listed.setIfInBounds i true).setIfInBounds j true) ≠ [] :=
        ready_ne hb (m := ops.size - 1) (by omega) (by rw [getD_set_ne true hjm, getD_set_ne true (by omega)]; exact hlastF)
      refine wpOp_mono (fun a' w' h3 => ?_) h2
      have hSw : S w' := h3.2.1 hne
      refine ⟨fun _ => hSw, ih (listed.setIfInBounds j true) a' w' hlast1 hfree' (ready_mono hr (Ne.symm hji)) h3.1 hSw ?_⟩
      rw [Array.setIfInBounds_comm _ _ hji]
      exact h3.2.2

/-- Number i is taken first. -/
theorem wpAnyL_take {i : Nat} {oi : Oper} {v : Value} {fuel : Nat} {listed : Array Bool} {a : Act} {w : World} (hi : ops[i]? = some oi)
    (hc : (Region.noSelect ops && backB md ops && Region.sinkB md ops (ops.size - 1) && Region.chainB md ops (ops.size - 1) && decide (i < ops.size - 1) && headB md ops listed && Region.free md ops listed i && (Region.ready md ops listed).contains i) = true)
    (hQ : ∀ c a w, Q (.panic c) (a.put oi.dst v) w → Q (.panic c) a w) (hy : ∀ w, S w → (execOp a.eval oi).run P w = .ok (.value v) w) (hg : oi.guard = none) (hS : S w)
    (h : S w → wpAnyL P md ops Q S fuel (listed.setIfInBounds i true) (a.put oi.dst v) w) : wpAnyL P md ops Q S (fuel + 1) listed a w := by
  simp only [Bool.and_eq_true, decide_eq_true_eq] at hc
  obtain ⟨⟨⟨⟨⟨⟨⟨h1, h2⟩, h3⟩, h3'⟩, h4⟩, h5⟩, h6⟩, h7⟩ := hc
  exact wpAnyL_first h2 h3 h3' h4 hi (Region.noSelect_spec h1) hQ fuel listed a w (headInv h5 (by omega)) (Region.free_spec hi h6) (by simpa using h7) (Or.inl ⟨by simp [Region.wanted, hg], hy⟩) hS (h hS)

/-- Number i alone may come up, and is none of the last. -/
theorem wpAnyL_one {i : Nat} {o : Oper} {fuel : Nat} {listed : Array Bool} {a : Act} {w : World} (hr1 : (Region.ready md ops listed == [i]) = true) (ho : ops[i]? = some o) (hg : o.guard = none)
    (h : ∀ K : Act → World → Prop, Shut (∀ a' w', S w' → (S w' → wpAnyL P md ops Q S fuel (listed.setIfInBounds i true) a' w') → K a' w') → Oper.wp P o a w K Q) : wpAnyL P md ops Q S (fuel + 1) listed a w := by
  have hr : Region.ready md ops listed = [i] := by simpa using hr1
  refine ⟨fun h0 => (by rw [hr] at h0; cases h0), fun j hj => ?_⟩
  rw [hr] at hj
  obtain rfl : j = i := by simpa using hj
  refine wpOp_step ho fun K' hK => ?_
  rw [if_pos (by simp [Region.wanted, hg])]
  exact h K' fun a' w' hS hW => hK a' w' ⟨fun _ => hS, hW hS⟩

/-- The last one. -/
theorem wpAnyL_last {i : Nat} {o : Oper} {fuel : Nat} {listed : Array Bool} {a : Act} {w : World} (hr1 : (Region.ready md ops listed == [i] && Region.ready md ops (listed.setIfInBounds i true) == []) = true) (ho : ops[i]? = some o) (hg : o.guard = none)
    (h : ∀ K : Act → World → Prop, Shut (∀ a' w', Q .normal a' w' → K a' w') → Oper.wp P o a w K Q) : wpAnyL P md ops Q S (fuel + 1) listed a w := by
  obtain ⟨hr, hr2⟩ : Region.ready md ops listed = [i] ∧ Region.ready md ops (listed.setIfInBounds i true) = [] := by simpa using hr1
  refine ⟨fun h0 => (by rw [hr] at h0; cases h0), fun j hj => ?_⟩
  rw [hr] at hj
  obtain rfl : j = i := by simpa using hj
  refine wpOp_step ho fun K' hK => ?_
  rw [if_pos (by simp [Region.wanted, hg])]
  refine h K' fun a' w' hq => hK a' w' ⟨fun h0 => absurd hr2 h0, ?_⟩
  cases fuel with
  | zero => exact ⟨hr2, hq⟩
  | succ fuel => exact ⟨fun _ => hq, by rw [hr2]; simp⟩

theorem wp_region_L {id : Nat} {a : Act} {w : World} (n : Nat) (hm : (P.follows .mixedOrders && ops.size == n) = true) (hS : S w.drew)
    (h : S w.drew → wpAnyL P .any ops Q S n (Array.replicate n false) a w.drew) : (Code.region id ops true).wp P Q a w := by
  simp only [Bool.and_eq_true, beq_iff_eq] at hm
  obtain ⟨h1, rfl⟩ := hm
  exact wp_region_any h1 (wpAny_of_L _ _ _ _ (h hS))
end
end Go.Proofs.Ytnkcdgpaphphaaa.Gr
