/- A region that draws its order and ends in a store to what it reads: what it reads must stay till the end alone. -/
import Derived.WalkKit
import Derived.OrdersHeld
import Derived.Deep.RegionHeld
import Derived.StillTail
import Derived.Lib.Hide
import Derived.Below
import Derived.OneCell
namespace Go.Proofs.Ytbggenilngpjcaa.Cn
open Go Go.RowKit Go.Lib

section
variable {P : Program} {ops : Array Oper} {Q : Exit → Act → World → Prop} {md : Region.Mode} {S : World → Prop}

/-- Whatever order is picked from here on, and S holds behind every operation but the last. -/
def wpAnyL (P : Program) (md : Region.Mode) (ops : Array Oper) (Q : Exit → Act → World → Prop) (S : World → Prop) : Nat → Array Bool → Act → World → Prop
  | 0, listed, a, w => Region.ready md ops listed = [] ∧ Q .normal a w
  | fuel + 1, listed, a, w =>
    (Region.ready md ops listed = [] → Q .normal a w) ∧
    ∀ i ∈ Region.ready md ops listed, wpOp P ops Q i (fun a' w' => (Region.ready md ops (listed.setIfInBounds i true) ≠ [] → S w') ∧ wpAnyL P md ops Q S fuel (listed.setIfInBounds i true) a' w') a w

theorem wpAny_of_L : ∀ (fuel : Nat) (listed : Array Bool) (a : Act) (w : World), wpAnyL P md ops Q S fuel listed a w → wpAny P md ops Q fuel listed a w
  | 0, _, _, _, h => h
  | fuel + 1, _, _, _, h => ⟨h.1, fun i hi => wpOp_mono (fun a' w' h' => wpAny_of_L fuel _ a' w' h'.2) (h.2 i hi)⟩

/-- Each operation waits for earlier ones alone; the last one, in the end, for all others. -/
def backB (md : Region.Mode) (ops : Array Oper) : Bool := (List.range ops.size).all fun i => match ops[i]? with | some o => o.after.all (fun e => !Region.binds md e || decide (e.on < i)) | none => true
/-- What is listed waits for listed ones alone; the last one is not listed. -/
def headB (md : Region.Mode) (ops : Array Oper) (listed : Array Bool) : Bool :=
  decide (listed.size = ops.size) && !listed.getD (ops.size - 1) true &&
  (List.range ops.size).all fun j => !listed.getD j false || (match ops[j]? with | some o => o.after.all (fun e => !Region.binds md e || listed.getD e.on false) | none => true)
theorem headInv {listed : Array Bool} (h : headB md ops listed = true) (h0 : 0 < ops.size) : HeadInv md ops (ops.size - 1) listed := by
  unfold headB at h
  simp only [Bool.and_eq_true, decide_eq_true_eq, Bool.not_eq_true'] at h
  obtain ⟨⟨h1, h2⟩, h3⟩ := h
  refine ⟨h1, fun j oj hj hl e he hb => ?_, fun t ht ht' => ?_⟩
  · have hjs : j < ops.size := (Array.getElem?_eq_some_iff.1 hj).1
    have := List.all_eq_true.1 h3 j (List.mem_range.2 hjs)
    rw [hl, hj] at this
    simp only [Bool.not_true, Bool.false_or] at this
    have := Array.all_eq_true_iff_forall_mem.1 this e he
    simpa [hb] using this
  · obtain rfl : t = ops.size - 1 := by omega
    exact h2

theorem ready_ne {listed : Array Bool} (hb : backB md ops = true) {m : Nat} (hmo : m < ops.size) (hm : listed.getD m true = false) : Region.ready md ops listed ≠ [] := by
  have key : ∀ k, k < ops.size → listed.getD k true = false → ∃ j, j ∈ Region.ready md ops listed := by
    intro k
    induction k using Nat.strongRecOn with
    | _ k ih =>
      intro hk hl
      by_cases hall : ∀ i, i < k → listed.getD i true = true
      · refine ⟨k, mem_ready.2 ⟨hl, ops[k], Array.getElem?_eq_getElem hk, fun e he hbd => ?_⟩⟩
        have h1 := List.all_eq_true.1 hb k (List.mem_range.2 hk)
        rw [Array.getElem?_eq_getElem hk] at h1
        have h2 : e.on < k := by
          have := Array.all_eq_true_iff_forall_mem.1 h1 e he
          simpa [hbd] using this
        have h3 := hall e.on h2
        have hks : k < listed.size := by
          rcases Nat.lt_or_ge k listed.size with q | q
          · exact q
          · simp [Array.getElem?_eq_none q] at hl
        have h4 : e.on < listed.size := by omega
        simp [h4] at h3 ⊢
        exact h3
      · obtain ⟨i, hi⟩ := Classical.not_forall.1 hall
        obtain ⟨hi1, hi2⟩ := Classical.not_imp.1 hi
        exact ih i hi1 (by omega) (by simpa using hi2)
  obtain ⟨j, hj⟩ := key m hmo hm
  intro e
  rw [e] at hj
  cases hj

theorem wpAnyL_first {i : Nat} {oi : Oper} {v : Value} (hb : backB md ops = true) (hl : Region.sinkB md ops (ops.size - 1) = true) (hch : Region.chainB md ops (ops.size - 1) = true) (him : i < ops.size - 1) (hi : ops[i]? = some oi) (hsel : ∀ (j : Nat) (o : Oper) cs b, ops[j]? = some o → o.op ≠ .select cs b)
    (hQ : ∀ c a w, Q (.panic c) (a.put oi.dst v) w → Q (.panic c) a w) :
    ∀ (fuel : Nat) (listed : Array Bool) (a : Act) (w : World), HeadInv md ops (ops.size - 1) listed →
      (∀ j oj, ops[j]? = some oj → j ≠ i → listed.getD j true = false → (∀ e ∈ oj.after, Region.binds md e = true → e.on ≠ i) → oi.apart ops oj = true) →
      i ∈ Region.ready md ops listed → YieldsIf P ops S oi v a → S w →
      wpAnyL P md ops Q S fuel (listed.setIfInBounds i true) (a.put oi.dst v) w → wpAnyL P md ops Q S (fuel + 1) listed a w := by
  intro fuel
  induction fuel with
  | zero =>
    intro listed a w _ _ hr hy hS H
    refine ⟨fun h => (by rw [h] at hr; cases hr), fun j hj => ?_⟩
    by_cases hji : j = i
    · subst hji; exact hy.wpOp hi hS ⟨fun _ => hS, H⟩
    · have := ready_mono hj hji
      rw [H.1] at this
      cases this
  | succ fuel ih =>
    intro listed a w hlast hfree hr hy hS H
    refine ⟨fun h => (by rw [h] at hr; cases hr), fun j hj => ?_⟩
    by_cases hji : j = i
    · subst hji; exact hy.wpOp hi hS ⟨fun _ => hS, H⟩
    · have h1 := H.2 j (ready_mono hj hji)
      obtain ⟨hjun, oj, hoj, hall⟩ := mem_ready.1 hj
      have hnot : ∀ e ∈ oj.after, Region.binds md e = true → e.on ≠ i := fun e he hb heq => by
        have h1 := hall e he hb
        have h0 := (mem_ready.1 hr).1
        rw [heq] at h1
        rcases Nat.lt_or_ge i listed.size with h' | h'
        · simp [h'] at h0 h1; rw [h0] at h1; cases h1
        · simp [Array.getElem?_eq_none h'] at h1
      have hjm : j ≠ ops.size - 1 := by
        intro e
        have hi0 := (mem_ready.1 hr).1
        have hw := tail_waits hl hch (by omega) hlast (ops.size - 1 - i) i rfl him (by
          rcases Nat.lt_or_ge i listed.size with h' | h'
          · simp [h'] at hi0 ⊢; exact hi0
          · simp [Array.getElem?_eq_none h'] at hi0) (ops.size - 1) (Nat.le_refl _)
        exact hw (e ▸ hj)
      have h2 := wpOp_putIf hoj (hfree j oj hoj hji hjun hnot) (fun cs b => hsel i oi cs b hi) (fun cs b => hsel j oj cs b hoj) hQ hy h1
      have hfree' : ∀ k ok, ops[k]? = some ok → k ≠ i → (listed.setIfInBounds j true).getD k true = false →
          (∀ e ∈ ok.after, Region.binds md e = true → e.on ≠ i) → oi.apart ops ok = true := fun k ok hk hki hun hno => by
        refine hfree k ok hk hki ?_ hno
        by_cases hjk : j = k
        · subst hjk; exact hjun
        · rw [getD_set_ne true hjk] at hun; exact hun
      have hjs : j < ops.size := (Array.getElem?_eq_some_iff.1 hoj).1
      have hlast1 : HeadInv md ops (ops.size - 1) (listed.setIfInBounds j true) := hlast.set hj (by omega)
      have hlastF := hlast.tail (ops.size - 1) (Nat.le_refl _) (by omega)
      have hne : Region.ready md ops ((listed.setIfInBounds i true).setIfInBounds j true) ≠ [] :=
        ready_ne hb (m := ops.size - 1) (by omega) (by rw [getD_set_ne true hjm, getD_set_ne true (by omega)]; exact hlastF)
      refine wpOp_mono (fun a' w' h3 => ?_) h2
      have hSw : S w' := h3.2.1 hne
      refine ⟨fun _ => hSw, ih (listed.setIfInBounds j true) a' w' hlast1 hfree' (ready_mono hr (Ne.symm hji)) h3.1 hSw ?_⟩
      rw [Array.setIfInBounds_comm _ _ hji]
      exact h3.2.2

/-- Number i is taken first. -/
theorem wpAnyL_take {i : Nat} {oi : Oper} {v : Value} {fuel : Nat} {listed : Array Bool} {a : Act} {w : World} (hi : ops[i]? = some oi)
    (hc : (Region.noSelect ops && backB md ops && Region.sinkB md ops (ops.size - 1) && Region.chainB md ops (ops.size - 1) && decide (i < ops.size - 1) && headB md ops listed && Region.free md ops listed i && (Region.ready md ops listed).contains i) = true)
    (hQ : ∀ c a w, Q (.panic c) (a.put oi.dst v) w → Q (.panic c) a w) (hy : ∀ w, S w → (execOp a.eval oi).run P w = .ok (.value v) w) (hg : oi.guard = none) (hS : S w)
    (h : S w → wpAnyL P md ops Q S fuel (listed.setIfInBounds i true) (a.put oi.dst v) w) : wpAnyL P md ops Q S (fuel + 1) listed a w := by
  simp only [Bool.and_eq_true, decide_eq_true_eq] at hc
  obtain ⟨⟨⟨⟨⟨⟨⟨h1, h2⟩, h3⟩, h3'⟩, h4⟩, h5⟩, h6⟩, h7⟩ := hc
  exact wpAnyL_first h2 h3 h3' h4 hi (Region.noSelect_spec h1) hQ fuel listed a w (headInv h5 (by omega)) (Region.free_spec hi h6) (by simpa using h7) (Or.inl ⟨by simp [Region.wanted, hg], hy⟩) hS (h hS)

/-- Number i alone may come up, and is none of the last. -/
theorem wpAnyL_one {i : Nat} {o : Oper} {fuel : Nat} {listed : Array Bool} {a : Act} {w : World} (hr1 : (Region.ready md ops listed == [i]) = true) (ho : ops[i]? = some o) (hg : o.guard = none)
    (h : ∀ K : Act → World → Prop, Shut (∀ a' w', S w' → (S w' → wpAnyL P md ops Q S fuel (listed.setIfInBounds i true) a' w') → K a' w') → Oper.wp P o a w K Q) : wpAnyL P md ops Q S (fuel + 1) listed a w := by
  have hr : Region.ready md ops listed = [i] := by simpa using hr1
  refine ⟨fun h0 => (by rw [hr] at h0; cases h0), fun j hj => ?_⟩
  rw [hr] at hj
  obtain rfl : j = i := by simpa using hj
  refine wpOp_step ho fun K' hK => ?_
  rw [if_pos (by simp [Region.wanted, hg])]
  exact h K' fun a' w' hS hW => hK a' w' ⟨fun _ => hS, hW hS⟩

/-- The last one. -/
theorem wpAnyL_last {i : Nat} {o : Oper} {fuel : Nat} {listed : Array Bool} {a : Act} {w : World} (hr1 : (Region.ready md ops listed == [i] && Region.ready md ops (listed.setIfInBounds i true) == []) = true) (ho : ops[i]? = some o) (hg : o.guard = none)
    (h : ∀ K : Act → World → Prop, Shut (∀ a' w', Q .normal a' w' → K a' w') → Oper.wp P o a w K Q) : wpAnyL P md ops Q S (fuel + 1) listed a w := by
  obtain ⟨hr, hr2⟩ : Region.ready md ops listed = [i] ∧ Region.ready md ops (listed.setIfInBounds i true) = [] := by simpa using hr1
  refine ⟨fun h0 => (by rw [hr] at h0; cases h0), fun j hj => ?_⟩
  rw [hr] at hj
  obtain rfl : j = i := by simpa using hj
  refine wpOp_step ho fun K' hK => ?_
  rw [if_pos (by simp [Region.wanted, hg])]
  refine h K' fun a' w' hq => hK a' w' ⟨fun h0 => absurd hr2 h0, ?_⟩
  cases fuel with
  | zero => exact ⟨hr2, hq⟩
  | succ fuel => exact ⟨fun _ => hq, by rw [hr2]; simp⟩

theorem wp_region_L {id : Nat} {a : Act} {w : World} (n : Nat) (hm : (P.follows .mixedOrders && ops.size == n) = true) (hS : S w.drew)
    (h : S w.drew → wpAnyL P .any ops Q S n (Array.replicate n false) a w.drew) : (Code.region id ops true).wp P Q a w := by
  simp only [Bool.and_eq_true, beq_iff_eq] at hm
  obtain ⟨h1, rfl⟩ := hm
  exact wp_region_any h1 (wpAny_of_L _ _ _ _ (h hS))
end
end Go.Proofs.Ytbggenilngpjcaa.Cn
namespace Go.Proofs.Ytbggenilngpjcaa.Cn
open Go Go.RowKit Go.Lib
section
variable {P : Program} {ops : Array Oper} {Q : Exit → Act → World → Prop} {md : Region.Mode} {S : World → Prop}
/-- Numbers i and j may come up. -/
theorem wpAnyL_two {i j : Nat} {o o2 : Oper} {fuel : Nat} {listed : Array Bool} {a : Act} {w : World} (hr1 : (Region.ready md ops listed == [i, j]) = true) (ho : ops[i]? = some o) (ho2 : ops[j]? = some o2) (hg : o.guard = none) (hg2 : o2.guard = none)
    (h : ∀ K : Act → World → Prop, Shut (∀ a' w', S w' → (S w' → wpAnyL P md ops Q S fuel (listed.setIfInBounds i true) a' w') → K a' w') → Oper.wp P o a w K Q)
    (h2 : ∀ K : Act → World → Prop, Shut (∀ a' w', S w' → (S w' → wpAnyL P md ops Q S fuel (listed.setIfInBounds j true) a' w') → K a' w') → Oper.wp P o2 a w K Q) : wpAnyL P md ops Q S (fuel + 1) listed a w := by
  have hr : Region.ready md ops listed = [i, j] := by simpa using hr1
  refine ⟨fun h0 => (by rw [hr] at h0; cases h0), fun k hk => ?_⟩
  rw [hr] at hk
  rcases List.mem_cons.1 hk with rfl | hk
  · refine wpOp_step ho fun K' hK => ?_
    rw [if_pos (by simp [Region.wanted, hg])]
    exact h K' fun a' w' hS hW => hK a' w' ⟨fun _ => hS, hW hS⟩
  · obtain rfl : k = j := by simpa using hk
    refine wpOp_step ho2 fun K' hK => ?_
    rw [if_pos (by simp [Region.wanted, hg2])]
    exact h2 K' fun a' w' hS hW => hK a' w' ⟨fun _ => hS, hW hS⟩
theorem wpAnyL_three {i j k : Nat} {o o2 o3 : Oper} {fuel : Nat} {listed : Array Bool} {a : Act} {w : World} (hr1 : (Region.ready md ops listed == [i, j, k]) = true) (ho : ops[i]? = some o) (ho2 : ops[j]? = some o2) (ho3 : ops[k]? = some o3) (hg : o.guard = none) (hg2 : o2.guard = none) (hg3 : o3.guard = none)
    (h : ∀ K : Act → World → Prop, Shut (∀ a' w', S w' → (S w' → wpAnyL P md ops Q S fuel (listed.setIfInBounds i true) a' w') → K a' w') → Oper.wp P o a w K Q)
    (h2 : ∀ K : Act → World → Prop, Shut (∀ a' w', S w' → (S w' → wpAnyL P md ops Q S fuel (listed.setIfInBounds j true) a' w') → K a' w') → Oper.wp P o2 a w K Q)
    (h3 : ∀ K : Act → World → Prop, Shut (∀ a' w', S w' → (S w' → wpAnyL P md ops Q S fuel (listed.setIfInBounds k true) a' w') → K a' w') → Oper.wp P o3 a w K Q) : wpAnyL P md ops Q S (fuel + 1) listed a w := by
  have hr : Region.ready md ops listed = [i, j, k] := by simpa using hr1
  refine ⟨fun h0 => (by rw [hr] at h0; cases h0), fun n hn => ?_⟩
  rw [hr] at hn
  rcases List.mem_cons.1 hn with rfl | hn
  · refine wpOp_step ho fun K' hK => ?_
    rw [if_pos (by simp [Region.wanted, hg])]
    exact h K' fun a' w' hS hW => hK a' w' ⟨fun _ => hS, hW hS⟩
  rcases List.mem_cons.1 hn with rfl | hn
  · refine wpOp_step ho2 fun K' hK => ?_
    rw [if_pos (by simp [Region.wanted, hg2])]
    exact h2 K' fun a' w' hS hW => hK a' w' ⟨fun _ => hS, hW hS⟩
  · obtain rfl : n = k := by simpa using hn
    refine wpOp_step ho3 fun K' hK => ?_
    rw [if_pos (by simp [Region.wanted, hg3])]
    exact h3 K' fun a' w' hS hW => hK a' w' ⟨fun _ => hS, hW hS⟩

/-- What op j leaves behind: its own temporary and the deferred calls. -/
theorem wpOp_frame {j : Nat} {oj : Oper} {K : Act → World → Prop} {a : Act} {w : World} (hj : ops[j]? = some oj) (h : wpOp P ops Q j K a w) :
    wpOp P ops Q j (fun a' w' => (∃ u ds, a' = ({ a with defers := ds } : Act).put oj.dst u) ∧ K a' w') a w := by
  unfold wpOp at *
  simp only [hj] at *
  by_cases hw : Region.wanted oj (yielded ops a.tmps) = true
  · simp only [hw, if_true] at h ⊢
    rcases h with h | h
    case inr => exact .inr h
    left
    unfold Oper.wp at *
    generalize (execOp a.eval oj).run P w = r at *
    cases r with
    | ok n w' =>
      cases n <;> simp only [Oper.upon] at h ⊢
      case value u => exact ⟨⟨u, a.defers, rfl⟩, h⟩
      case skip => exact ⟨⟨undef, a.defers, rfl⟩, h⟩
      case defer d => exact ⟨⟨undef, d :: a.defers, rfl⟩, h⟩
      case enter f args =>
        refine Calls.mono h fun e w'' he => ?_
        cases e with
        | returned u => exact ⟨⟨u, a.defers, rfl⟩, he⟩
        | panicked c => exact he
        | outgrown => exact he
      case row row args => exact Rows.mono h fun u w'' he => ⟨⟨u, a.defers, rfl⟩, he⟩
    | halt x w' =>
      cases x <;> simp only [Oper.upon] at h ⊢
      case panic u => exact h
  · simp only [hw] at h ⊢
    exact ⟨⟨undef, a.defers, rfl⟩, h⟩

/-- In state a, in every world that meets S, operation o calls what answers v and leaves the world. -/
def CallsIf (P : Program) (ops : Array Oper) (S : World → Prop) (o : Oper) (f : FuncId) (args : Array Value) (v : Value) (a : Act) : Prop :=
  Region.wanted o (yielded ops a.tmps) = true ∧ (∀ w, (execOp a.eval o).run P w = .ok (.enter f args) w) ∧ ∀ w, S w → Calls P f args w fun e w' => e = .returned v ∧ w = w'
theorem CallsIf.wpOp {i : Nat} {o : Oper} {f : FuncId} {args : Array Value} {v : Value} {a : Act} (hi : ops[i]? = some o) (hy : CallsIf P ops S o f args v a) {K : Act → World → Prop} {w : World} (hS : S w) (h : K (a.put o.dst v) w) : wpOp P ops Q i K a w := by
  obtain ⟨h1, h2, h3⟩ := hy
  unfold Go.wpOp
  simp only [hi, h1, if_true]
  left
  unfold Oper.wp
  rw [h2 w]
  simp only [Oper.upon]
  refine (h3 w hS).mono ?_
  rintro e w' ⟨rfl, rfl⟩
  exact h
theorem CallsIf.put {o oj : Oper} {f : FuncId} {args : Array Value} {v : Value} {a : Act} (hy : CallsIf P ops S o f args v a) (hs : ∀ cs b, o.op ≠ .select cs b) (hap : ∀ d, oj.dst = some d → d ∉ o.looksAt ops) (u : Value) (ds : List Deferred) : CallsIf P ops S o f args v (({ a with defers := ds } : Act).put oj.dst u) := by
  obtain ⟨h1, h2, h3⟩ := hy
  refine ⟨?_, fun w => ?_, h3⟩
  · rw [wanted_put o _ oj.dst u hap]; exact h1
  · rw [execOp_put o hs _ oj.dst u hap]; exact h2 w

theorem wpAnyL_callF {i : Nat} {oi : Oper} {f : FuncId} {args : Array Value} {v : Value} (hb : backB md ops = true) (hl : Region.sinkB md ops (ops.size - 1) = true) (hch : Region.chainB md ops (ops.size - 1) = true) (him : i < ops.size - 1) (hi : ops[i]? = some oi) (hsel : ∀ (j : Nat) (o : Oper) cs b, ops[j]? = some o → o.op ≠ .select cs b)
    (hQ : ∀ c a w, Q (.panic c) (a.put oi.dst v) w → Q (.panic c) a w) :
    ∀ (fuel : Nat) (listed : Array Bool) (a : Act) (w : World), HeadInv md ops (ops.size - 1) listed →
      (∀ j oj, ops[j]? = some oj → j ≠ i → listed.getD j true = false → (∀ e ∈ oj.after, Region.binds md e = true → e.on ≠ i) → oi.apart ops oj = true) →
      i ∈ Region.ready md ops listed → CallsIf P ops S oi f args v a → S w →
      wpAnyL P md ops Q S fuel (listed.setIfInBounds i true) (a.put oi.dst v) w → wpAnyL P md ops Q S (fuel + 1) listed a w := by
  intro fuel
  induction fuel with
  | zero =>
    intro listed a w _ _ hr hy hS H
    refine ⟨fun h => (by rw [h] at hr; cases hr), fun j hj => ?_⟩
    by_cases hji : j = i
    · subst hji; exact hy.wpOp hi hS ⟨fun _ => hS, H⟩
    · have := ready_mono hj hji
      rw [H.1] at this
      cases this
  | succ fuel ih =>
    intro listed a w hlast hfree hr hy hS H
    refine ⟨fun h => (by rw [h] at hr; cases hr), fun j hj => ?_⟩
    by_cases hji : j = i
    · subst hji; exact hy.wpOp hi hS ⟨fun _ => hS, H⟩
    · have h1 := H.2 j (ready_mono hj hji)
      obtain ⟨hjun, oj, hoj, hall⟩ := mem_ready.1 hj
      have hi0 := (mem_ready.1 hr).1
      have hiF : listed.getD i false = false := by
        rcases Nat.lt_or_ge i listed.size with h' | h'
        · simp [h'] at hi0 ⊢; exact hi0
        · simp [Array.getElem?_eq_none h'] at hi0
      have hiT : listed.getD i true = false := hi0
      have hnot : ∀ e ∈ oj.after, Region.binds md e = true → e.on ≠ i := fun e he hb heq => by
        have h1 := hall e he hb
        rw [heq, hiF] at h1
        cases h1
      have hjm : j ≠ ops.size - 1 := fun e =>
        tail_waits hl hch (by omega) hlast (ops.size - 1 - i) i rfl him hiT (ops.size - 1) (Nat.le_refl _) (e ▸ hj)
      have hap := hfree j oj hoj hji hjun hnot
      have h2 := wpOp_putIf (S := fun _ => False) hoj hap (fun cs b => hsel i oi cs b hi) (fun cs b => hsel j oj cs b hoj) hQ (Or.inl ⟨hy.1, fun _ q => q.elim⟩) h1
      have h2 := wpOp_frame hoj h2
      have hfree' : ∀ k ok, ops[k]? = some ok → k ≠ i → (listed.setIfInBounds j true).getD k true = false →
          (∀ e ∈ ok.after, Region.binds md e = true → e.on ≠ i) → oi.apart ops ok = true := fun k ok hk hki hun hno => by
        refine hfree k ok hk hki ?_ hno
        by_cases hjk : j = k
        · subst hjk; exact hjun
        · rw [getD_set_ne true hjk] at hun; exact hun
      have hjs : j < ops.size := (Array.getElem?_eq_some_iff.1 hoj).1
      have hlast1 : HeadInv md ops (ops.size - 1) (listed.setIfInBounds j true) := hlast.set hj (by omega)
      have hlastF := hlast.tail (ops.size - 1) (Nat.le_refl _) (by omega)
      have hne : Region.ready md ops ((listed.setIfInBounds i true).setIfInBounds j true) ≠ [] :=
        ready_ne hb (m := ops.size - 1) (by omega) (by rw [getD_set_ne true hjm, getD_set_ne true (by omega)]; exact hlastF)
      refine wpOp_mono (fun a' w' h3 => ?_) h2
      obtain ⟨⟨u, ds, ha⟩, _, h4, h5⟩ := h3
      have hSw : S w' := h4 hne
      refine ⟨fun _ => hSw, ih (listed.setIfInBounds j true) a' w' hlast1 hfree' (ready_mono hr (Ne.symm hji)) ?_ hSw ?_⟩
      · rw [ha]; exact hy.put (fun cs b => hsel i oi cs b hi) (Oper.apart_spec hap).2.2 u ds
      · rw [Array.setIfInBounds_comm _ _ hji]
        exact h5

/-- Number i calls what only reads: it is taken first. -/
theorem wpAnyL_call {i : Nat} {oi : Oper} {f : FuncId} {args : Array Value} {v : Value} {fuel : Nat} {listed : Array Bool} {a : Act} {w : World} (hi : ops[i]? = some oi)
    (hc : (Region.noSelect ops && backB md ops && Region.sinkB md ops (ops.size - 1) && Region.chainB md ops (ops.size - 1) && decide (i < ops.size - 1) && headB md ops listed && Region.free md ops listed i && (Region.ready md ops listed).contains i) = true)
    (hQ : ∀ c a w, Q (.panic c) (a.put oi.dst v) w → Q (.panic c) a w) (hg : oi.guard = none) (hrun : ∀ w, (execOp a.eval oi).run P w = .ok (.enter f args) w) (hcl : ∀ w, S w → Calls P f args w fun e w' => e = .returned v ∧ w = w') (hS : S w)
    (h : S w → wpAnyL P md ops Q S fuel (listed.setIfInBounds i true) (a.put oi.dst v) w) : wpAnyL P md ops Q S (fuel + 1) listed a w := by
  simp only [Bool.and_eq_true, decide_eq_true_eq] at hc
  obtain ⟨⟨⟨⟨⟨⟨⟨h1, h2⟩, h3⟩, h3'⟩, h4⟩, h5⟩, h6⟩, h7⟩ := hc
  exact wpAnyL_callF h2 h3 h3' h4 hi (Region.noSelect_spec h1) hQ fuel listed a w (headInv h5 (by omega)) (Region.free_spec hi h6) (by simpa using h7) ⟨by simp [Region.wanted, hg], hrun, hcl⟩ hS (h hS)
end
theorem bStep {B : Nat} {w W W' : World} (h : Hid (Below B w W)) (hB : B ≤ w.heap.size) (hb : Below W.heap.size W W') : Hid (Below B w W') := h.out.trans (hb.mono (Nat.le_trans hB h.out.size))
theorem genNew {K : Act → World → Prop} {a : Act} {W : World} (o : Obj) (h : ∀ W', Below W.heap.size W W' → W'.heap[W.heap.size]? = some o → K a W') : K a (W.alloc o) :=
  h _ ((Below.refl _ _).alloc (Nat.le_refl _) _) (heap_alloc_new _ _)
theorem genNewD {K : Act → World → Prop} {a : Act} {W : World} (o : Obj) (h : ∀ W', Below W.heap.size W W' → W'.heap[W.heap.size]? = some o → K a W') : K a (W.alloc o).drew :=
  h _ ((Below.refl _ _).alloc (Nat.le_refl _) _).drew (heap_alloc_new _ _)
theorem Shut.keepF {k : Nat} {o : Obj} {W W' : World} (h : W.heap[k]? = some o) (hb : Below W.heap.size W W') : W'.heap[k]? = some o := (hb.block k (lt_of_block h)).trans h
section
variable {P : Program} {ops : Array Oper} {Q : Exit → Act → World → Prop} {md : Region.Mode} {S : World → Prop}
/-- Number i alone may come up, and is wanted. -/
theorem wpAnyH_oneG {i : Nat} {o : Oper} {fuel : Nat} {listed : Array Bool} {a : Act} {w : World} (hr1 : (Region.ready md ops listed == [i]) = true) (ho : ops[i]? = some o) (hg : Region.wanted o (yielded ops a.tmps) = true)
    (h : ∀ K : Act → World → Prop, Shut (∀ a' w', S w' → (S w' → wpAnyH P md ops Q S fuel (listed.setIfInBounds i true) a' w') → K a' w') → Oper.wp P o a w K Q) : wpAnyH P md ops Q S (fuel + 1) listed a w := by
  have hr : Region.ready md ops listed = [i] := by simpa using hr1
  refine wpAnyH_all hr (by simp) fun j hj => ?_
  obtain rfl : j = i := by simpa using hj
  refine wpOp_step ho fun K' hK => ?_
  rw [if_pos hg]
  exact h K' fun a' w' hS hW => hK a' w' ⟨hS, hW hS⟩
/-- Numbers i and j may come up, and are wanted. -/
theorem wpAnyH_twoG {i j : Nat} {o o2 : Oper} {fuel : Nat} {listed : Array Bool} {a : Act} {w : World} (hr1 : (Region.ready md ops listed == [i, j]) = true) (ho : ops[i]? = some o) (ho2 : ops[j]? = some o2) (hg : Region.wanted o (yielded ops a.tmps) = true) (hg2 : Region.wanted o2 (yielded ops a.tmps) = true)
    (h : ∀ K : Act → World → Prop, Shut (∀ a' w', S w' → (S w' → wpAnyH P md ops Q S fuel (listed.setIfInBounds i true) a' w') → K a' w') → Oper.wp P o a w K Q)
    (h2 : ∀ K : Act → World → Prop, Shut (∀ a' w', S w' → (S w' → wpAnyH P md ops Q S fuel (listed.setIfInBounds j true) a' w') → K a' w') → Oper.wp P o2 a w K Q) : wpAnyH P md ops Q S (fuel + 1) listed a w := by
  have hr : Region.ready md ops listed = [i, j] := by simpa using hr1
  refine wpAnyH_all hr (by simp) fun k hk => ?_
  rcases List.mem_cons.1 hk with rfl | hk
  · refine wpOp_step ho fun K' hK => ?_
    rw [if_pos hg]
    exact h K' fun a' w' hS hW => hK a' w' ⟨hS, hW hS⟩
  · obtain rfl : k = j := by simpa using hk
    refine wpOp_step ho2 fun K' hK => ?_
    rw [if_pos hg2]
    exact h2 K' fun a' w' hS hW => hK a' w' ⟨hS, hW hS⟩
end
end Go.Proofs.Ytbggenilngpjcaa.Cn
