/- What the clauses say: with all nodes as the graph has them all hold, with one turned one fails. No program. -/
import Derived.Test.YtbggenilngpjcaaCnPlain
import Derived.Test.YtbggenilngpjcaaClPlain
import Derived.Test.YtbggenilngpjcaaGrG
namespace Go.Proofs.Ytbggenilngpjcaa.Cn
open Go Go.Proofs.Ytbggenilngpjcaa.Gr

/-- The clauses are those of the nodes. -/
structure ClsOf (L : List Nd) (vs : List Nat) (cs : List (List Int)) : Prop where
  unit : [-1] ∈ cs
  back : ∀ c ∈ cs, c = [-1] ∨ ∃ n a b, n ∈ vs ∧ nd L n = some (a, b) ∧ c ∈ cls (var vs n) vs (some (a, b))
  forth : ∀ n a b, n ∈ vs → nd L n = some (a, b) → ∀ c ∈ cls (var vs n) vs (some (a, b)), c ∈ cs
  short : ∀ c ∈ cs, c.length ≤ 3
theorem ClsOf.start (L : List Nd) : ClsOf L [0] [[-1]] :=
  ⟨by simp, fun c hc => Or.inl (by simpa using hc), fun n a b hn e => (by simp at hn; subst hn; rw [nd_zero] at e; cases e), fun c hc => (by simp at hc; subst hc; decide)⟩
theorem cls_same {vs X : List Nat} {n a b : Nat} (h : n ∈ vs) (ha : a / 2 ∈ vs) (hb : b / 2 ∈ vs) : cls (var (vs ++ X) n) (vs ++ X) (some (a, b)) = cls (var vs n) vs (some (a, b)) := by
  rw [var_app h, cls_app]; intro p hp; cases hp; exact ⟨ha, hb⟩
theorem ClsOf.asn {L : List Nd} {S : Mk} {n : Nat} (h : ClsOf L S.vs S.cs) (hO : Ok L S.vs) (hn : n ∉ S.vs) : ClsOf L (Cn.asn L S n).vs (Cn.asn L S n).cs := by
  show ClsOf L (S.vs ++ [n]) (S.cs ++ cls (S.vs.length + 1) (S.vs ++ [n]) (nd L n))
  have hv := var_snoc hn
  refine ⟨List.mem_append.2 (Or.inl h.unit), fun c hc => ?_, fun k a b hk e c hc => ?_, fun c hc => ?_⟩
  · rcases List.mem_append.1 hc with q | q
    · rcases h.back c q with z | ⟨k, a, b, h1, h2, h3⟩
      · exact Or.inl z
      · have := hO.kids k a b h1 h2
        exact Or.inr ⟨k, a, b, by simp [h1], h2, by rw [cls_same h1 this.1 this.2]; exact h3⟩
    · cases e : nd L n with
      | none => rw [e] at q; simp [cls] at q
      | some p =>
        obtain ⟨a, b⟩ := p
        rw [e] at q
        exact Or.inr ⟨n, a, b, by simp, e, by rw [hv]; exact q⟩
  · rcases List.mem_append.1 hk with q | q
    · have := hO.kids k a b q e
      rw [cls_same q this.1 this.2] at hc
      exact List.mem_append.2 (Or.inl (h.forth k a b q e c hc))
    · simp at q; subst q
      rw [hv, ← e] at hc
      exact List.mem_append.2 (Or.inr hc)
  · rcases List.mem_append.1 hc with q | q
    · exact h.short c q
    · cases e : nd L n with
      | none => rw [e] at q; simp [cls] at q
      | some p =>
        rw [e] at q
        simp [cls] at q
        rcases q with q | q | q <;> subst q <;> simp
theorem Need.clsOf {L : List Nd} (hW : Wf L) {n : Nat} {S S' : Mk} (h : Need L n S S') : n < L.length + 1 → Ok L S.vs → ClsOf L S.vs S.cs → ClsOf L S'.vs S'.cs := by
  induction h with
  | old _ => exact fun _ _ h => h
  | leaf h1 _ => exact fun _ hO h => h.asn hO h1
  | @and n a b S S1 S2 h1 h2 p1 p2 ih1 ih2 =>
    intro hl hO h
    obtain ⟨q1, q2, q3, _⟩ := nd_pair hW h2
    have k1 := p1.ok hW hO (by omega)
    have k2 := p2.ok hW k1 (by omega)
    refine (ih2 (by omega) k1 (ih1 (by omega) hO h)).asn k2 fun q => ?_
    rcases p2.le hW n q with q | q
    · rcases p1.le hW n q with q | q
      · exact h1 q
      · omega
    · omega

/-- A node's value in a list of values. -/
def fv (vs : List Nat) (val : List Bool) (n : Nat) : Bool := val[var vs n - 1]!
theorem litB_lit {L : List Nd} {vs : List Nat} (_hO : Ok L vs) (hl : vs.length ≤ 100000) (val : List Bool) {e : Nat} (he : e / 2 ∈ vs) :
    Cl.litB val (lit vs e) = (fv vs val (e / 2) != (e % 2 == 1)) ∧ Cl.litB val (-lit vs e) = !(fv vs val (e / 2) != (e % 2 == 1)) := by
  have h1 := var_pos he
  have h2 := var_le vs (e / 2)
  have hc : ∀ x : Int, x ≠ 0 → -100000 ≤ x → x ≤ 100000 → Cl.isLit x = true := fun x a b c => (Cl.isLit_iff x).2 ⟨a, b, c⟩
  unfold Cl.litB Cl.valB fv lit
  generalize var vs (e / 2) = v at *
  have e1 : Cl.vr (v : Int) = (v : Int) := by unfold Cl.vr; omega
  have e2 : Cl.vr (-(v : Int)) = (v : Int) := by unfold Cl.vr; omega
  have e3 : (v : Int).toNat = v := by omega
  have d1 : decide ((0 : Int) < (v : Int)) = true := by rw [decide_eq_true_iff]; omega
  have d2 : decide ((0 : Int) < -(v : Int)) = false := by rw [decide_eq_false_iff_not]; omega
  rcases Nat.mod_two_eq_zero_or_one e with q | q
  · rw [if_neg (by omega), e1, e2, e3, d1, d2, hc _ (by omega) (by omega) (by omega), hc _ (by omega) (by omega) (by omega), q]
    cases val[v - 1]! <;> exact ⟨rfl, rfl⟩
  · rw [if_pos q, Int.neg_neg, e1, e2, e3, d1, d2, hc _ (by omega) (by omega) (by omega), hc _ (by omega) (by omega) (by omega), q]
    cases val[v - 1]! <;> exact ⟨rfl, rfl⟩
theorem litB_var {L : List Nd} {vs : List Nat} (hO : Ok L vs) (hl : vs.length ≤ 100000) (val : List Bool) {n : Nat} (hn : n ∈ vs) :
    Cl.litB val (var vs n : Int) = fv vs val n ∧ Cl.litB val (-(var vs n : Int)) = !fv vs val n := by
  have h := litB_lit hO hl val (e := 2 * n) (by rw [show 2 * n / 2 = n by omega]; exact hn)
  have e1 : lit vs (2 * n) = (var vs n : Int) := by unfold lit; rw [if_neg (by omega), show 2 * n / 2 = n by omega]
  rw [e1, show 2 * n / 2 = n by omega, show 2 * n % 2 = 0 by omega] at h
  refine ⟨h.1.trans ?_, h.2.trans ?_⟩ <;> cases fv vs val n <;> rfl

/-- The three clauses of an and. -/
theorem cls_hold {L : List Nd} {vs : List Nat} (hO : Ok L vs) (hl : vs.length ≤ 100000) (val : List Bool) {n a b : Nat} (hn : n ∈ vs) (ha : a / 2 ∈ vs) (hb : b / 2 ∈ vs) :
    (∀ c ∈ cls (var vs n) vs (some (a, b)), Cl.holdsB c val = true) ↔ fv vs val n = ((fv vs val (a / 2) != (a % 2 == 1)) && (fv vs val (b / 2) != (b % 2 == 1))) := by
  obtain ⟨v1, v2⟩ := litB_var hO hl val hn
  obtain ⟨a1, a2⟩ := litB_lit hO hl val ha
  obtain ⟨b1, b2⟩ := litB_lit hO hl val hb
  have hc : cls (var vs n) vs (some (a, b)) = [[-(var vs n : Int), lit vs a], [-(var vs n : Int), lit vs b], [(var vs n : Int), -lit vs a, -lit vs b]] := rfl
  rw [hc]
  simp only [List.mem_cons, List.not_mem_nil, or_false, forall_eq_or_imp, forall_eq, Cl.holdsB, List.any_cons, List.any_nil, v1, v2, a1, a2, b1, b2]
  cases fv vs val n <;> cases (fv vs val (a / 2) != (a % 2 == 1)) <;> cases (fv vs val (b / 2) != (b % 2 == 1)) <;> simp
theorem unit_hold {L : List Nd} {vs : List Nat} (hO : Ok L vs) (hl : vs.length ≤ 100000) (val : List Bool) : Cl.holdsB [-1] val = !fv vs val 0 := by
  have h := (litB_var hO hl val hO.zero).2
  have e : var vs 0 = 1 := var_at hO.nodup hO.head
  rw [e] at h
  show (Cl.litB val (-1) || false) = _
  rw [Bool.or_false]; exact h

/-- All nodes as the graph has them. -/
def valOf (m : Nat → Bool) (L : List Nd) (vs : List Nat) : List Bool := vs.map fun n => val m L (2 * n)
theorem valOf_len (m : Nat → Bool) (L : List Nd) (vs : List Nat) : (valOf m L vs).length = vs.length := List.length_map _
theorem valOf_fv {m : Nat → Bool} {L : List Nd} {vs : List Nat} {n : Nat} (hn : n ∈ vs) : fv vs (valOf m L vs) n = val m L (2 * n) := by
  have h1 := var_pos hn
  have h2 := var_le vs n
  have h3 := get_var hn
  unfold fv
  rw [getElem!_pos (valOf m L vs) _ (by rw [valOf_len]; omega)]
  have : (valOf m L vs)[var vs n - 1]? = some (val m L (2 * n)) := by unfold valOf; rw [List.getElem?_map, h3]; rfl
  rw [List.getElem?_eq_getElem (by rw [valOf_len]; omega)] at this
  exact Option.some.inj this
theorem val_two (m : Nat → Bool) (L : List Nd) (e : Nat) : (val m L (2 * (e / 2)) != (e % 2 == 1)) = val m L e := by
  rw [val_vs, val_vs, show 2 * (e / 2) / 2 = e / 2 by omega, show 2 * (e / 2) % 2 = 0 by omega]
  cases vs m L (e / 2) <;> cases (e % 2 == 1) <;> rfl
theorem all_hold {m : Nat → Bool} {L : List Nd} (hW : Wf L) {vs : List Nat} {cs : List (List Int)} (hO : Ok L vs) (hl : vs.length ≤ 100000) (h : ClsOf L vs cs) : Cl.allB cs (valOf m L vs) = true := by
  unfold Cl.allB
  rw [List.all_eq_true]
  intro c hc
  rcases h.back c hc with rfl | ⟨n, a, b, h1, h2, h3⟩
  · rw [unit_hold hO hl, valOf_fv hO.zero]
    show (!val m L 0) = true
    rw [val_zero]; rfl
  · have hk := hO.kids n a b h1 h2
    refine (cls_hold hO hl (valOf m L vs) h1 hk.1 hk.2).2 ?_ c h3
    rw [valOf_fv h1, valOf_fv hk.1, valOf_fv hk.2, val_two, val_two]
    obtain ⟨q1, q2, q3, _, q5, q6⟩ := nd_pair hW h2
    obtain ⟨k, rfl⟩ : ∃ k, n = k + 1 := ⟨n - 1, by omega⟩
    rw [nd_succ] at h2
    have hd : L[k]? = some (some (a, b)) := by
      cases e : L[k]? with
      | none => rw [e] at h2; cases h2
      | some d => rw [e] at h2; subst h2; rfl
    exact val_lt hW hd m

/-- One turned. -/
theorem fv_set {L : List Nd} {vs : List Nat} (hO : Ok L vs) (val : List Bool) (hlen : val.length = vs.length) {i n k : Nat} (hi : vs[i]? = some k) (u : Bool) (hn : n ∈ vs) : fv vs (val.set i u) n = if n = k then u else fv vs val n := by
  have hil := (List.getElem?_eq_some_iff.1 hi).1
  have hk := var_at hO.nodup hi
  have h1 := var_pos hn
  have h2 := var_le vs n
  unfold fv
  rw [getElem!_pos (val.set i u) _ (by rw [List.length_set]; omega), getElem!_pos val _ (by omega)]
  by_cases e : n = k
  · subst e
    rw [if_pos rfl]
    simp [hk]
  · rw [if_neg e, List.getElem_set_ne]
    intro q
    have h3 := get_var hn
    rw [← q, hi] at h3
    exact e (Option.some.inj h3).symm
theorem turned_fails {m : Nat → Bool} {L : List Nd} (hW : Wf L) {vs : List Nat} {cs : List (List Int)} (hO : Ok L vs) (hl : vs.length ≤ 100000) (h : ClsOf L vs cs) {i n : Nat} (hi : vs[i]? = some n) (hc : (nd L n).isSome = true ∨ i = 0) :
    Cl.allB cs ((valOf m L vs).set i (!val m L (2 * n))) = false := by
  have hn : n ∈ vs := List.mem_of_getElem? hi
  have hlen := valOf_len m L vs
  have hf : ∀ k, k ∈ vs → fv vs ((valOf m L vs).set i (!val m L (2 * n))) k = if k = n then !val m L (2 * n) else val m L (2 * k) := fun k hk => by
    rw [fv_set hO _ hlen hi _ hk, valOf_fv hk]
  rw [← Bool.not_eq_true]
  intro hall
  unfold Cl.allB at hall
  rw [List.all_eq_true] at hall
  cases e : nd L n with
  | some p =>
    obtain ⟨a, b⟩ := p
    have hk := hO.kids n a b hn e
    obtain ⟨q1, q2, q3, _, q5, q6⟩ := nd_pair hW e
    have := (cls_hold hO hl ((valOf m L vs).set i (!val m L (2 * n))) hn hk.1 hk.2).1 fun c hc => hall c (h.forth n a b hn e c hc)
    rw [hf n hn, hf _ hk.1, hf _ hk.2, if_pos rfl, if_neg (by omega), if_neg (by omega), val_two, val_two] at this
    obtain ⟨k, rfl⟩ : ∃ k, n = k + 1 := ⟨n - 1, by omega⟩
    rw [nd_succ] at e
    have hd : L[k]? = some (some (a, b)) := by
      cases e2 : L[k]? with
      | none => rw [e2] at e; cases e
      | some d => rw [e2] at e; subst e; rfl
    rw [val_lt hW hd m] at this
    exact absurd this (by cases val m L a <;> cases val m L b <;> decide)
  | none =>
    rcases hc with q | rfl
    · rw [e] at q; cases q
    · obtain rfl : n = 0 := Option.some.inj (hi.symm.trans hO.head)
      have := hall _ h.unit
      rw [unit_hold hO hl, hf 0 hn, if_pos rfl] at this
      rw [show val m L (2 * 0) = false from val_zero m L] at this
      cases this
end Go.Proofs.Ytbggenilngpjcaa.Cn
