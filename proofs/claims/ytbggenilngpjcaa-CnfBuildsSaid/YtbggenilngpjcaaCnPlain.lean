/- The maker's nodes and clauses: which nodes are needed, one below the other; what the clauses say. No program. -/
import Derived.Test.YtbggenilngpjcaaGrMem
namespace Go.Proofs.Ytbggenilngpjcaa.Cn
open Go Go.Proofs.Ytbggenilngpjcaa.Gr

/-- The nodes that have variables, in order; the clauses. -/
structure Mk where
  vs : List Nat
  cs : List (List Int)

/-- A node's variable; 0: it has none. -/
def var (vs : List Nat) (n : Nat) : Nat := if n ∈ vs then vs.idxOf n + 1 else 0
/-- An edge's literal. -/
def lit (vs : List Nat) (e : Nat) : Int := if e % 2 = 1 then -(var vs (e / 2) : Int) else (var vs (e / 2) : Int)

theorem var_le (vs : List Nat) (n : Nat) : var vs n ≤ vs.length := by
  unfold var; split
  · rename_i h; have := List.idxOf_lt_length_iff.2 h; omega
  · omega
theorem var_pos {vs : List Nat} {n : Nat} (h : n ∈ vs) : 1 ≤ var vs n := by unfold var; rw [if_pos h]; omega
theorem var_zero {vs : List Nat} {n : Nat} (h : n ∉ vs) : var vs n = 0 := if_neg h
theorem var_zero_iff (vs : List Nat) (n : Nat) : var vs n = 0 ↔ n ∉ vs := ⟨fun h q => by have := var_pos q; omega, var_zero⟩
theorem var_app {vs X : List Nat} {n : Nat} (h : n ∈ vs) : var (vs ++ X) n = var vs n := by
  unfold var; rw [if_pos h, if_pos (by simp [h]), List.idxOf_append, if_pos h]
theorem var_snoc {vs : List Nat} {n : Nat} (h : n ∉ vs) : var (vs ++ [n]) n = vs.length + 1 := by
  unfold var; rw [if_pos (by simp), List.idxOf_append, if_neg h]; simp
theorem var_snoc_ne {vs : List Nat} {n k : Nat} (h : k ≠ n) : var (vs ++ [n]) k = var vs k := by
  by_cases e : k ∈ vs
  · exact var_app e
  · rw [var_zero e, var_zero (by simp [e, h])]
theorem var_at {vs : List Nat} (hd : vs.Nodup) {i n : Nat} (h : vs[i]? = some n) : var vs n = i + 1 := by
  have hi := (List.getElem?_eq_some_iff.1 h).1
  have hm : n ∈ vs := List.mem_of_getElem? h
  have h2 := List.idxOf_lt_length_iff.2 hm
  have h3 : vs[vs.idxOf n]? = some n := by
    rw [List.getElem?_eq_getElem h2, List.getElem_idxOf h2]
  have : vs.idxOf n = i := (List.getElem?_inj h2 hd).1 (h3.trans h.symm)
  unfold var; rw [if_pos hm, this]
theorem get_var {vs : List Nat} {n : Nat} (h : n ∈ vs) : vs[var vs n - 1]? = some n := by
  have h2 := List.idxOf_lt_length_iff.2 h
  unfold var; rw [if_pos h, Nat.add_sub_cancel, List.getElem?_eq_getElem h2, List.getElem_idxOf h2]
theorem lit_app {vs X : List Nat} {e : Nat} (h : e / 2 ∈ vs) : lit (vs ++ X) e = lit vs e := by unfold lit; rw [var_app h]
theorem lit_neg (vs : List Nat) (e : Nat) : lit vs (neg e) = -lit vs e := by
  unfold lit
  rw [neg_half]
  rcases Nat.mod_two_eq_zero_or_one e with h | h
  · rw [neg_even h, if_pos (by omega), if_neg (by omega)]
  · rw [neg_odd h, if_neg (by omega), if_pos h]; omega
theorem lit_bd (vs : List Nat) (e : Nat) : -(vs.length : Int) ≤ lit vs e ∧ lit vs e ≤ vs.length := by
  have := var_le vs (e / 2)
  unfold lit; split <;> omega
theorem lit_ne {vs : List Nat} {e : Nat} (h : e / 2 ∈ vs) : lit vs e ≠ 0 := by
  have := var_pos h
  unfold lit; split <;> omega

/-- A node's clauses. -/
def cls (v : Nat) (vs : List Nat) : Nd → List (List Int)
  | none => []
  | some p => [[-(v : Int), lit vs p.1], [-(v : Int), lit vs p.2], [(v : Int), -lit vs p.1, -lit vs p.2]]
theorem cls_app {v : Nat} {vs X : List Nat} {d : Nd} (h : ∀ p, d = some p → p.1 / 2 ∈ vs ∧ p.2 / 2 ∈ vs) : cls v (vs ++ X) d = cls v vs d := by
  cases d with
  | none => rfl
  | some p => simp only [cls]; rw [lit_app (h p rfl).1, lit_app (h p rfl).2]
theorem cls_len (v : Nat) (vs : List Nat) (d : Nd) : (cls v vs d).length % 3 = 0 := by cases d <;> simp [cls]

/-- A node gets the next variable. -/
def asn (L : List Nd) (S : Mk) (n : Nat) : Mk := ⟨S.vs ++ [n], S.cs ++ cls (S.vs.length + 1) (S.vs ++ [n]) (nd L n)⟩

/-- A node is needed: first those below it. -/
inductive Need (L : List Nd) : Nat → Mk → Mk → Prop
  | old {n : Nat} {S : Mk} : n ∈ S.vs → Need L n S S
  | leaf {n : Nat} {S : Mk} : n ∉ S.vs → nd L n = none → Need L n S (asn L S n)
  | and {n a b : Nat} {S S1 S2 : Mk} : n ∉ S.vs → nd L n = some (a, b) → Need L (a / 2) S S1 → Need L (b / 2) S1 S2 → Need L n S (asn L S2 n)

theorem nd_pair {L : List Nd} (hW : Wf L) {n a b : Nat} (h : nd L n = some (a, b)) : 2 ≤ a ∧ a < b ∧ b < 2 * n ∧ b ≠ neg a ∧ 1 ≤ n ∧ n < L.length + 1 := by
  cases n with
  | zero => rw [nd_zero] at h; cases h
  | succ n =>
    rw [nd_succ] at h
    cases e : L[n]? with
    | none => rw [e] at h; cases h
    | some d =>
      rw [e] at h
      subst h
      have := hW.pair n a b e
      have hl := (List.getElem?_eq_some_iff.1 e).1
      exact ⟨this.1, this.2.1, this.2.2.1, this.2.2.2, by omega, by omega⟩

theorem Need.ext {L : List Nd} {n : Nat} {S S' : Mk} (h : Need L n S S') : ∃ X Y, S' = ⟨S.vs ++ X, S.cs ++ Y⟩ := by
  induction h with
  | old _ => exact ⟨[], [], by simp⟩
  | @leaf n S _ _ => exact ⟨[n], _, rfl⟩
  | @and n a b S S1 S2 _ _ _ _ ih1 ih2 =>
    obtain ⟨X, Y, rfl⟩ := ih1
    obtain ⟨X', Y', rfl⟩ := ih2
    exact ⟨X ++ X' ++ [n], Y ++ Y' ++ cls (S.vs.length + (X.length + X'.length) + 1) (S.vs ++ (X ++ (X' ++ [n]))) (nd L n), by unfold asn; simp⟩
theorem Need.mem {L : List Nd} {n : Nat} {S S' : Mk} (h : Need L n S S') : n ∈ S'.vs := by
  cases h with
  | old h => exact h
  | leaf _ _ => simp [asn]
  | and _ _ _ _ => simp [asn]
theorem Need.keep {L : List Nd} {n k : Nat} {S S' : Mk} (h : Need L n S S') (hk : k ∈ S.vs) : k ∈ S'.vs := by
  obtain ⟨X, Y, rfl⟩ := h.ext; simp [hk]
/-- What comes new is no greater. -/
theorem Need.le {L : List Nd} (hW : Wf L) {n : Nat} {S S' : Mk} (h : Need L n S S') : ∀ k ∈ S'.vs, k ∈ S.vs ∨ k ≤ n := by
  induction h with
  | old _ => exact fun k h => Or.inl h
  | @leaf n S _ _ =>
    intro k hk
    rcases List.mem_append.1 (show k ∈ S.vs ++ [n] from hk) with h | h
    · exact Or.inl h
    · exact Or.inr (by simp at h; omega)
  | @and n a b S S1 S2 _ hd _ _ ih1 ih2 =>
    intro k hk
    obtain ⟨q1, q2, q3, _⟩ := nd_pair hW hd
    rcases List.mem_append.1 (show k ∈ S2.vs ++ [n] from hk) with h | h
    · rcases ih2 k h with h | h
      · rcases ih1 k h with h | h
        · exact Or.inl h
        · exact Or.inr (by omega)
      · exact Or.inr (by omega)
    · exact Or.inr (by simp at h; omega)
/-- The clauses that stand there already make no difference. -/
theorem Need.move {L : List Nd} {n : Nat} {S S' : Mk} (h : Need L n S S') : ∃ Y, S'.cs = S.cs ++ Y ∧ ∀ D, Need L n ⟨S.vs, D⟩ ⟨S'.vs, D ++ Y⟩ := by
  induction h with
  | @old n S h => exact ⟨[], by simp, fun D => by rw [List.append_nil]; exact .old h⟩
  | @leaf n S h1 h2 => exact ⟨_, rfl, fun D => Need.leaf (S := ⟨S.vs, D⟩) h1 h2⟩
  | @and n a b S S1 S2 h1 h2 _ _ ih1 ih2 =>
    obtain ⟨Y1, e1, f1⟩ := ih1
    obtain ⟨Y2, e2, f2⟩ := ih2
    refine ⟨Y1 ++ Y2 ++ cls (S2.vs.length + 1) (S2.vs ++ [n]) (nd L n), by show S2.cs ++ _ = _; rw [e2, e1]; simp, fun D => ?_⟩
    have := Need.and (L := L) (n := n) (S := ⟨S.vs, D⟩) h1 h2 (f1 D) (f2 (D ++ Y1))
    unfold asn at this ⊢
    simpa using this
theorem Need.det {L : List Nd} {n : Nat} {S S' : Mk} (h : Need L n S S') : ∀ T, Need L n S T → T = S' := by
  induction h with
  | old h1 =>
    intro T h
    cases h with
    | old _ => rfl
    | leaf q _ => exact absurd h1 q
    | and q _ _ _ => exact absurd h1 q
  | leaf h1 h2 =>
    intro T h
    cases h with
    | old q => exact absurd q h1
    | leaf _ _ => rfl
    | and _ q _ _ => rw [h2] at q; cases q
  | and h1 h2 _ _ ih1 ih2 =>
    intro T h
    cases h with
    | old q => exact absurd q h1
    | leaf _ q => rw [h2] at q; cases q
    | and _ q r s =>
      rw [h2] at q; cases q
      have := ih1 _ r; subst this
      have := ih2 _ s; subst this
      rfl
theorem Need.total {L : List Nd} (hW : Wf L) (n : Nat) : ∀ S, ∃ S', Need L n S S' := by
  induction n using Nat.strongRecOn with
  | _ n ih =>
    intro S
    by_cases h : n ∈ S.vs
    · exact ⟨S, .old h⟩
    · cases e : nd L n with
      | none => exact ⟨_, .leaf h e⟩
      | some p =>
        obtain ⟨a, b⟩ := p
        obtain ⟨q1, q2, q3, _⟩ := nd_pair hW e
        obtain ⟨S1, h1⟩ := ih (a / 2) (by omega) S
        obtain ⟨S2, h2⟩ := ih (b / 2) (by omega) S1
        exact ⟨_, .and h e h1 h2⟩

/-- What always holds of a maker. -/
structure Ok (L : List Nd) (vs : List Nat) : Prop where
  head : vs[0]? = some 0
  nodup : vs.Nodup
  own : ∀ n ∈ vs, n < L.length + 1
  kids : ∀ n a b, n ∈ vs → nd L n = some (a, b) → a / 2 ∈ vs ∧ b / 2 ∈ vs
theorem Ok.start (L : List Nd) : Ok L [0] :=
  ⟨rfl, by simp, fun n h => by simp at h; omega, fun n a b h e => by simp at h; subst h; rw [nd_zero] at e; cases e⟩
theorem Ok.zero {L : List Nd} {vs : List Nat} (h : Ok L vs) : 0 ∈ vs := List.mem_of_getElem? h.head
theorem Ok.len {L : List Nd} {vs : List Nat} (h : Ok L vs) : vs.length ≤ L.length + 1 := by
  have := List.Nodup.length_le_of_subset h.nodup (l₂ := List.range (L.length + 1)) (fun n hn => by simpa using h.own n hn)
  simpa using this
theorem Ok.pos {L : List Nd} {vs : List Nat} (h : Ok L vs) : 1 ≤ vs.length := by
  have := (List.getElem?_eq_some_iff.1 h.head).1; omega
theorem Ok.snoc {L : List Nd} {vs : List Nat} (h : Ok L vs) {n : Nat} (hn : n ∉ vs) (hl : n < L.length + 1) (hk : ∀ a b, nd L n = some (a, b) → a / 2 ∈ vs ∧ b / 2 ∈ vs) : Ok L (vs ++ [n]) := by
  refine ⟨by rw [List.getElem?_append_left (by have := h.pos; omega)]; exact h.head, ?_, fun k hk' => ?_, fun k a b hk' e => ?_⟩
  · rw [List.nodup_append]
    refine ⟨h.nodup, by simp, fun x hx y hy => ?_⟩
    simp at hy; subst hy
    exact fun e => hn (e ▸ hx)
  · rcases List.mem_append.1 hk' with q | q
    · exact h.own k q
    · simp at q; omega
  · rcases List.mem_append.1 hk' with q | q
    · have := h.kids k a b q e; exact ⟨by simp [this.1], by simp [this.2]⟩
    · simp at q; subst q
      have := hk a b e; exact ⟨by simp [this.1], by simp [this.2]⟩
theorem nd_app {L X : List Nd} {n : Nat} (h : n < L.length + 1) : nd (L ++ X) n = nd L n := by
  cases n with
  | zero => rfl
  | succ n => rw [nd_succ, nd_succ, List.getElem?_append_left (by omega)]
theorem Ok.grow {L : List Nd} {vs : List Nat} (h : Ok L vs) (X : List Nd) : Ok (L ++ X) vs :=
  ⟨h.head, h.nodup, fun n hn => by have := h.own n hn; rw [List.length_append]; omega, fun n a b hn e => h.kids n a b hn (by rwa [nd_app (h.own n hn)] at e)⟩
theorem Need.ok {L : List Nd} (hW : Wf L) {n : Nat} {S S' : Mk} (h : Need L n S S') : Ok L S.vs → n < L.length + 1 → Ok L S'.vs := by
  induction h with
  | old _ => exact fun h _ => h
  | @leaf n S h1 h2 => exact fun h hl => h.snoc h1 hl fun a b e => by rw [h2] at e; cases e
  | @and n a b S S1 S2 h1 h2 p1 p2 ih1 ih2 =>
    intro h hl
    obtain ⟨q1, q2, q3, _⟩ := nd_pair hW h2
    have k1 := ih1 h (by omega)
    have k2 := ih2 k1 (by omega)
    refine k2.snoc (fun q => ?_) hl fun a' b' e => ?_
    · rcases p2.le hW n q with q | q
      · rcases p1.le hW n q with q | q
        · exact h1 q
        · omega
      · omega
    · rw [h2] at e; cases e
      exact ⟨p2.keep p1.mem, p2.mem⟩

/-! ### The list of nodes that wait -/
/-- What is left to be done: the last first. -/
inductive Runs (L : List Nd) : List Nat → Mk → Mk → Prop
  | nil {S : Mk} : Runs L [] S S
  | cons {x : Nat} {st : List Nat} {S S1 F : Mk} : Need L x S S1 → Runs L st S1 F → Runs L (st ++ [x]) S F

/-- What lacks: the first of a node's own two that has no variable, or else the node itself. -/
def lack (L : List Nd) (vs : List Nat) (n : Nat) : Nat :=
  match nd L n with
  | none => n
  | some p => if p.1 / 2 ∉ vs then p.1 / 2 else if p.2 / 2 ∉ vs then p.2 / 2 else n
/-- assign: a node that has a variable keeps it. -/
def asg (L : List Nd) (S : Mk) (n : Nat) : Mk := if n ∈ S.vs then S else asn L S n

/-- The nodes that wait: each lies below the one ahead of it; only the first may have a variable. -/
structure Wait (L : List Nd) (vs : List Nat) (st : List Nat) : Prop where
  own : ∀ x ∈ st, x < L.length + 1
  desc : st.Pairwise (fun a b => b < a)
  late : ∀ x ∈ st.tail, x ∉ vs
theorem Wait.start {L : List Nd} {vs : List Nat} {n : Nat} (h : n < L.length + 1) : Wait L vs [n] :=
  ⟨fun x hx => by simp at hx; omega, List.pairwise_singleton _ _, fun x hx => by simp at hx⟩
theorem Wait.bound {L : List Nd} {vs st : List Nat} (h : Wait L vs st) (hO : Ok L vs) : vs.length + st.length ≤ L.length + 2 := by
  have hd : st.Nodup := h.desc.imp fun q => by omega
  have ht : st.tail.Nodup := hd.sublist (List.tail_sublist st)
  have hn : (vs ++ st.tail).Nodup := by
    rw [List.nodup_append]
    exact ⟨hO.nodup, ht, fun x hx y hy e => h.late y hy (e ▸ hx)⟩
  have := List.Nodup.length_le_of_subset hn (l₂ := List.range (L.length + 1)) (fun n hn => by
    rcases List.mem_append.1 hn with q | q
    · simpa using hO.own n q
    · simpa using h.own n (List.mem_of_mem_tail q))
  simp at this
  omega
theorem Wait.push {L : List Nd} {vs st : List Nat} {x y : Nat} (h : Wait L vs (st ++ [x])) (hy : y ∉ vs) (hlt : y < x) : Wait L vs (st ++ [x] ++ [y]) := by
  have hx := h.own x (by simp)
  refine ⟨fun z hz => ?_, ?_, fun z hz => ?_⟩
  · rcases List.mem_append.1 hz with q | q
    · exact h.own z q
    · simp at q; omega
  · rw [List.pairwise_append]
    refine ⟨h.desc, List.pairwise_singleton _ _, fun a ha b hb => ?_⟩
    simp at hb; subst hb
    rcases List.mem_append.1 ha with q | q
    · have := (List.pairwise_append.1 h.desc).2.2 a q x (by simp); omega
    · simp at q; omega
  · rw [List.tail_append_of_ne_nil (by simp)] at hz
    rcases List.mem_append.1 hz with q | q
    · exact h.late z q
    · simp at q; subst q; exact hy
theorem Wait.pop {L : List Nd} {vs st : List Nat} {x : Nat} (h : Wait L vs (st ++ [x])) : Wait L vs st ∧ Wait L (vs ++ [x]) st ∧ (x ∈ vs → st = []) := by
  have hd := (List.pairwise_append.1 h.desc)
  have hs : ∀ z ∈ st.tail, z ∈ (st ++ [x]).tail := fun z hz => by
    cases st with
    | nil => simp at hz
    | cons a st => simp at hz ⊢; exact Or.inl hz
  refine ⟨⟨fun z hz => h.own z (by simp [hz]), hd.1, fun z hz => h.late z (hs z hz)⟩, ⟨fun z hz => h.own z (by simp [hz]), hd.1, fun z hz q => ?_⟩, fun hx => ?_⟩
  · rcases List.mem_append.1 q with q | q
    · exact h.late z (hs z hz) q
    · have := hd.2.2 z (List.mem_of_mem_tail hz) x (by simp)
      simp at q; omega
  · cases st with
    | nil => rfl
    | cons a st => exact absurd hx (h.late x (by simp))

theorem runs_inv {L : List Nd} {st : List Nat} {x : Nat} {S F : Mk} (h : Runs L (st ++ [x]) S F) : ∃ S1, Need L x S S1 ∧ Runs L st S1 F := by
  generalize e : st ++ [x] = l at h
  cases h with
  | nil => simp at e
  | cons h1 h2 =>
    obtain ⟨e1, e2⟩ := List.append_inj' e rfl
    simp at e2
    subst e1 e2
    exact ⟨_, h1, h2⟩
theorem runs_done {L : List Nd} {S F : Mk} (h : Runs L [] S F) : F = S := by
  generalize e : ([] : List Nat) = l at h
  cases h with
  | nil => rfl
  | cons _ _ => simp at e

theorem step_push {L : List Nd} (hW : Wf L) {vs : List Nat} {st : List Nat} {x y : Nat} {S F : Mk} (hv : S.vs = vs) (h : Runs L (st ++ [x]) S F) (hy : lack L vs x = y) (hne : y ≠ x) (hO : Ok L vs) :
    Runs L (st ++ [x] ++ [y]) S F ∧ y ∉ vs ∧ y < x := by
  subst hv
  obtain ⟨S1, h1, h2⟩ := runs_inv h
  unfold lack at hy
  cases e : nd L x with
  | none => rw [e] at hy; exact absurd hy.symm hne
  | some p =>
    obtain ⟨a, b⟩ := p
    obtain ⟨q1, q2, q3, _⟩ := nd_pair hW e
    simp only [e] at hy
    have hx : x ∉ S.vs := fun q => by
      have := hO.kids x a b q e
      rw [if_neg (by simp [this.1]), if_neg (by simp [this.2])] at hy
      exact hne hy.symm
    cases h1 with
    | old q => exact absurd q hx
    | leaf _ q => rw [e] at q; cases q
    | and _ q p1 p2 =>
      rw [e] at q; cases q
      rename_i Sa Sb
      by_cases ha : a / 2 ∉ S.vs
      · rw [if_pos ha] at hy
        subst hy
        refine ⟨.cons p1 (.cons (.and (fun q => ?_) e (.old p1.mem) p2) h2), ha, by omega⟩
        rcases p1.le hW x q with q | q
        · exact hx q
        · omega
      · have ha' : a / 2 ∈ S.vs := Classical.not_not.1 ha
        rw [if_neg ha] at hy
        have hS := ((Need.old (L := L) ha').det _ p1).symm
        subst hS
        by_cases hb : b / 2 ∉ S.vs
        · rw [if_pos hb] at hy
          subst hy
          refine ⟨.cons p2 (.cons (.and (fun q => ?_) e (.old (p2.keep ha')) (.old p2.mem)) h2), hb, by omega⟩
          rcases p2.le hW x q with q | q
          · exact hx q
          · omega
        · rw [if_neg hb] at hy; exact absurd hy.symm hne
theorem step_pop {L : List Nd} {st : List Nat} {x : Nat} {S F : Mk} (h : Runs L (st ++ [x]) S F) (hy : lack L S.vs x = x) (hlt : ∀ a b, nd L x = some (a, b) → a / 2 ≠ x ∧ b / 2 ≠ x) :
    Runs L st (asg L S x) F ∧ (x ∉ S.vs → ∀ a b, nd L x = some (a, b) → a / 2 ∈ S.vs ∧ b / 2 ∈ S.vs) := by
  obtain ⟨S1, h1, h2⟩ := runs_inv h
  have hk : ∀ a b, nd L x = some (a, b) → a / 2 ∈ S.vs ∧ b / 2 ∈ S.vs := by
    intro a b e
    unfold lack at hy
    simp only [e] at hy
    by_cases ha : a / 2 ∉ S.vs
    · rw [if_pos ha] at hy; exact absurd hy (hlt a b e).1
    · rw [if_neg ha] at hy
      by_cases hb : b / 2 ∉ S.vs
      · rw [if_pos hb] at hy; exact absurd hy (hlt a b e).2
      · exact ⟨Classical.not_not.1 ha, Classical.not_not.1 hb⟩
  refine ⟨?_, fun _ => hk⟩
  have : S1 = asg L S x := by
    unfold asg
    by_cases hx : x ∈ S.vs
    · rw [if_pos hx]; exact ((Need.old hx).det _ h1)
    · rw [if_neg hx]
      cases e : nd L x with
      | none => exact ((Need.leaf hx e).det _ h1)
      | some p =>
        obtain ⟨a, b⟩ := p
        have := hk a b e
        exact (Need.and hx e (.old this.1) (.old this.2)).det _ h1
  rw [← this]; exact h2
end Go.Proofs.Ytbggenilngpjcaa.Cn
