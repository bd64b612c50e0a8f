/- The trail and the watches of a checker, without the memory: what always holds. -/
import Derived.Test.YthpamogomfleoaaDoorRcRw
namespace Go.Proofs.YthpamogomfleoaaDoor.Rc
open Go Go.RowKit Go.Lib

/-- The literal n is made the second one, if it is the first. -/
def St.snd (σ : St) (p : Nat) (n : Int) : St := if (σ.lits p)[0]! = n then { σ with lits := upd σ.lits p (swp (σ.lits p) 0 1) } else σ

/-- Of the clauses that watch n some have been looked at: the state, those kept, those that are left. -/
inductive WkTo (σ0 : St) (n : Int) : St → List Nat → List Nat → Prop
  | start : WkTo σ0 n σ0 [] (σ0.wat n)
  | dead {σ K p R} : WkTo σ0 n σ K (p :: R) → σ.cps p = 0 → WkTo σ0 n σ K R
  | sat {σ K p R} : WkTo σ0 n σ K (p :: R) → σ.cps p ≠ 0 → σ.val ((σ.snd p n).lits p)[0]! = true → WkTo σ0 n (σ.snd p n) (K ++ [p]) R
  | move {σ K p R i} : WkTo σ0 n σ K (p :: R) → σ.cps p ≠ 0 → 2 ≤ i → i < ((σ.snd p n).lits p).length → σ.val (-((σ.snd p n).lits p)[i]!) = false → WkTo σ0 n ((σ.snd p n).rew p i) K R
  | unit {σ K p R} : WkTo σ0 n σ K (p :: R) → σ.cps p ≠ 0 → σ.val ((σ.snd p n).lits p)[0]! = false → (∀ j, 2 ≤ j → j < ((σ.snd p n).lits p).length → σ.val (-((σ.snd p n).lits p)[j]!) = true) → σ.val (-((σ.snd p n).lits p)[0]!) = false →
      WkTo σ0 n ((σ.snd p n).asn ((σ.snd p n).lits p)[0]! (p : Int)) (K ++ [p]) R
/-- What wake leaves: all have been looked at (-1), or the clause c is false. -/
inductive WkEnd (σ0 : St) (n : Int) : St → Int → Prop
  | done {σ K} : WkTo σ0 n σ K [] → WkEnd σ0 n { σ with wat := updI σ.wat n K } (-1)
  | bad {σ K p R} : WkTo σ0 n σ K (p :: R) → σ.cps p ≠ 0 → (∀ j, 2 ≤ j → j < ((σ.snd p n).lits p).length → σ.val (-((σ.snd p n).lits p)[j]!) = true) → σ.val (-((σ.snd p n).lits p)[0]!) = true →
      WkEnd σ0 n { σ.snd p n with wat := updI σ.wat n (K ++ p :: R) } (p : Int)

/-- The trail. -/
structure Trl (σ : St) : Prop where
  lt : ∀ l ∈ σ.asg, Lt σ.V l
  nd : σ.asg.Nodup
  val : ∀ n, In σ.V n → (σ.val n = true ↔ n ∈ σ.asg)
  con : ∀ l ∈ σ.asg, -l ∉ σ.asg
  head : σ.head ≤ σ.asg.length
/-- The clauses. -/
structure Cls (σ : St) : Prop where
  nd : ∀ p, p < σ.N → (σ.lits p).Nodup
  lt : ∀ p, p < σ.N → ∀ m ∈ σ.lits p, Lt σ.V m
  len : ∀ p, p < σ.N → (σ.lits p).length ≤ 1000
/-- The literals that a clause is watched by. -/
def W2 (σ : St) (p : Nat) (m : Int) : Prop := 2 ≤ (σ.lits p).length ∧ (m = (σ.lits p)[0]! ∨ m = (σ.lits p)[1]!)
structure Wts (σ : St) (wat : Int → List Nat) : Prop where
  entr : ∀ m, In σ.V m → ∀ p ∈ wat m, p < σ.N ∧ W2 σ p m
  has : ∀ p, p < σ.N → σ.cps p ≠ 0 → ∀ m, W2 σ p m → p ∈ wat m
  uniq : ∀ m, In σ.V m → (wat m).Nodup
/-- The literals of the lower level: all, or the first k. -/
def tk (b : Option Nat) (xs : List Int) : List Int := match b with | none => xs | some k => xs.take k
/-- A watch that is false, and has been looked at, has a true literal beside it, of no higher level. -/
def Wch (σ : St) (b : Option Nat) (ex : Nat → Int → Prop) : Prop :=
  ∀ p, p < σ.N → σ.cps p ≠ 0 → ∀ m, W2 σ p m → ¬ ex p m → -m ∈ σ.asg.take σ.head → ∃ o ∈ σ.lits p, o ∈ σ.asg ∧ (-m ∈ tk b σ.asg → o ∈ tk b σ.asg)
/-- What has implied a literal. -/
def Rsn (σ : St) (b : Option Nat) (so : List Int) : Prop :=
  ∀ i l, σ.asg[i]? = some l → (l ∈ so ∧ ∀ k, b = some k → k ≤ i) ∨ ∃ p : Nat, σ.rsn l = (p : Int) ∧ p < σ.N ∧ σ.cps p ≠ 0 ∧ 0 < (σ.lits p).length ∧ (σ.lits p)[0]! = l ∧ ∀ m ∈ σ.lits p, m ≠ l → -m ∈ σ.asg.take i
structure Inv (σ : St) (wat : Int → List Nat) (b : Option Nat) (so : List Int) (ex : Nat → Int → Prop) : Prop where
  t : Trl σ
  c : Cls σ
  w : Wts σ wat
  h : Wch σ b ex
  r : σ.stale = false → Rsn σ b so
  b : ∀ k, b = some k → k ≤ σ.asg.length

/-! ### Trails -/
theorem Trl.len {σ : St} (h : Trl σ) : σ.asg.length ≤ σ.V := by
  have h1 : (σ.asg.map Int.natAbs).Nodup := by
    rw [List.nodup_iff_pairwise_ne, List.pairwise_map]
    refine (List.nodup_iff_pairwise_ne.1 h.nd).imp_of_mem fun {a b} ha hb hne e => ?_
    have : a = b ∨ a = -b := by omega
    rcases this with q | q
    · exact hne q
    · exact h.con b hb (q ▸ ha)
  have := List.Nodup.length_le_of_subset (l₂ := List.range' 1 σ.V) h1 (fun x hx => by
    obtain ⟨l, hl, rfl⟩ := List.mem_map.1 hx
    have := h.lt l hl
    rw [List.mem_range'_1]
    have h0 := this.1; have h1 := this.2.1; have h2 := this.2.2
    omega)
  simpa using this
theorem nodup_len {N : Nat} {xs : List Nat} (h : xs.Nodup) (hb : ∀ x ∈ xs, x < N) : xs.length ≤ N := by
  have := List.Nodup.length_le_of_subset (l₂ := List.range N) h (fun x hx => List.mem_range.2 (hb x hx))
  simpa using this
theorem Wts.len {σ : St} {wat : Int → List Nat} (h : Wts σ wat) {m : Int} (hm : In σ.V m) : (wat m).length ≤ σ.N :=
  nodup_len (h.uniq m hm) fun p hp => (h.entr m hm p hp).1
theorem Trl.yes {σ : St} (h : Trl σ) {n : Int} (hn : In σ.V n) (hv : σ.val n = true) : n ∈ σ.asg := (h.val n hn).1 hv
theorem Trl.no {σ : St} (h : Trl σ) {n : Int} (hn : In σ.V n) (hv : σ.val n = false) : n ∉ σ.asg := fun q => by rw [(h.val n hn).2 q] at hv; cases hv
theorem idx_of_mem {xs : List Int} {l : Int} (h : l ∈ xs) : ∃ i, i < xs.length ∧ xs[i]? = some l := by
  obtain ⟨i, hi, e⟩ := List.mem_iff_getElem.1 h
  exact ⟨i, hi, by rw [List.getElem?_eq_getElem hi, e]⟩
theorem mem_take_of {xs : List Int} {i k : Nat} {l : Int} (h : xs[i]? = some l) (hk : i < k) : l ∈ xs.take k := by
  have hi : i < xs.length := (List.getElem?_eq_some_iff.1 h).1
  refine List.mem_iff_getElem.2 ⟨i, by rw [List.length_take]; omega, ?_⟩
  rw [List.getElem_take]
  exact (List.getElem?_eq_some_iff.1 h).2
theorem take_idx {xs : List Int} {k : Nat} {l : Int} (h : l ∈ xs.take k) : ∃ i, i < k ∧ xs[i]? = some l := by
  obtain ⟨i, hi, e⟩ := List.mem_iff_getElem.1 h
  rw [List.length_take] at hi
  rw [List.getElem_take] at e
  exact ⟨i, by omega, by rw [List.getElem?_eq_getElem (by omega), e]⟩
theorem nodup_inj {xs : List Int} (h : xs.Nodup) {i j : Nat} (hi : i < xs.length) (hj : j < xs.length) (e : xs[i] = xs[j]) : i = j := by
  rcases Nat.lt_trichotomy i j with c | c | c
  · exact absurd e (List.pairwise_iff_getElem.1 h i j hi hj c)
  · exact c
  · exact absurd e.symm (List.pairwise_iff_getElem.1 h j i hj hi c)
theorem nodup_idx {xs : List Int} (h : xs.Nodup) {i j : Nat} {l : Int} (hi : xs[i]? = some l) (hj : xs[j]? = some l) : i = j := by
  obtain ⟨a, ea⟩ := List.getElem?_eq_some_iff.1 hi
  obtain ⟨b, eb⟩ := List.getElem?_eq_some_iff.1 hj
  exact nodup_inj h a b (ea.trans eb.symm)

/-! ### A literal follows -/
theorem tk_snoc {b : Option Nat} {xs : List Int} {a l : Int} (hb : ∀ k, b = some k → k ≤ xs.length) (hl : l ∈ xs) : l ∈ tk b (xs ++ [a]) ↔ l ∈ tk b xs := by
  cases b with
  | none => simp [tk, hl]
  | some k =>
    have := hb k rfl
    simp only [tk]
    rw [List.take_append_of_le_length this]
theorem Trl.asn {σ : St} (h : Trl σ) {a r : Int} (ha : Lt σ.V a) (h1 : a ∉ σ.asg) (h2 : -a ∉ σ.asg) : Trl (σ.asn a r) where
  lt l hl := by
    rcases List.mem_append.1 hl with q | q
    · exact h.lt l q
    · rw [List.mem_singleton.1 q]; exact ha
  nd := by
    show (σ.asg ++ [a]).Nodup
    rw [List.nodup_append]
    exact ⟨h.nd, by simp, fun x hx y hy e => h1 (by rw [← List.mem_singleton.1 hy, ← e]; exact hx)⟩
  val n hn := by
    show updI σ.val a true n = true ↔ n ∈ σ.asg ++ [a]
    by_cases e : n = a
    · subst e; simp [updI_same]
    · rw [updI_ne _ _ _ e, h.val n hn]; simp [e]
  con l hl hl2 := by
    have hl : l ∈ σ.asg ++ [a] := hl
    have hl2 : -l ∈ σ.asg ++ [a] := hl2
    rcases List.mem_append.1 hl with q | q <;> rcases List.mem_append.1 hl2 with q2 | q2
    · exact h.con l q q2
    · have e := List.mem_singleton.1 q2; exact h2 (by rw [← e]; simpa using q)
    · rw [List.mem_singleton.1 q] at q2; exact h2 q2
    · have e1 := List.mem_singleton.1 q; have e2 := List.mem_singleton.1 q2; have := ha.1; omega
  head := by show σ.head ≤ (σ.asg ++ [a]).length; rw [List.length_append]; have := h.head; omega
theorem Inv.asn {σ : St} {wat : Int → List Nat} {b : Option Nat} {so : List Int} {ex : Nat → Int → Prop} (h : Inv σ wat b so ex) {a r : Int} (ha : Lt σ.V a) (h1 : a ∉ σ.asg) (h2 : -a ∉ σ.asg)
    (hr : σ.stale = false → (a ∈ so ∧ ∀ k, b = some k → k ≤ σ.asg.length) ∨ ∃ p : Nat, r = (p : Int) ∧ p < σ.N ∧ σ.cps p ≠ 0 ∧ 0 < (σ.lits p).length ∧ (σ.lits p)[0]! = a ∧ ∀ m ∈ σ.lits p, m ≠ a → -m ∈ σ.asg) : Inv (σ.asn a r) wat b so ex where
  t := h.t.asn ha h1 h2
  c := ⟨h.c.nd, h.c.lt, h.c.len⟩
  w := ⟨h.w.entr, h.w.has, h.w.uniq⟩
  h p hp hc m hw he hm := by
    have hm : -m ∈ (σ.asg ++ [a]).take σ.head := hm
    rw [List.take_append_of_le_length h.t.head] at hm
    obtain ⟨o, o1, o2, o3⟩ := h.h p hp hc m hw he hm
    have hma : -m ∈ σ.asg := List.mem_of_mem_take hm
    exact ⟨o, o1, List.mem_append_left _ o2, fun q => (tk_snoc h.b o2).2 (o3 ((tk_snoc h.b hma).1 q))⟩
  r hs i l hi := by
    have hi : (σ.asg ++ [a])[i]? = some l := hi
    by_cases hlt : i < σ.asg.length
    · rw [List.getElem?_append_left hlt] at hi
      have hla : l ≠ a := fun e => h1 (e ▸ List.mem_of_getElem? hi)
      rcases h.r hs i l hi with q | ⟨p, p1, p2, p3, p4, p5, p6⟩
      · exact Or.inl q
      · refine Or.inr ⟨p, by show updI σ.rsn a r l = _; rw [updI_ne _ _ _ hla]; exact p1, p2, p3, p4, p5, fun m hm hne => ?_⟩
        show -m ∈ (σ.asg ++ [a]).take i
        rw [List.take_append_of_le_length (by omega)]
        exact p6 m hm hne
    · have hil : i = σ.asg.length := by
        have := (List.getElem?_eq_some_iff.1 hi).1
        rw [List.length_append, List.length_singleton] at this; omega
      subst hil
      have hl : a = l := by simpa using hi
      subst hl
      rcases hr hs with q | ⟨p, p1, p2, p3, p4, p5, p6⟩
      · exact Or.inl q
      · refine Or.inr ⟨p, by show updI σ.rsn a r a = _; rw [updI_same]; exact p1, p2, p3, p4, p5, fun m hm hne => ?_⟩
        show -m ∈ (σ.asg ++ [a]).take σ.asg.length
        rw [List.take_left]
        exact p6 m hm hne
  b k hk := by show k ≤ (σ.asg ++ [a]).length; rw [List.length_append]; have := h.b k hk; omega

/-! ### Literals change places -/
theorem nodup_ne {xs : List Int} (h : xs.Nodup) {i j : Nat} (hi : i < xs.length) (hj : j < xs.length) (e : i ≠ j) : xs[i]! ≠ xs[j]! := by
  rw [getElem!_pos xs i hi, getElem!_pos xs j hj]
  exact fun q => e (nodup_inj h hi hj q)
/-- The clause's literals are laid anew: the same, those watched the same, the first one the same where it is true. -/
theorem Inv.lay {σ : St} {wat : Int → List Nat} {b : Option Nat} {so : List Int} {ex : Nat → Int → Prop} (h : Inv σ wat b so ex) {p : Nat} {ls : List Int} (hp : ls.Perm (σ.lits p))
    (hw : ∀ m, W2 { σ with lits := upd σ.lits p ls } p m ↔ W2 σ p m) (h0 : (σ.lits p)[0]! ∈ σ.asg → ls[0]! = (σ.lits p)[0]!) : Inv { σ with lits := upd σ.lits p ls } wat b so ex := by
  have mem : ∀ q m, m ∈ upd σ.lits p ls q ↔ m ∈ σ.lits q := fun q m => by
    by_cases e : q = p
    · subst e; rw [upd_same]; exact hp.mem_iff
    · rw [upd_ne _ _ _ e]
  have w2 : ∀ q m, W2 { σ with lits := upd σ.lits p ls } q m ↔ W2 σ q m := fun q m => by
    by_cases e : q = p
    · subst e; exact hw m
    · unfold W2; show 2 ≤ (upd σ.lits p ls q).length ∧ (m = (upd σ.lits p ls q)[0]! ∨ m = (upd σ.lits p ls q)[1]!) ↔ _; rw [upd_ne _ _ _ e]
  refine ⟨⟨h.t.lt, h.t.nd, h.t.val, h.t.con, h.t.head⟩, ⟨fun q hq => ?_, fun q hq m hm => h.c.lt q hq m ((mem q m).1 hm), fun q hq => ?_⟩, ⟨fun m hm q hq => ⟨(h.w.entr m hm q hq).1, (w2 q m).2 (h.w.entr m hm q hq).2⟩, fun q hq hc m hm => h.w.has q hq hc m ((w2 q m).1 hm), h.w.uniq⟩, fun q hq hc m hm he hn => ?_, fun hs i l hi => ?_, h.b⟩
  · show (upd σ.lits p ls q).Nodup
    by_cases e : q = p
    · subst e; rw [upd_same]; exact hp.nodup_iff.2 (h.c.nd q hq)
    · rw [upd_ne _ _ _ e]; exact h.c.nd q hq
  · show (upd σ.lits p ls q).length ≤ _
    by_cases e : q = p
    · subst e; rw [upd_same, hp.length_eq]; exact h.c.len q hq
    · rw [upd_ne _ _ _ e]; exact h.c.len q hq
  · obtain ⟨o, o1, o2, o3⟩ := h.h q hq hc m ((w2 q m).1 hm) he hn
    exact ⟨o, (mem q o).2 o1, o2, o3⟩
  · rcases h.r hs i l hi with q | ⟨q, p1, p2, p3, p4, p5, p6⟩
    · exact Or.inl q
    · refine Or.inr ⟨q, p1, p2, p3, ?_, ?_, fun m hm hne => p6 m ((mem q m).1 hm) hne⟩
      · show 0 < (upd σ.lits p ls q).length
        by_cases e : q = p
        · subst e; rw [upd_same, hp.length_eq]; exact p4
        · rw [upd_ne _ _ _ e]; exact p4
      · show (upd σ.lits p ls q)[0]! = l
        by_cases e : q = p
        · subst e; rw [upd_same, h0 (by rw [p5]; exact List.mem_of_getElem? hi)]; exact p5
        · rw [upd_ne _ _ _ e]; exact p5
theorem Inv.snd {σ : St} {wat : Int → List Nat} {b : Option Nat} {so : List Int} {ex : Nat → Int → Prop} (h : Inv σ wat b so ex) {p : Nat} {n : Int} (h2 : 2 ≤ (σ.lits p).length) (hn : n ∉ σ.asg) : Inv (σ.snd p n) wat b so ex := by
  unfold St.snd
  split
  · rename_i c
    refine h.lay (swp_perm (by omega) (by omega)) (fun m => ?_) (fun q => absurd (c ▸ q) hn)
    unfold W2
    show 2 ≤ (upd σ.lits p _ p).length ∧ (m = (upd σ.lits p _ p)[0]! ∨ m = (upd σ.lits p _ p)[1]!) ↔ _
    rw [upd_same, swp_length, swp_get (by omega) (by omega) (by omega), swp_get (by omega) (by omega) (by omega)]
    simp only [Nat.zero_ne_one, if_false, if_true]
    constructor
    · rintro ⟨a, c | c⟩
      · exact ⟨a, Or.inr c⟩
      · exact ⟨a, Or.inl c⟩
    · rintro ⟨a, c | c⟩
      · exact ⟨a, Or.inr c⟩
      · exact ⟨a, Or.inl c⟩
  · exact h
section
variable (σ : St) (p : Nat) (n : Int)
theorem snd_V : (σ.snd p n).V = σ.V := by unfold St.snd; split <;> rfl
theorem snd_val : (σ.snd p n).val = σ.val := by unfold St.snd; split <;> rfl
theorem snd_asg : (σ.snd p n).asg = σ.asg := by unfold St.snd; split <;> rfl
theorem snd_head : (σ.snd p n).head = σ.head := by unfold St.snd; split <;> rfl
theorem snd_wat : (σ.snd p n).wat = σ.wat := by unfold St.snd; split <;> rfl
theorem snd_N : (σ.snd p n).N = σ.N := by unfold St.snd; split <;> rfl
theorem snd_cps : (σ.snd p n).cps = σ.cps := by unfold St.snd; split <;> rfl
theorem snd_stale : (σ.snd p n).stale = σ.stale := by unfold St.snd; split <;> rfl
theorem snd_len (q : Nat) : ((σ.snd p n).lits q).length = (σ.lits q).length := by
  unfold St.snd
  split
  · show (upd σ.lits p (swp (σ.lits p) 0 1) q).length = _
    by_cases e : q = p
    · subst e; rw [upd_same, swp_length]
    · rw [upd_ne _ _ _ e]
  · rfl
end
theorem snd_mem {σ : St} {p : Nat} {n : Int} (h2 : 2 ≤ (σ.lits p).length) (q : Nat) (m : Int) : m ∈ (σ.snd p n).lits q ↔ m ∈ σ.lits q := by
  unfold St.snd
  split
  · show m ∈ upd σ.lits p (swp (σ.lits p) 0 1) q ↔ _
    by_cases e : q = p
    · subst e; rw [upd_same]; exact (swp_perm (by omega) (by omega)).mem_iff
    · rw [upd_ne _ _ _ e]
  · rfl
/-- Now n is the second one. -/
theorem snd_second {σ : St} {p : Nat} {n : Int} (hw : W2 σ p n) (hn : (σ.lits p).Nodup) : ((σ.snd p n).lits p)[1]! = n ∧ ((σ.snd p n).lits p)[0]! ≠ n := by
  obtain ⟨l2, hw⟩ := hw
  have hne : (σ.lits p)[0]! ≠ (σ.lits p)[1]! := nodup_ne hn (by omega) (by omega) (by decide)
  unfold St.snd
  split
  · rename_i c
    show (upd σ.lits p (swp (σ.lits p) 0 1) p)[1]! = n ∧ (upd σ.lits p (swp (σ.lits p) 0 1) p)[0]! ≠ n
    rw [upd_same, swp_get (by omega) (by omega) (by omega), swp_get (by omega) (by omega) (by omega)]
    simp only [Nat.zero_ne_one, if_false, if_true]
    exact ⟨c, fun e => hne (by rw [c, e])⟩
  · rename_i c
    rcases hw with e | e
    · exact absurd e.symm c
    · exact ⟨e.symm, c⟩
end Go.Proofs.YthpamogomfleoaaDoor.Rc
