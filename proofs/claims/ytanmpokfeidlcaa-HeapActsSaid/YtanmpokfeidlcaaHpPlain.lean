/- The heap without the program: an order of variables, places and parents, what rising and sinking keep. -/
import Derived.WalkKit
namespace Go.Proofs.Ytanmpokfeidlcaa.Hp

def upd {α : Type} (f : Nat → α) (i : Nat) (x : α) : Nat → α := fun j => if j = i then x else f j
theorem upd_same {α : Type} (f : Nat → α) (i : Nat) (x : α) : upd f i x i = x := by simp [upd]
theorem upd_ne {α : Type} (f : Nat → α) (i : Nat) (x : α) {j : Nat} (h : j ≠ i) : upd f i x j = f j := by simp [upd, h]

/-- u comes before v. -/
def bef (A : Nat → Int) (u v : Nat) : Bool := decide (A v < A u ∨ (A u = A v ∧ u < v))
theorem bef_iff {A : Nat → Int} {u v : Nat} : bef A u v = true ↔ (A v < A u ∨ (A u = A v ∧ u < v)) := by simp [bef]
theorem bef_not {A : Nat → Int} {u v : Nat} : bef A u v = false ↔ (A u < A v ∨ (A u = A v ∧ v ≤ u)) := by
  rw [← Bool.not_eq_true, bef_iff]; omega
theorem bef_asymm {A : Nat → Int} {u v : Nat} (h : bef A u v = true) : bef A v u = false := by rw [bef_iff] at h; rw [bef_not]; omega
theorem bef_trans {A : Nat → Int} {u v w : Nat} (h : bef A u v = true) (k : bef A v w = true) : bef A u w = true := by rw [bef_iff] at *; omega
theorem bef_ntrans {A : Nat → Int} {u v w : Nat} (h : bef A u v = false) (k : bef A v w = false) : bef A u w = false := by rw [bef_not] at *; omega
theorem bef_mixed {A : Nat → Int} {u v w : Nat} (h : bef A u w = false) (k : bef A v w = true) : bef A u v = false := by rw [bef_iff] at k; rw [bef_not] at *; omega
theorem bef_total {A : Nat → Int} {u v : Nat} (h : bef A u v = false) (hne : u ≠ v) : bef A v u = true := by rw [bef_not] at h; rw [bef_iff]; omega

def par (j : Nat) : Nat := (j - 1) / 2

/-- The places of the contained ones fit the tree; the place of x is let go. -/
structure Inv (x n k : Nat) (T : Nat → Nat) (P : Nat → Int) : Prop where
  le : k ≤ n
  tree : ∀ i, i < k → 1 ≤ T i ∧ T i ≤ n ∧ P (T i) = (i : Int)
  place : ∀ v, 1 ≤ v → v ≤ n → v ≠ x → P v = -1 ∨ ∃ i, i < k ∧ P v = (i : Int) ∧ T i = v
  away : ∀ i, i < k → T i ≠ x

theorem Inv.inj {x n k : Nat} {T : Nat → Nat} {P : Nat → Int} (h : Inv x n k T P) {i j : Nat} (hi : i < k) (hj : j < k) (e : T i = T j) : i = j := by
  have h1 := (h.tree i hi).2.2
  have h2 := (h.tree j hj).2.2
  rw [e] at h1
  omega

/-- Those that differ from their parent m or higher are in order. -/
def OrdFrom (m k : Nat) (A : Nat → Int) (T : Nat → Nat) : Prop := ∀ j, 0 < j → j < k → m ≤ par j → bef A (T j) (T (par j)) = false

/-- Two places are exchanged. -/
def swpT (T : Nat → Nat) (i a : Nat) : Nat → Nat := upd (upd T i (T a)) a (T i)
def swpP (T : Nat → Nat) (P : Nat → Int) (i a : Nat) : Nat → Int := upd (upd P (T a) (i : Int)) (T i) (a : Int)

theorem swpT_at (T : Nat → Nat) {i a : Nat} : swpT T i a a = T i := by simp [swpT, upd]
theorem swpT_from (T : Nat → Nat) {i a : Nat} (h : i ≠ a) : swpT T i a i = T a := by simp [swpT, upd, h]
theorem swpT_else (T : Nat → Nat) {i a j : Nat} (h1 : j ≠ i) (h2 : j ≠ a) : swpT T i a j = T j := by simp [swpT, upd, h1, h2]

theorem Inv.swp {x n k : Nat} {T : Nat → Nat} {P : Nat → Int} (h : Inv x n k T P) {i a : Nat} (hi : i < k) (ha : a < k) (hne : i ≠ a) : Inv x n k (swpT T i a) (swpP T P i a) := by
  have hTne : T i ≠ T a := fun e => hne (h.inj hi ha e)
  refine ⟨h.le, fun j hj => ?_, fun v h1 h2 hx => ?_, fun j hj => ?_⟩
  · by_cases e : j = a
    · subst e
      rw [swpT_at]
      exact ⟨(h.tree i hi).1, (h.tree i hi).2.1, by simp [swpP, upd]⟩
    · by_cases e2 : j = i
      · subst e2
        rw [swpT_from T hne]
        exact ⟨(h.tree a ha).1, (h.tree a ha).2.1, by simp [swpP, upd, Ne.symm hTne]⟩
      · rw [swpT_else T e2 e]
        have hj1 : T j ≠ T i := fun q => e2 (h.inj hj hi q)
        have hj2 : T j ≠ T a := fun q => e (h.inj hj ha q)
        exact ⟨(h.tree j hj).1, (h.tree j hj).2.1, by simp [swpP, upd, hj1, hj2]; exact (h.tree j hj).2.2⟩
  · by_cases e : v = T i
    · subst e
      exact Or.inr ⟨a, ha, by simp [swpP, upd], swpT_at T⟩
    · by_cases e2 : v = T a
      · subst e2
        exact Or.inr ⟨i, hi, by simp [swpP, upd, e], swpT_from T hne⟩
      · rcases h.place v h1 h2 hx with h3 | ⟨j, hj, h3, h4⟩
        · exact Or.inl (by simp [swpP, upd, e, e2]; exact h3)
        · refine Or.inr ⟨j, hj, by simp [swpP, upd, e, e2]; exact h3, ?_⟩
          rw [swpT_else T (fun q => e (by rw [← h4, q])) (fun q => e2 (by rw [← h4, q]))]
          exact h4
  · by_cases e : j = a
    · subst e; rw [swpT_at]; exact h.away i hi
    · by_cases e2 : j = i
      · subst e2; rw [swpT_from T hne]; exact h.away a ha
      · rw [swpT_else T e2 e]; exact h.away j hj

theorem swpP_neg {x n k : Nat} {T : Nat → Nat} {P : Nat → Int} (h : Inv x n k T P) {i a : Nat} (hi : i < k) (ha : a < k) (v : Nat) : (swpP T P i a v ≠ -1 ↔ P v ≠ -1) := by
  unfold swpP upd
  by_cases e : v = T i
  · subst e; have := (h.tree i hi).2.2; simp; omega
  · by_cases e2 : v = T a
    · subst e2; have := (h.tree a ha).2.2; simp [e]; omega
    · simp [e, e2]

/-- In order but for the one at i, which may come before its parent. -/
structure Up (k : Nat) (A : Nat → Int) (T : Nat → Nat) (i : Nat) : Prop where
  ord : ∀ j, 0 < j → j < k → j ≠ i → bef A (T j) (T (par j)) = false
  grand : ∀ j, 0 < j → j < k → par j = i → 0 < i → bef A (T j) (T (par i)) = false

theorem par_lt {j : Nat} (h : 0 < j) : par j < j := by unfold par; omega

theorem Up.swp {k : Nat} {A : Nat → Int} {T : Nat → Nat} {i : Nat} (h : Up k A T i) (h0 : 0 < i) (hi : i < k) (hb : bef A (T i) (T (par i)) = true) : Up k A (swpT T i (par i)) (par i) := by
  have hlt := par_lt h0
  refine ⟨fun j j0 jk jne => ?_, fun j j0 jk hp a0 => ?_⟩
  · have jlt := par_lt j0
    by_cases e : j = i
    · subst e
      rw [swpT_from T (by omega), swpT_at]
      exact bef_asymm hb
    · rw [swpT_else T e jne]
      by_cases e2 : par j = i
      · rw [e2, swpT_from T (by omega)]
        exact h.grand j j0 jk e2 h0
      · by_cases e3 : par j = par i
        · rw [e3, swpT_at]
          have := h.ord j j0 jk e
          rw [e3] at this
          exact bef_mixed this hb
        · rw [swpT_else T e2 e3]
          exact h.ord j j0 jk e
  · have hlt2 := par_lt a0
    rw [swpT_else T (j := par (par i)) (by omega) (by omega)]
    by_cases e : j = i
    · subst e
      rw [swpT_from T (by omega)]
      exact h.ord (par j) a0 (by omega) (by omega)
    · have jlt := par_lt j0
      rw [swpT_else T e (by omega)]
      have h1 := h.ord j j0 jk e
      rw [hp] at h1
      exact bef_ntrans h1 (h.ord (par i) a0 (by omega) (by omega))

theorem Up.done {k : Nat} {A : Nat → Int} {T : Nat → Nat} {i : Nat} (h : Up k A T i) (hb : 0 < i → bef A (T i) (T (par i)) = false) : OrdFrom 0 k A T := fun j j0 jk _ => by
  by_cases e : j = i
  · subst e; exact hb j0
  · exact h.ord j j0 jk e

/-- From m on in order but for those below the one at i, which may come before it. -/
structure Down (m k : Nat) (A : Nat → Int) (T : Nat → Nat) (i : Nat) : Prop where
  ord : ∀ j, 0 < j → j < k → m ≤ par j → par j ≠ i → bef A (T j) (T (par j)) = false
  grand : 0 < i → m ≤ par i → ∀ j, 0 < j → j < k → par j = i → bef A (T j) (T (par i)) = false

theorem Down.swp {m k : Nat} {A : Nat → Int} {T : Nat → Nat} {i c : Nat} (h : Down m k A T i) (hm : m ≤ i) (c0 : 0 < c) (ck : c < k) (hp : par c = i) (hb : bef A (T c) (T i) = true)
    (hbest : ∀ j, 0 < j → j < k → par j = i → bef A (T j) (T c) = false) : Down m k A (swpT T i c) c := by
  have hlt := par_lt c0
  refine ⟨fun j j0 jk mj jne => ?_, fun _ _ j j0 jk jp => ?_⟩
  · have jlt := par_lt j0
    by_cases e : j = c
    · subst e
      rw [swpT_at, hp, swpT_from T (by omega)]
      exact bef_asymm hb
    · by_cases e2 : j = i
      · subst e2
        rw [swpT_from T (by omega), swpT_else T (j := par j) (by omega) (by omega)]
        exact h.grand j0 mj c c0 ck hp
      · rw [swpT_else T e2 e]
        by_cases e3 : par j = i
        · rw [e3, swpT_from T (by omega)]
          exact hbest j j0 jk e3
        · rw [swpT_else T e3 jne]
          exact h.ord j j0 jk mj e3
  · have jlt := par_lt j0
    rw [hp, swpT_from T (by omega), swpT_else T (by omega) (by omega)]
    have := h.ord j j0 jk (by omega) (by omega)
    rw [jp] at this
    exact this

theorem Down.done {m k : Nat} {A : Nat → Int} {T : Nat → Nat} {i : Nat} (h : Down m k A T i) (hb : ∀ j, 0 < j → j < k → par j = i → bef A (T j) (T i) = false) : OrdFrom m k A T := fun j j0 jk mj => by
  by_cases e : par j = i
  · rw [e]; exact hb j j0 jk e
  · exact h.ord j j0 jk mj e

/-- The first of the tree is before all others. -/
theorem first_best {k : Nat} {A : Nat → Int} {T : Nat → Nat} (h : OrdFrom 0 k A T) : ∀ j, j < k → bef A (T j) (T 0) = false := by
  intro j
  induction j using Nat.strongRecOn with
  | _ j ih =>
    intro hj
    rcases Nat.eq_zero_or_pos j with e | e
    · subst e; rw [bef_not]; omega
    · exact bef_ntrans (h j e hj (Nat.zero_le _)) (ih (par j) (par_lt e) (by have := par_lt e; omega))

/-- The first has gone, and the last stands in its place. -/
theorem Inv.next {n e : Nat} {T : Nat → Nat} {P : Nat → Int} (h : Inv 0 n (e + 1) T P) (he : 0 < e) : Inv (T 0) n e (upd T 0 (T e)) (upd P (T e) 0) := by
  have hl := h.le
  refine ⟨by omega, fun i hi => ?_, fun v h1 h2 hx => ?_, fun i hi => ?_⟩
  · by_cases q : i = 0
    · subst q; rw [upd_same, upd_same]; exact ⟨(h.tree e (by omega)).1, (h.tree e (by omega)).2.1, rfl⟩
    · rw [upd_ne _ _ _ q, upd_ne _ _ _ (fun z => by have := h.inj (by omega) (by omega) z; omega)]
      exact h.tree i (by omega)
  · by_cases q : v = T e
    · exact Or.inr ⟨0, he, by rw [q, upd_same]; rfl, by rw [upd_same]; exact q.symm⟩
    · rw [upd_ne _ _ _ q]
      rcases h.place v h1 h2 (by omega) with h3 | ⟨i, i1, i2, i3⟩
      · exact Or.inl h3
      · refine Or.inr ⟨i, ?_, i2, ?_⟩
        · rcases Nat.lt_or_ge i e with z | z
          · exact z
          · exact absurd (by rw [← i3, show i = e by omega]) q
        · rw [upd_ne _ _ _ (fun z => hx (by rw [← i3, z]))]; exact i3
  · by_cases q : i = 0
    · subst q; rw [upd_same]; exact fun z => by have := h.inj (by omega) (by omega) z; omega
    · rw [upd_ne _ _ _ q]; exact fun z => q (h.inj (by omega) (by omega) z)

theorem Down.next {e : Nat} {A : Nat → Int} {T : Nat → Nat} (h : OrdFrom 0 (e + 1) A T) (v : Nat) : Down 0 e A (upd T 0 v) 0 := by
  refine ⟨fun j j0 jk _ hp => ?_, fun h0 => absurd h0 (by omega)⟩
  rw [upd_ne _ _ _ (by omega), upd_ne _ _ _ hp]
  exact h j j0 (by omega) (Nat.zero_le _)

theorem Inv.gone {x n k : Nat} {T : Nat → Nat} {P : Nat → Int} (h : Inv x n k T P) : Inv 0 n k T (upd P x (-1)) := by
  refine ⟨h.le, fun i hi => ?_, fun v h1 h2 _ => ?_, fun i hi => by have := (h.tree i hi).1; omega⟩
  · rw [upd_ne _ _ _ (h.away i hi)]; exact h.tree i hi
  · by_cases q : v = x
    · subst q; exact Or.inl (upd_same _ _ _)
    · rw [upd_ne _ _ _ q]; exact h.place v h1 h2 q

/-- One has become more active. -/
theorem Up.bump {n k : Nat} {A : Nat → Int} {T : Nat → Nat} {P : Nat → Int} (hI : Inv 0 n k T P) (h : OrdFrom 0 k A T) {i : Nat} (hi : i < k) {a : Int} (ha : A (T i) ≤ a) : Up k (upd A (T i) a) T i := by
  have ne : ∀ j, j < k → j ≠ i → T j ≠ T i := fun j hj q z => q (hI.inj hj hi z)
  refine ⟨fun j j0 jk jne => ?_, fun j j0 jk hp i0 => ?_⟩
  · have jl := par_lt j0
    have h1 := h j j0 jk (Nat.zero_le _)
    rw [bef_not] at h1 ⊢
    rw [upd_ne _ _ _ (ne j jk jne)]
    by_cases q : par j = i
    · rw [q, upd_same]; rw [q] at h1
      rcases Int.lt_or_le (A (T j)) a with z | z
      · exact Or.inl z
      · exact Or.inr ⟨by omega, by omega⟩
    · rw [upd_ne _ _ _ (ne (par j) (by omega) q)]; exact h1
  · have jl := par_lt j0
    have il := par_lt i0
    have h1 := h j j0 jk (Nat.zero_le _)
    rw [hp] at h1
    have h2 := bef_ntrans h1 (h i i0 hi (Nat.zero_le _))
    rw [bef_not] at h2 ⊢
    rw [upd_ne _ _ _ (ne j jk (by omega)), upd_ne _ _ _ (ne (par i) (by omega) (by omega))]
    exact h2

theorem ord_congr {m k : Nat} {A A' : Nat → Int} {T : Nat → Nat} (h : OrdFrom m k A T) (e : ∀ j, j < k → A (T j) = A' (T j)) : OrdFrom m k A' T := by
  intro j j0 jk hm
  have jl := par_lt j0
  have h1 := h j j0 jk hm
  rw [bef_not] at h1 ⊢
  rw [← e j jk, ← e (par j) (by omega)]
  exact h1

/-- How many of 1 .. n are contained. -/
def cnt : Nat → (Nat → Bool) → Nat
  | 0, _ => 0
  | n + 1, In => cnt n In + if In (n + 1) = true then 1 else 0

theorem cnt_congr {n : Nat} {In In' : Nat → Bool} (h : ∀ v, 1 ≤ v → v ≤ n → In v = In' v) : cnt n In = cnt n In' := by
  induction n with
  | zero => rfl
  | succ n ih => rw [cnt, cnt, ih (fun v h1 h2 => h v h1 (by omega)), h (n + 1) (by omega) (by omega)]

theorem cnt_put {n : Nat} {In : Nat → Bool} {v : Nat} (h1 : 1 ≤ v) (h2 : v ≤ n) (h : In v = false) : cnt n (upd In v true) = cnt n In + 1 := by
  induction n with
  | zero => omega
  | succ n ih =>
    rw [cnt, cnt]
    by_cases e : v = n + 1
    · subst e
      rw [cnt_congr (In := upd In (n + 1) true) (In' := In) (fun u _ hu => upd_ne _ _ _ (by omega)), upd_same, h]
      simp
    · rw [ih (by omega), upd_ne _ _ _ (Ne.symm e)]; omega

theorem cnt_take {n : Nat} {In : Nat → Bool} {v : Nat} (h1 : 1 ≤ v) (h2 : v ≤ n) (h : In v = true) : cnt n (upd In v false) + 1 = cnt n In := by
  induction n with
  | zero => omega
  | succ n ih =>
    rw [cnt, cnt]
    by_cases e : v = n + 1
    · subst e
      rw [cnt_congr (In := upd In (n + 1) false) (In' := In) (fun u _ hu => upd_ne _ _ _ (by omega)), upd_same, h]
      simp
    · have := ih (by omega)
      rw [upd_ne _ _ _ (Ne.symm e)]; omega

theorem cnt_le (n : Nat) (In : Nat → Bool) : cnt n In ≤ n := by
  induction n with
  | zero => simp [cnt]
  | succ n ih => rw [cnt]; split <;> omega
theorem cnt_all {n : Nat} {In : Nat → Bool} (h : ∀ v, 1 ≤ v → v ≤ n → In v = true) : cnt n In = n := by
  induction n with
  | zero => rfl
  | succ n ih => rw [cnt, ih (fun v h1 h2 => h v h1 (by omega)), h (n + 1) (by omega) (by omega)]; simp
theorem cnt_none {n : Nat} {In : Nat → Bool} (h : ∀ v, 1 ≤ v → v ≤ n → In v = false) : cnt n In = 0 := by
  induction n with
  | zero => rfl
  | succ n ih => rw [cnt, ih (fun v h1 h2 => h v h1 (by omega)), h (n + 1) (by omega) (by omega)]; simp
theorem none_of_cnt {n : Nat} {In : Nat → Bool} (h : cnt n In = 0) : ∀ v, 1 ≤ v → v ≤ n → In v = false := by
  induction n with
  | zero => intro v h1 h2; omega
  | succ n ih =>
    rw [cnt] at h
    intro v h1 h2
    by_cases e : v = n + 1
    · subst e
      by_cases q : In (n + 1) = true
      · rw [if_pos q] at h; omega
      · simpa using q
    · exact ih (by omega) v h1 (by omega)

/-- v is the next one. -/
structure IsNext (n : Nat) (A : Nat → Int) (In : Nat → Bool) (v : Nat) : Prop where
  pos : 1 ≤ v
  le : v ≤ n
  here : In v = true
  best : ∀ u, 1 ≤ u → u ≤ n → In u = true → u ≠ v → bef A v u = true

theorem IsNext.unique {n : Nat} {A : Nat → Int} {In : Nat → Bool} {v w : Nat} (h : IsNext n A In v) (k : IsNext n A In w) : v = w := by
  apply Classical.byContradiction
  intro e
  have h1 := h.best w k.pos k.le k.here (Ne.symm e)
  have h2 := bef_asymm (k.best v h.pos h.le h.here e)
  rw [h1] at h2
  cases h2

theorem IsNext.congr {n : Nat} {A A' : Nat → Int} {In In' : Nat → Bool} {v : Nat} (h : IsNext n A In v) (hA : ∀ u, 1 ≤ u → u ≤ n → A u = A' u) (hI : ∀ u, 1 ≤ u → u ≤ n → In u = In' u) : IsNext n A' In' v := by
  refine ⟨h.pos, h.le, by rw [← hI v h.pos h.le]; exact h.here, fun u h1 h2 h3 h4 => ?_⟩
  have := h.best u h1 h2 (by rw [hI u h1 h2]; exact h3) h4
  rw [bef_iff] at this ⊢
  rw [← hA u h1 h2, ← hA v h.pos h.le]
  exact this
end Go.Proofs.Ytanmpokfeidlcaa.Hp
