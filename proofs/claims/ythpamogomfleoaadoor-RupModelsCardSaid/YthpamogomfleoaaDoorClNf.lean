/- The normal form as plain lists: what a strictly sorted list with the same numbers is, that there is just one, and that sorting and compacting give it. No program. -/
import Derived.Lib.SlicesCompact
import Derived.Sort.Statements
namespace Go.Proofs.YthpamogomfleoaaDoor.Cl
open Go Go.Lib Go.Sort

/-- R holds the numbers of zs, each once, ascending by lt. -/
def IsNf (lt : Int → Int → Bool) (zs R : List Int) : Prop := R.Pairwise (fun x y => lt x y = true) ∧ ∀ x, x ∈ R ↔ x ∈ zs

theorem pairwise_unique {lt : Int → Int → Bool} (hO : SWO lt) : ∀ {R S : List Int}, R.Pairwise (fun x y => lt x y = true) → S.Pairwise (fun x y => lt x y = true) → (∀ x, x ∈ R ↔ x ∈ S) → R = S
  | [], S, _, _, h => by
    cases S with
    | nil => rfl
    | cons y r => exact absurd ((h y).2 (by simp)) (by simp)
  | x :: R, [], _, _, h => absurd ((h x).1 (by simp)) (by simp)
  | x :: R, y :: S, hR, hS, h => by
    rw [List.pairwise_cons] at hR hS
    have irr : ∀ z, lt z z = false := hO.irrefl
    have hxy : x = y := by
      rcases List.mem_cons.1 ((h x).1 (by simp)) with e | hx
      · exact e
      rcases List.mem_cons.1 ((h y).2 (by simp)) with e | hy
      · exact e.symm
      have h1 := hS.1 x hx
      have h2 := hR.1 y hy
      have := hO.trans x y x h2 h1
      rw [irr x] at this
      exact absurd this (by simp)
    subst hxy
    rw [pairwise_unique hO hR.2 hS.2 fun z => ?_]
    constructor
    · intro hz
      rcases List.mem_cons.1 ((h z).1 (List.mem_cons_of_mem _ hz)) with e | hz'
      · subst e; have := hR.1 z hz; rw [irr z] at this; exact absurd this (by simp)
      · exact hz'
    · intro hz
      rcases List.mem_cons.1 ((h z).2 (List.mem_cons_of_mem _ hz)) with e | hz'
      · subst e; have := hS.1 z hz; rw [irr z] at this; exact absurd this (by simp)
      · exact hz'

theorem IsNf.unique {lt : Int → Int → Bool} (hO : SWO lt) {zs R S : List Int} (h : IsNf lt zs R) (k : IsNf lt zs S) : R = S :=
  pairwise_unique hO h.1 k.1 fun x => (h.2 x).trans (k.2 x).symm

theorem mem_compact (L : List Int) (x : Int) : x ∈ Lib.compact L ↔ x ∈ L := by
  unfold Lib.compact compactUpTo
  simp only [List.mem_map, List.mem_filter, List.mem_range]
  constructor
  · rintro ⟨j, ⟨hj, _⟩, rfl⟩
    rw [List.getElem!_toArray, getElem!_pos L j hj]
    exact List.getElem_mem _
  · intro hx
    obtain ⟨j, hj, he⟩ := List.mem_iff_getElem.1 hx
    -- the least place
    have key : ∀ m, m < L.length → L[m]! = x → ∃ j, j < L.length ∧ L[j]! = x ∧ (j = 0 ∨ L[j - 1]! ≠ x) := by
      intro m
      induction m with
      | zero => intro h1 h2; exact ⟨0, h1, h2, Or.inl rfl⟩
      | succ m ih =>
        intro h1 h2
        by_cases e : L[m]! = x
        · exact ih (by omega) e
        · exact ⟨m + 1, h1, h2, Or.inr (by simpa using e)⟩
    obtain ⟨j, hj, h1, h2⟩ := key j hj (by rw [getElem!_pos L j hj]; exact he)
    refine ⟨j, ⟨hj, ?_⟩, by rw [List.getElem!_toArray]; exact h1⟩
    unfold keeps
    simp only [List.getElem!_toArray, decide_eq_true_eq]
    rcases h2 with h2 | h2
    · exact Or.inl h2
    · exact Or.inr (by rw [h1]; exact fun e => h2 e.symm)

theorem pairwise_compact {lt : Int → Int → Bool} (hT : ∀ x y, lt x y = false → lt y x = false → x = y) (L : List Int) (hs : L.Pairwise fun x y => lt y x = false) : (Lib.compact L).Pairwise fun x y => lt x y = true := by
  unfold Lib.compact compactUpTo
  rw [List.pairwise_map]
  have h0 : (List.range L.length).Pairwise (· < ·) := List.pairwise_lt_range
  refine (h0.filter (keeps L.toArray)).imp_of_mem ?_
  intro i j hi hj hij
  simp only [List.mem_filter, List.mem_range] at hi hj
  have hk := hj.2
  unfold keeps at hk
  simp only [List.getElem!_toArray, decide_eq_true_eq] at hk ⊢
  have le : ∀ a b, a < b → b < L.length → lt L[b]! L[a]! = false := fun a b h1 h2 => by
    rw [getElem!_pos L a (by omega), getElem!_pos L b h2]
    exact List.pairwise_iff_getElem.1 hs a b _ _ h1
  cases h : lt L[i]! L[j]! with
  | true => rfl
  | false =>
    exfalso
    have e := hT _ _ h (le i j hij hj.1)
    rcases hk with hk | hk
    · omega
    apply hk
    by_cases hij' : i = j - 1
    · rw [← hij']; exact e.symm
    · have h1 := le i (j - 1) (by omega) (by omega)
      have h2 := le (j - 1) j (by omega) hj.1
      rw [← e] at h2
      have := hT _ _ h2 h1
      rw [← this]; exact e.symm

theorem isNf_sorted {lt : Int → Int → Bool} (hO : SWO lt) (hT : ∀ x y, lt x y = false → lt y x = false → x = y) (zs : List Int) : IsNf lt zs (Lib.compact (zs.mergeSort fun x y => !lt y x)) := by
  refine ⟨pairwise_compact hT _ ?_, fun x => ?_⟩
  · refine (List.pairwise_mergeSort (le := fun x y => !lt y x) ?_ ?_ zs).imp ?_
    · intro a b c h1 h2
      simp only [Bool.not_eq_true'] at *
      exact hO.ntrans c b a h2 h1
    · intro a b
      cases h1 : lt b a with
      | false => simp
      | true =>
        cases h2 : lt a b with
        | false => simp
        | true => have := hO.trans a b a h2 h1; rw [hO.irrefl a] at this; exact absurd this (by simp)
    · intro a b h; simpa using h
  · rw [mem_compact, List.mem_mergeSort]
end Go.Proofs.YthpamogomfleoaaDoor.Cl
