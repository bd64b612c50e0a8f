/- The document's own way to the normal form, as plain lists: the least variable beyond the last one, time and again. -/
import Derived.Test.YthpamogomfleoaaDoorClP
namespace Go.Proofs.YthpamogomfleoaaDoor.Cl
open Go Go.RowKit Go.Lib Go.Sort

theorem vw_lit {n : Int} (h : -100000 ≤ n ∧ n ≤ 100000) : vw n = vr n := by
  unfold vw vr
  rw [IntWalk.wrap64_in (-n) ⟨by omega, by omega⟩]
theorem lt_lit {x y : Int} (hx : -100000 ≤ x ∧ x ≤ 100000) (hy : -100000 ≤ y ∧ y ≤ 100000) : ltOf cf x y = true ↔ vr x < vr y ∨ (vr x = vr y ∧ y < x) := by
  rw [ltOf_cf, vw_lit hx, vw_lit hy, decide_eq_true_eq]

/-- One step of the search for the least variable beyond l. -/
def minStep (l v x : Int) : Int := if l < vr x ∧ (v = 0 ∨ vr x < v) then vr x else v
def minVar (l : Int) (zs : List Int) : Int := zs.foldl (minStep l) 0
theorem minVar_snoc (l : Int) (zs : List Int) (x : Int) : minVar l (zs ++ [x]) = minStep l (minVar l zs) x := by simp [minVar]

theorem minVar_spec {l : Int} (hl : 0 ≤ l) {zs : List Int} (hz : ∀ z ∈ zs, -100000 ≤ z ∧ z ≤ 100000) :
    (minVar l zs = 0 ∧ ∀ x ∈ zs, vr x ≤ l) ∨ (l < minVar l zs ∧ minVar l zs ≤ 100000 ∧ (∃ x ∈ zs, vr x = minVar l zs) ∧ ∀ x ∈ zs, l < vr x → minVar l zs ≤ vr x) := by
  suffices H : ∀ n, ∀ ys : List Int, ys.length = n → (∀ z ∈ ys, -100000 ≤ z ∧ z ≤ 100000) → (minVar l ys = 0 ∧ ∀ x ∈ ys, vr x ≤ l) ∨ (l < minVar l ys ∧ minVar l ys ≤ 100000 ∧ (∃ x ∈ ys, vr x = minVar l ys) ∧ ∀ x ∈ ys, l < vr x → minVar l ys ≤ vr x) from H _ zs rfl hz
  intro n
  induction n with
  | zero => intro ys hy _; rw [List.eq_nil_of_length_eq_zero hy]; exact Or.inl ⟨rfl, fun x hx => by cases hx⟩
  | succ n ih =>
    intro ys hy hz
    obtain ⟨zs, x, rfl⟩ : ∃ zs x, ys = zs ++ [x] := ⟨ys.dropLast, ys.getLast (by intro e; rw [e] at hy; cases hy), (List.dropLast_concat_getLast _).symm⟩
    have hx := hz x (by simp)
    have hvx : vr x ≤ 100000 := by unfold vr; omega
    have hm : ∀ y, y ∈ zs ++ [x] ↔ y ∈ zs ∨ y = x := by simp
    rw [minVar_snoc]
    rcases ih zs (by simpa using hy) (fun z h => hz z (by simp [h])) with ⟨h1, h2⟩ | ⟨h1, h2, ⟨y, hy1, hy2⟩, h4⟩
    · rw [h1]
      unfold minStep
      by_cases h : l < vr x
      · rw [if_pos ⟨h, Or.inl rfl⟩]
        refine Or.inr ⟨h, hvx, ⟨x, by simp, rfl⟩, fun y hy hly => ?_⟩
        rcases (hm y).1 hy with hy | rfl
        · have := h2 y hy; omega
        · omega
      · rw [if_neg (by omega)]
        refine Or.inl ⟨rfl, fun y hy => ?_⟩
        rcases (hm y).1 hy with hy | rfl
        · exact h2 y hy
        · omega
    · unfold minStep
      by_cases h : l < vr x ∧ (minVar l zs = 0 ∨ vr x < minVar l zs)
      · rw [if_pos h]
        refine Or.inr ⟨h.1, hvx, ⟨x, by simp, rfl⟩, fun y hy hly => ?_⟩
        rcases (hm y).1 hy with hy | rfl
        · have := h4 y hy hly; omega
        · omega
      · rw [if_neg h]
        refine Or.inr ⟨h1, h2, ⟨y, by simp [hy1], hy2⟩, fun z hz hlz => ?_⟩
        rcases (hm z).1 hz with hz | rfl
        · exact h4 z hz hlz
        · omega

/-- What has been gathered when the variables up to l are done. -/
structure Upto (zs : List Int) (l : Int) (O : List Int) (b : Bool) : Prop where
  asc : O.Pairwise fun x y => ltOf cf x y = true
  mem : ∀ x, x ∈ O ↔ x ∈ zs ∧ vr x ≤ l
  idle : b = true ↔ ∃ v, 0 < v ∧ v ≤ l ∧ v ∈ zs ∧ -v ∈ zs
  short : (O.length : Int) ≤ 2 * l

theorem Upto.start {zs : List Int} (hz : rightB zs = true) : Upto zs 0 [] false where
  asc := List.Pairwise.nil
  mem x := by
    constructor
    · intro h; cases h
    · rintro ⟨h1, h2⟩
      have := (isLit_iff x).1 (List.all_eq_true.1 hz x h1)
      unfold vr at h2; omega
  idle := by
    constructor
    · intro h; cases h
    · rintro ⟨v, h1, h2, _⟩; omega
  short := by simp

/-- The numbers of one variable, the positive one first. -/
def both (zs : List Int) (v : Int) : List Int := (if inB v zs then [v] else []) ++ (if inB (-v) zs then [-v] else [])
theorem mem_both {zs : List Int} {v x : Int} : x ∈ both zs v ↔ x ∈ zs ∧ (x = v ∨ x = -v) := by
  unfold both
  rw [List.mem_append]
  have h1 := inB_iff v zs
  have h2 := inB_iff (-v) zs
  constructor
  · rintro (h | h)
    · split at h
      · obtain rfl := List.mem_singleton.1 h; exact ⟨h1.1 (by assumption), Or.inl rfl⟩
      · cases h
    · split at h
      · obtain rfl := List.mem_singleton.1 h; exact ⟨h2.1 (by assumption), Or.inr rfl⟩
      · cases h
  · rintro ⟨h, rfl | rfl⟩
    · left; rw [if_pos (h1.2 h)]; simp
    · right; rw [if_pos (h2.2 h)]; simp

theorem Upto.step {zs O : List Int} {l v : Int} {b : Bool} (hz : rightB zs = true) (h : Upto zs l O b) (hl : 0 ≤ l) (hv : l < v) (hv2 : v ≤ 100000) (hmin : ∀ x ∈ zs, l < vr x → v ≤ vr x) :
    Upto zs v (O ++ both zs v) (b || (inB v zs && inB (-v) zs)) where
  asc := by
    have hbd := rightB_bd hz
    rw [List.pairwise_append]
    refine ⟨h.asc, ?_, fun x hx y hy => ?_⟩
    · unfold both
      split <;> split
      · refine List.pairwise_cons.2 ⟨fun y hy => ?_, List.pairwise_singleton _ _⟩
        obtain rfl : y = -v := by simpa using hy
        rw [lt_lit (by omega) (by omega)]; unfold vr; omega
      · simp
      · simp
      · simp
    · obtain ⟨hx1, hx2⟩ := (h.mem x).1 hx
      obtain ⟨hy1, hy2⟩ := mem_both.1 hy
      rw [lt_lit (hbd x hx1) (hbd y hy1)]
      left
      have : vr y = v := by unfold vr; omega
      omega
  mem x := by
    rw [List.mem_append, h.mem, mem_both]
    constructor
    · rintro (⟨h1, h2⟩ | ⟨h1, h2⟩)
      · exact ⟨h1, by omega⟩
      · exact ⟨h1, by unfold vr; omega⟩
    · rintro ⟨h1, h2⟩
      by_cases h3 : vr x ≤ l
      · exact Or.inl ⟨h1, h3⟩
      · have h4 := hmin x h1 (by omega)
        exact Or.inr ⟨h1, by unfold vr at *; omega⟩
  idle := by
    rw [Bool.or_eq_true, h.idle, Bool.and_eq_true, inB_iff, inB_iff]
    constructor
    · rintro (⟨u, h1, h2, h3⟩ | ⟨h1, h2⟩)
      · exact ⟨u, h1, by omega, h3⟩
      · exact ⟨v, by omega, by omega, h1, h2⟩
    · rintro ⟨u, h1, h2, h3, h4⟩
      by_cases h5 : u ≤ l
      · exact Or.inl ⟨u, h1, h5, h3, h4⟩
      · have := hmin u h3 (by unfold vr; omega)
        obtain rfl : u = v := by unfold vr at this; omega
        exact Or.inr ⟨h3, h4⟩
  short := by
    have := h.short
    have h2 : (both zs v).length ≤ 2 := by unfold both; split <;> split <;> simp
    rw [List.length_append]; omega

theorem Upto.done {zs O : List Int} {l : Int} {b : Bool} (hz : rightB zs = true) (h : Upto zs l O b) (hall : ∀ x ∈ zs, vr x ≤ l) : O = nf zs ∧ b = oppB (nf zs) := by
  have hbd := rightB_bd hz
  have hO : O = nf zs := (IsNf.unique swo_cf (zs := zs) ⟨h.asc, fun x => by rw [h.mem]; exact ⟨fun h => h.1, fun h => ⟨h, hall x h⟩⟩⟩ (isNf_nf zs))
  refine ⟨hO, ?_⟩
  subst hO
  rw [Bool.eq_iff_iff, h.idle]
  have hlit : ∀ x ∈ nf zs, (-100000 ≤ x ∧ x ≤ 100000) ∧ x ≠ 0 := fun x hx => by
    have := (isLit_iff x).1 (List.all_eq_true.1 hz x ((mem_nf x zs).1 hx)); omega
  constructor
  · rintro ⟨v, h1, _, h3, h4⟩
    have hbv := hbd v h3
    have hbn := hbd (-v) h4
    have hv := (mem_nf v zs).2 h3
    have hnv := (mem_nf (-v) zs).2 h4
    obtain ⟨i, hi, ei⟩ := List.mem_iff_getElem.1 hv
    obtain ⟨j, hj, ej⟩ := List.mem_iff_getElem.1 hnv
    have hp := List.pairwise_iff_getElem.1 (isNf_nf zs).1
    have hij : i < j := by
      rcases Nat.lt_trichotomy i j with h | h | h
      · exact h
      · subst h; omega
      · have := hp j i hj hi h
        rw [ei, ej, lt_lit (by omega) (by omega)] at this
        unfold vr at this; omega
    have hj1 : j = i + 1 := by
      rcases Nat.lt_or_ge (i + 1) j with h | h
      · exfalso
        have a1 := hp i (i + 1) hi (by omega) (by omega)
        have a2 := hp (i + 1) j (by omega) hj h
        have hb := hlit _ (List.getElem_mem (l := nf zs) (n := i + 1) (by omega))
        rw [ei, lt_lit (by omega) hb.1] at a1
        rw [ej, lt_lit hb.1 (by omega)] at a2
        generalize (nf zs)[i + 1] = x at *
        unfold vr at a1 a2
        omega
      · omega
    subst hj1
    exact oppB_true (i := i + 1) (by omega) hj (by rw [getElem!_pos (nf zs) (i + 1) hj, ej, Nat.add_sub_cancel, getElem!_pos (nf zs) i hi, ei])
  · intro h5
    unfold oppB at h5
    obtain ⟨i, hi, h6⟩ := List.any_eq_true.1 h5
    rw [List.mem_range] at hi
    rw [Bool.and_eq_true, decide_eq_true_eq, decide_eq_true_eq] at h6
    have m1 := getElem!_mem hi
    have m0 : (nf zs)[i - 1]! ∈ nf zs := getElem!_mem (by omega)
    have hb := hlit _ m0
    rw [h6.2] at m1
    generalize (nf zs)[i - 1]! = x at *
    have z0 := (mem_nf _ _).1 m0
    have z1 := (mem_nf _ _).1 m1
    by_cases hx : 0 < x
    · exact ⟨x, hx, by have := hall x z0; unfold vr at this; omega, z0, z1⟩
    · exact ⟨-x, by omega, by have := hall (-x) z1; unfold vr at this; omega, z1, by rw [Int.neg_neg]; exact z0⟩
end Go.Proofs.YthpamogomfleoaaDoor.Cl
