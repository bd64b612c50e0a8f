/- What follows holds in each model: so none among all numbers' bits is left (no program). -/
import Derived.Test.YthpamogomfleoaaDoorRfH
namespace Go.Proofs.YthpamogomfleoaaDoor.Cl
open Go Go.RowKit Go.Lib Go.Proofs.YthpamogomfleoaaDoor.Up

theorem litB_LitT {m : List Bool} {x : Int} (h : litB m x = true) : LitT (fun v => m[v - 1]!) x := by
  unfold litB valB at h
  rw [vr_abs, Bool.and_eq_true, isLit_iff, beq_iff_eq] at h
  obtain ⟨⟨h0, _, _⟩, h1⟩ := h
  rw [Int.toNat_natCast] at h1
  rcases Int.lt_or_gt_of_ne h0 with q | q
  · refine Or.inr ⟨q, ?_⟩
    show m[x.natAbs - 1]! = false
    rw [h1]; exact decide_eq_false (by omega)
  · refine Or.inl ⟨q, ?_⟩
    show m[x.natAbs - 1]! = true
    rw [h1]; exact decide_eq_true q

theorem allB_model {cs : List (List Int)} {m : List Bool} (h : allB cs m = true) : ModelOf cs fun v => m[v - 1]! := by
  intro c hc
  have := List.all_eq_true.1 h c hc
  obtain ⟨x, hx, hl⟩ := List.any_eq_true.1 this
  exact ⟨x, hx, litB_LitT hl⟩

/-- The clause's literals, each turned, each a clause. -/
def offs (c : List Int) : List (List Int) := c.map fun x => [-x]

theorem right_ne {c : List Int} (h : rightB c = true) : ∀ x ∈ c, x ≠ 0 := fun x hx => ((isLit_iff x).1 (List.all_eq_true.1 h x hx)).1

/-- A clause that holds in each model, with its literals turned, has none. -/
theorem no_model {cs : List (List Int)} {c : List Int} (h : ∀ m, ModelOf cs m → ∃ x ∈ c, LitT m x) (v : Nat) : ¬ BruteB (cs ++ offs c) v := by
  rintro ⟨n, _, hq⟩
  have hm := allB_model hq
  obtain ⟨x, hx, hl⟩ := h _ fun d hd => hm d (List.mem_append_left _ hd)
  obtain ⟨y, hy, hl2⟩ := hm [-x] (List.mem_append_right _ (List.mem_map.2 ⟨x, hx, rfl⟩))
  rw [List.mem_singleton.1 hy] at hl2
  exact litT_neg hl hl2

theorem Fol.holds {cs : List (List Int)} {c : List Int} (h : Fol cs c) : ∀ m, ModelOf cs m → ∃ x ∈ c, LitT m x :=
  fun _ hm => follows_holds h.2.2 (right_ne h.2.1) hm

theorem Line1.model {cs cs' : List (List Int)} {b : Bool} {c : List Int} (h : Line1 cs b c cs') {m : Nat → Bool} (hm : ModelOf cs m) : ModelOf cs' m := by
  cases h with
  | add _ hf =>
    intro d hd
    rcases List.mem_append.1 hd with hd | hd
    · exact hm d hd
    · rw [List.mem_singleton.1 hd]; exact hf.holds m hm
  | del _ _ =>
    intro d hd
    rcases List.mem_append.1 hd with hd | hd
    · exact hm d (List.mem_of_mem_take hd)
    · exact hm d (List.mem_of_mem_drop hd)

theorem Lines.model {cs cs' : List (List Int)} {ls : List (Bool × List Int)} (h : Lines cs ls cs') {m : Nat → Bool} (hm : ModelOf cs m) : ModelOf cs' m := by
  induction h with
  | nil => exact hm
  | snoc _ h1 ih => exact h1.model ih

theorem Line1.right {cs cs' : List (List Int)} {b : Bool} {c : List Int} (h : Line1 cs b c cs') (hr : ∀ d ∈ cs, rightB d = true) : ∀ d ∈ cs', rightB d = true := by
  cases h with
  | add hc _ =>
    intro d hd
    rcases List.mem_append.1 hd with hd | hd
    · exact hr d hd
    · rw [List.mem_singleton.1 hd]; exact hc
  | del _ _ =>
    intro d hd
    rcases List.mem_append.1 hd with hd | hd
    · exact hr d (List.mem_of_mem_take hd)
    · exact hr d (List.mem_of_mem_drop hd)

theorem Lines.right {cs cs' : List (List Int)} {ls : List (Bool × List Int)} (h : Lines cs ls cs') (hr : ∀ d ∈ cs, rightB d = true) : ∀ d ∈ cs', rightB d = true := by
  induction h with
  | nil => exact hr
  | snoc _ h1 ih => exact h1.right ih

theorem Chk.holds {cs : List (List Int)} {ls : List (Bool × List Int)} {goal : List Int} (h : Chk cs ls goal 0) : ∀ m, ModelOf cs m → ∃ x ∈ goal, LitT m x := by
  rcases h with ⟨h, _⟩ | ⟨⟨hr, hg⟩, ⟨k, h, _⟩ | ⟨cs', hL, ⟨_, hq⟩ | ⟨h, _⟩⟩⟩
  · omega
  · omega
  · intro m hm
    have hm2 := hL.model hm
    rcases hq with ⟨d, hd, hs⟩ | hq
    · obtain ⟨x, hx, hl⟩ := hm2 d hd
      exact ⟨x, (sameB_mem (hL.right hr d hd) hg hs x).1 hx, hl⟩
    · exact hq.holds m hm2
  · omega

theorem Chk.det {cs : List (List Int)} {ls : List (Bool × List Int)} {goal : List Int} {r s : Int} (h : Chk cs ls goal r) (g : Chk cs ls goal s) : r = s := by
  rcases h with ⟨h, h1⟩ | ⟨⟨hr, hg⟩, h⟩ <;> rcases g with ⟨g, g1⟩ | ⟨⟨gr, gg⟩, g⟩
  · omega
  · exfalso
    rcases h1 with ⟨d, hd, q⟩ | q
    · rw [gr d hd] at q; cases q
    · rw [gg] at q; cases q
  · exfalso
    rcases g1 with ⟨d, hd, q⟩ | q
    · rw [hr d hd] at q; cases q
    · rw [hg] at q; cases q
  · rcases h with ⟨k, hk, hk1, c1, hL, hN⟩ | ⟨c1, hL, h⟩ <;> rcases g with ⟨j, hj, hj1, c2, gL, gN⟩ | ⟨c2, gL, g⟩
    · rcases Nat.lt_trichotomy k j with q | q | q
      · exfalso
        obtain ⟨e1, e2, f1, f2⟩ := gL.ok k (by rw [List.length_take]; omega)
        rw [List.take_take, Nat.min_eq_left (by omega)] at f1
        rw [hL.det f1] at hN
        have : (ls.take j)[k]! = ls[k]! := by
          rw [getElem!_pos (ls.take j) k (by rw [List.length_take]; omega), getElem!_pos ls k hk1, List.getElem_take]
        rw [this] at f2
        exact hN ⟨_, f2⟩
      · omega
      · exfalso
        obtain ⟨e1, e2, f1, f2⟩ := hL.ok j (by rw [List.length_take]; omega)
        rw [List.take_take, Nat.min_eq_left (by omega)] at f1
        rw [gL.det f1] at gN
        have : (ls.take k)[j]! = ls[j]! := by
          rw [getElem!_pos (ls.take k) j (by rw [List.length_take]; omega), getElem!_pos ls j hj1, List.getElem_take]
        rw [this] at f2
        exact gN ⟨_, f2⟩
    · exfalso
      obtain ⟨e1, e2, f1, f2⟩ := gL.ok k hk1
      rw [hL.det f1] at hN
      exact hN ⟨_, f2⟩
    · exfalso
      obtain ⟨e1, e2, f1, f2⟩ := hL.ok j hj1
      rw [gL.det f1] at gN
      exact gN ⟨_, f2⟩
    · obtain rfl := hL.det gL
      rcases h with ⟨h, h1⟩ | ⟨h, h1⟩ <;> rcases g with ⟨g, g1⟩ | ⟨g, g1⟩
      · omega
      · exact absurd h1 g1
      · exact absurd g1 h1
      · omega
end Go.Proofs.YthpamogomfleoaaDoor.Cl
