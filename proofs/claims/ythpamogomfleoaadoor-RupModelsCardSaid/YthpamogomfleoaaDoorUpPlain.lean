/- Unit propagation without the program: what it makes true, when it runs into a conflict, that what it shows holds in every model; and that the clause which a cut through the reasons gives follows. -/
import Derived.WalkKit
namespace Go.Proofs.YthpamogomfleoaaDoor.Up

/-- What unit propagation of cs makes true, from so on. -/
inductive UP (cs : List (List Int)) (so : List Int) : Int → Prop
  | given {l : Int} : l ∈ so → UP cs so l
  | unit {c : List Int} {l : Int} : c ∈ cs → l ∈ c → (∀ x ∈ c, x ≠ l → UP cs so (-x)) → UP cs so l

/-- It runs into a conflict. -/
def Bad (cs : List (List Int)) (so : List Int) : Prop := (∃ l, UP cs so l ∧ UP cs so (-l)) ∨ ∃ c, c ∈ cs ∧ ∀ x ∈ c, UP cs so (-x)

theorem UP.mono {cs cs' : List (List Int)} {so so' : List Int} (hc : ∀ c ∈ cs, c ∈ cs') (hs : ∀ l ∈ so, UP cs' so' l) {l : Int} (h : UP cs so l) : UP cs' so' l := by
  induction h with
  | given h => exact hs _ h
  | unit h1 h2 _ ih => exact UP.unit (hc _ h1) h2 ih

theorem Bad.mono {cs cs' : List (List Int)} {so so' : List Int} (h : Bad cs so) (hc : ∀ c ∈ cs, c ∈ cs') (hs : ∀ l ∈ so, UP cs' so' l) : Bad cs' so' := by
  rcases h with ⟨l, h1, h2⟩ | ⟨c, h1, h2⟩
  · exact Or.inl ⟨l, h1.mono hc hs, h2.mono hc hs⟩
  · exact Or.inr ⟨c, hc c h1, fun x hx => (h2 x hx).mono hc hs⟩

theorem Bad.more {cs cs' : List (List Int)} {so : List Int} (h : Bad cs so) (hc : ∀ c ∈ cs, c ∈ cs') : Bad cs' so := h.mono hc fun _ hl => .given hl
theorem Bad.so {cs : List (List Int)} {so so' : List Int} (h : Bad cs so) (hs : ∀ l ∈ so, l ∈ so') : Bad cs so' := h.mono (fun _ hc => hc) fun _ hl => .given (hs _ hl)
theorem bad_congr {cs cs' : List (List Int)} {so so' : List Int} (hc : ∀ c, c ∈ cs ↔ c ∈ cs') (hs : ∀ l, l ∈ so ↔ l ∈ so') : Bad cs so ↔ Bad cs' so' :=
  ⟨fun h => h.mono (fun c q => (hc c).1 q) fun l q => .given ((hs l).1 q), fun h => h.mono (fun c q => (hc c).2 q) fun l q => .given ((hs l).2 q)⟩

/-- Clauses with the same literals do the same. -/
theorem UP.same {cs cs' : List (List Int)} {so : List Int} (hc : ∀ c ∈ cs, ∃ c' ∈ cs', ∀ x, x ∈ c ↔ x ∈ c') {l : Int} (h : UP cs so l) : UP cs' so l := by
  induction h with
  | given h => exact .given h
  | unit h1 h2 _ ih =>
    obtain ⟨c', k1, k2⟩ := hc _ h1
    exact .unit k1 ((k2 _).1 h2) fun x hx hne => ih x ((k2 x).2 hx) hne
theorem Bad.same {cs cs' : List (List Int)} {so : List Int} (hc : ∀ c ∈ cs, ∃ c' ∈ cs', ∀ x, x ∈ c ↔ x ∈ c') (h : Bad cs so) : Bad cs' so := by
  rcases h with ⟨l, h1, h2⟩ | ⟨c, h1, h2⟩
  · exact Or.inl ⟨l, h1.same hc, h2.same hc⟩
  · obtain ⟨c', k1, k2⟩ := hc _ h1
    exact Or.inr ⟨c', k1, fun x hx => (h2 x ((k2 x).2 hx)).same hc⟩

theorem bad_pair {cs : List (List Int)} {so : List Int} {l : Int} (h : l ∈ so) (k : -l ∈ so) : Bad cs so := Or.inl ⟨l, .given h, .given k⟩
theorem bad_empty {cs : List (List Int)} {so c : List Int} (hc : c ∈ cs) (h : ∀ x ∈ c, -x ∈ so) : Bad cs so := Or.inr ⟨c, hc, fun x hx => .given (h x hx)⟩
theorem bad_unit {cs : List (List Int)} {so c : List Int} {l : Int} (hc : c ∈ cs) (hl : l ∈ c) (h : ∀ x ∈ c, x ≠ l → -x ∈ so) : Bad cs (so ++ [l]) ↔ Bad cs so := by
  refine ⟨fun q => q.mono (fun _ z => z) fun x hx => ?_, fun q => q.so fun x hx => by simp [hx]⟩
  rcases List.mem_append.1 hx with hx | hx
  · exact .given hx
  · obtain rfl := List.mem_singleton.1 hx
    exact .unit hc hl fun y hy hne => .given (h y hy hne)

/-- Neither true nor false. -/
def Und (so : List Int) (x : Int) : Prop := x ∉ so ∧ -x ∉ so

theorem bad_closed {cs : List (List Int)} {so : List Int} (hp : ∀ l ∈ so, -l ∉ so) (hc : ∀ c ∈ cs, (∃ x ∈ c, x ∈ so) ∨ ∃ x ∈ c, ∃ y ∈ c, x ≠ y ∧ Und so x ∧ Und so y) : ¬ Bad cs so := by
  have key : ∀ l, UP cs so l → l ∈ so := by
    intro l h
    induction h with
    | given h => exact h
    | @unit c l h1 h2 _ ih =>
      rcases hc c h1 with ⟨x, x1, x2⟩ | ⟨x, x1, y, y1, hne, hx, hy⟩
      · by_cases e : x = l
        · rw [← e]; exact x2
        · exact absurd (ih x x1 e) (hp x x2)
      · by_cases e : x = l
        · exact absurd (ih y y1 (fun q => hne (e.trans q.symm))) hy.2
        · exact absurd (ih x x1 e) hx.2
  rintro (⟨l, h1, h2⟩ | ⟨c, h1, h2⟩)
  · exact hp l (key _ h1) (key _ h2)
  · rcases hc c h1 with ⟨x, x1, x2⟩ | ⟨x, x1, y, y1, hne, hx, hy⟩
    · exact hp x x2 (key _ (h2 x x1))
    · exact hx.2 (key _ (h2 x x1))

/-- What a walk along a clause has met: how many that are open, and the last of them. -/
def Opn (so pre : List Int) (k : Nat) (last : Int) : Prop :=
  (k = 0 ∧ ∀ x ∈ pre, ¬ Und so x) ∨ (k = 1 ∧ last ∈ pre ∧ Und so last ∧ ∀ x ∈ pre, Und so x → x = last) ∨ (2 ≤ k ∧ ∃ x ∈ pre, ∃ y ∈ pre, x ≠ y ∧ Und so x ∧ Und so y)

theorem Opn.nil (so : List Int) : Opn so [] 0 0 := Or.inl ⟨rfl, fun x hx => by cases hx⟩
theorem Opn.skip {so pre : List Int} {k : Nat} {last l : Int} (h : Opn so pre k last) (hl : ¬ Und so l ∨ l ∈ pre) : Opn so (pre ++ [l]) k last := by
  have old : ∀ x ∈ pre ++ [l], Und so x → x ∈ pre := by
    intro x hx hu
    rcases List.mem_append.1 hx with q | q
    · exact q
    · obtain rfl := List.mem_singleton.1 q
      exact hl.resolve_left (fun z => z hu)
  rcases h with ⟨h1, h2⟩ | ⟨h1, h2, h3, h4⟩ | ⟨h1, x, x1, y, y1, h2⟩
  · exact Or.inl ⟨h1, fun x hx hu => h2 x (old x hx hu) hu⟩
  · exact Or.inr (Or.inl ⟨h1, List.mem_append_left _ h2, h3, fun x hx hu => h4 x (old x hx hu) hu⟩)
  · exact Or.inr (Or.inr ⟨h1, x, List.mem_append_left _ x1, y, List.mem_append_left _ y1, h2⟩)
theorem Opn.take {so pre : List Int} {k : Nat} {last l : Int} (h : Opn so pre k last) (hu : Und so l) (hl : l ∉ pre) : Opn so (pre ++ [l]) (k + 1) l := by
  rcases h with ⟨h1, h2⟩ | ⟨h1, h2, h3, h4⟩ | ⟨h1, x, x1, y, y1, h2⟩
  · refine Or.inr (Or.inl ⟨by omega, by simp, hu, fun x hx hx2 => ?_⟩)
    rcases List.mem_append.1 hx with q | q
    · exact absurd hx2 (h2 x q)
    · exact List.mem_singleton.1 q
  · exact Or.inr (Or.inr ⟨by omega, last, List.mem_append_left _ h2, l, by simp, fun q => hl (q ▸ h2), h3, hu⟩)
  · exact Or.inr (Or.inr ⟨by omega, x, List.mem_append_left _ x1, y, List.mem_append_left _ y1, h2⟩)

theorem und_not {so : List Int} {x : Int} (h : ¬ Und so x) (hx : x ∉ so) : -x ∈ so := Classical.byContradiction fun q => h ⟨hx, q⟩

/-- How many literals may still be made true. -/
def room (cs : List (List Int)) (so : List Int) : Nat := (cs.flatten.filter fun x => decide (x ∉ so)).length
theorem filter_lt {α : Type} {p q : α → Bool} {xs : List α} {x : α} (hx : x ∈ xs) (hp : p x = true) (hq : q x = false) (h : ∀ y, q y = true → p y = true) : (xs.filter q).length < (xs.filter p).length := by
  induction xs with
  | nil => cases hx
  | cons y ys ih =>
    have le : (ys.filter q).length ≤ (ys.filter p).length := by
      clear ih hx
      induction ys with
      | nil => simp
      | cons z zs ih =>
        rw [List.filter_cons, List.filter_cons]
        cases hz : q z with
        | true => rw [h z hz]; simp; exact ih
        | false => cases p z <;> simp <;> omega
    rw [List.filter_cons, List.filter_cons]
    rcases List.mem_cons.1 hx with e | e
    · subst e; rw [hp, hq]; simp; omega
    · have := ih e
      cases hy : q y with
      | true => rw [h y hy]; simp; exact this
      | false => cases p y <;> simp <;> omega
theorem room_lt {cs : List (List Int)} {so c : List Int} {l : Int} (hc : c ∈ cs) (hl : l ∈ c) (hn : l ∉ so) : room cs (so ++ [l]) < room cs so := by
  refine filter_lt (x := l) (List.mem_flatten.2 ⟨c, hc, hl⟩) (by simpa using hn) (by simp) fun y hy => ?_
  simp at hy ⊢
  exact hy.1

/-- The cut: what is in S is given, or has a reason whose other literals are false earlier. -/
theorem bad_of_cut {cs : List (List Int)} {so : List Int} (S : Int → Prop) (rank : Int → Nat)
    (h : ∀ s, S s → s ∈ so ∨ ∃ c ∈ cs, s ∈ c ∧ ∀ x ∈ c, x ≠ s → S (-x) ∧ rank (-x) < rank s) (c0 : List Int) (h0 : c0 ∈ cs) (hc : ∀ x ∈ c0, S (-x)) : Bad cs so := by
  have key : ∀ n s, rank s < n → S s → UP cs so s := by
    intro n
    induction n with
    | zero => intro s hs; omega
    | succ n ih =>
      intro s hs hS
      rcases h s hS with q | ⟨c, c1, c2, c3⟩
      · exact .given q
      · exact .unit c1 c2 fun x hx hne => ih _ (by have := (c3 x hx hne).2; omega) (c3 x hx hne).1
  exact Or.inr ⟨c0, h0, fun x hx => key _ _ (Nat.lt_succ_self _) (hc x hx)⟩

/-! ### Models -/

/-- A literal in a model (0 is none). -/
def LitT (m : Nat → Bool) (l : Int) : Prop := (0 < l ∧ m l.natAbs = true) ∨ (l < 0 ∧ m l.natAbs = false)
def ModelOf (cs : List (List Int)) (m : Nat → Bool) : Prop := ∀ c ∈ cs, ∃ x ∈ c, LitT m x
def Can (cs : List (List Int)) : Prop := ∃ m, ModelOf cs m

theorem litT_neg {m : Nat → Bool} {l : Int} (h : LitT m l) : ¬ LitT m (-l) := by
  unfold LitT at *
  rw [Int.natAbs_neg]
  rcases h with ⟨h1, h2⟩ | ⟨h1, h2⟩
  · rintro (⟨k1, k2⟩ | ⟨k1, k2⟩)
    · omega
    · rw [h2] at k2; cases k2
  · rintro (⟨k1, k2⟩ | ⟨k1, k2⟩)
    · rw [h2] at k2; cases k2
    · omega
theorem litT_or {m : Nat → Bool} {l : Int} (h : l ≠ 0) : LitT m l ∨ LitT m (-l) := by
  unfold LitT
  rw [Int.natAbs_neg]
  cases m l.natAbs with
  | true => by_cases q : 0 < l
            · exact Or.inl (Or.inl ⟨q, rfl⟩)
            · exact Or.inr (Or.inl ⟨by omega, rfl⟩)
  | false => by_cases q : 0 < l
             · exact Or.inr (Or.inr ⟨by omega, rfl⟩)
             · exact Or.inl (Or.inr ⟨by omega, rfl⟩)

theorem UP.sound {cs : List (List Int)} {so : List Int} {m : Nat → Bool} (hm : ModelOf cs m) (hs : ∀ l ∈ so, LitT m l) {l : Int} (h : UP cs so l) : LitT m l := by
  induction h with
  | given h => exact hs _ h
  | @unit c l h1 h2 _ ih =>
    obtain ⟨x, x1, x2⟩ := hm c h1
    by_cases e : x = l
    · rw [← e]; exact x2
    · exact absurd (ih x x1 e) (litT_neg x2)
theorem Bad.sound {cs : List (List Int)} {so : List Int} (h : Bad cs so) {m : Nat → Bool} (hm : ModelOf cs m) : ¬ ∀ l ∈ so, LitT m l := by
  intro hs
  rcases h with ⟨l, h1, h2⟩ | ⟨c, h1, h2⟩
  · exact litT_neg (h1.sound hm hs) (h2.sound hm hs)
  · obtain ⟨x, x1, x2⟩ := hm c h1
    exact litT_neg x2 ((h2 x x1).sound hm hs)

/-- What follows holds in each model. -/
theorem follows_holds {cs : List (List Int)} {c : List Int} (h : Bad cs (c.map fun x => -x)) (h0 : ∀ x ∈ c, x ≠ 0) {m : Nat → Bool} (hm : ModelOf cs m) : ∃ x ∈ c, LitT m x := by
  apply Classical.byContradiction
  intro q
  refine h.sound hm fun l hl => ?_
  obtain ⟨x, x1, rfl⟩ := List.mem_map.1 hl
  exact (litT_or (h0 x x1)).resolve_left fun z => q ⟨x, x1, z⟩
end Go.Proofs.YthpamogomfleoaaDoor.Up
