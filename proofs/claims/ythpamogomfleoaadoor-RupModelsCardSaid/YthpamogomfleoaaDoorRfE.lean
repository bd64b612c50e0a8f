/- The document's own Check (weirgateref03.Check) as a plain function; its arguments in memory. -/
import Derived.Test.YthpamogomfleoaaDoorRfD
namespace Go.Proofs.YthpamogomfleoaaDoor.Cl
open Go Go.RowKit Go.Lib Go.Sort Go.Proofs.YthpamogomfleoaaDoor.Up

/-- A line of a proof as a value. -/
structure LineV where
  del : Bool
  a : Option Addr
  c : Nat
  zs : List Int
instance : Inhabited LineV := ⟨⟨false, none, 0, []⟩⟩

/-- A slice of lines: two cells each. -/
structure LinesIn (w : World) (a : Option Addr) (ls : List LineV) : Prop where
  row : ls = [] ∨ ∃ b off, a = some ⟨b, off, none⟩ ∧ b < w.heap.size ∧ ∀ j, j < ls.length → w.cell? ⟨b, off + j * 2, none⟩ = some (.bool ls[j]!.del) ∧ w.cell? ⟨b, off + j * 2 + 1, none⟩ = some (.slice ls[j]!.a ls[j]!.zs.length ls[j]!.c)
  each : ∀ l ∈ ls, RowIn (Value.int .i64) w l.a l.zs
  small : ∀ l ∈ ls, l.zs.length ≤ 1000 ∧ l.zs.length ≤ l.c ∧ ∀ z ∈ l.zs, -9223372036854775808 ≤ z ∧ z ≤ 9223372036854775807
theorem LinesIn.below {w w' : World} {a : Option Addr} {ls : List LineV} (h : LinesIn w a ls) (hb : Below w.heap.size w w') : LinesIn w' a ls := by
  refine ⟨?_, fun l hl => (h.each l hl).below hb, h.small⟩
  rcases h.row with h | ⟨b, off, rfl, hlt, hc⟩
  · exact Or.inl h
  · exact Or.inr ⟨b, off, rfl, Nat.lt_of_lt_of_le hlt hb.size, fun j hj => ⟨(hb.cell (p := ⟨b, off + j * 2, none⟩) hlt).trans (hc j hj).1, (hb.cell (p := ⟨b, off + j * 2 + 1, none⟩) hlt).trans (hc j hj).2⟩⟩
theorem LinesIn.pos {w : World} {a : Option Addr} {ls : List LineV} (h : LinesIn w a ls) {j : Nat} (hj : j < ls.length) : ∃ b off, a = some ⟨b, off, none⟩ ∧ b < w.heap.size ∧ ∀ j, j < ls.length → w.cell? ⟨b, off + j * 2, none⟩ = some (.bool ls[j]!.del) ∧ w.cell? ⟨b, off + j * 2 + 1, none⟩ = some (.slice ls[j]!.a ls[j]!.zs.length ls[j]!.c) := by
  rcases h.row with h | h
  · subst h; exact absurd hj (Nat.not_lt_zero _)
  · exact h

/-- The last of the clauses that are there with c's normal form: k is it, -1 none. -/
def LastSame (cs : List (List Int)) (c : List Int) (k : Int) : Prop :=
  (k = -1 ∧ ∀ d ∈ cs, sameB d c = false) ∨ ∃ j : Nat, k = (j : Int) ∧ j < cs.length ∧ sameB cs[j]! c = true ∧ ∀ i, j < i → i < cs.length → sameB cs[i]! c = false

/-- One line: what is there behind it. -/
inductive Line1 : List (List Int) → Bool → List Int → List (List Int) → Prop
  | add {cs : List (List Int)} {c : List Int} : rightB c = true → Fol cs c → Line1 cs false c (cs ++ [c])
  | del {cs : List (List Int)} {c : List Int} {j : Nat} : rightB c = true → LastSame cs c (j : Int) → Line1 cs true c (cs.take j ++ cs.drop (j + 1))
/-- Lines, one behind the other. -/
inductive Lines : List (List Int) → List (Bool × List Int) → List (List Int) → Prop
  | nil {cs : List (List Int)} : Lines cs [] cs
  | snoc {cs cs' cs'' : List (List Int)} {ls : List (Bool × List Int)} {b : Bool} {c : List Int} : Lines cs ls cs' → Line1 cs' b c cs'' → Lines cs (ls ++ [(b, c)]) cs''

/-- What Check answers. -/
def Chk (cs : List (List Int)) (ls : List (Bool × List Int)) (goal : List Int) (r : Int) : Prop :=
  (r = -1 ∧ ((∃ d ∈ cs, rightB d = false) ∨ rightB goal = false)) ∨
  (((∀ d ∈ cs, rightB d = true) ∧ rightB goal = true) ∧
    ((∃ k : Nat, r = (k : Int) + 1 ∧ k < ls.length ∧ ∃ cs', Lines cs (ls.take k) cs' ∧ ¬ ∃ cs'', Line1 cs' (ls[k]!).1 (ls[k]!).2 cs'') ∨
     ∃ cs', Lines cs ls cs' ∧ ((r = 0 ∧ ((∃ d ∈ cs', sameB d goal = true) ∨ Fol cs' goal)) ∨ (r = (ls.length : Int) + 1 ∧ ¬ ((∃ d ∈ cs', sameB d goal = true) ∨ Fol cs' goal)))))

theorem LastSame.unique {cs : List (List Int)} {c : List Int} {j k : Int} (h : LastSame cs c j) (g : LastSame cs c k) : j = k := by
  rcases h with ⟨h1, h2⟩ | ⟨a, h1, h2, h3, h4⟩ <;> rcases g with ⟨g1, g2⟩ | ⟨b, g1, g2, g3, g4⟩
  · omega
  · have := h2 _ (getElem!_mem g2); rw [g3] at this; cases this
  · have := g2 _ (getElem!_mem h2); rw [h3] at this; cases this
  · rcases Nat.lt_trichotomy a b with q | q | q
    · have := h4 b q g2; rw [g3] at this; cases this
    · omega
    · have := g4 a q h2; rw [h3] at this; cases this
theorem Line1.det {cs cs' cs'' : List (List Int)} {b : Bool} {c : List Int} (h : Line1 cs b c cs') (g : Line1 cs b c cs'') : cs' = cs'' := by
  cases h with
  | add _ _ => cases g with | add _ _ => rfl
  | del _ h2 =>
    cases g with
    | del _ g2 =>
      have := h2.unique g2
      congr 2 <;> omega

/-- Lines that are right, and a goal that follows: 0. -/
theorem Lines.ok {cs cs' : List (List Int)} {ls : List (Bool × List Int)} (h : Lines cs ls cs') : ∀ k, k < ls.length → ∃ c1 c2, Lines cs (ls.take k) c1 ∧ Line1 c1 (ls[k]!).1 (ls[k]!).2 c2 := by
  induction h with
  | nil => intro k hk; simp at hk
  | @snoc c2 c3 ls b c h1 h2 ih =>
    intro k hk
    simp only [List.length_append, List.length_singleton] at hk
    by_cases e : k < ls.length
    · obtain ⟨x, y, q1, q2⟩ := ih k e
      refine ⟨x, y, by rw [List.take_append_of_le_length (by omega)]; exact q1, ?_⟩
      rw [getElem!_pos (ls ++ [(b, c)]) k (by simp; omega), List.getElem_append_left e, ← getElem!_pos ls k e]
      exact q2
    · obtain rfl : k = ls.length := by omega
      refine ⟨c2, c3, by rw [List.take_left']; exact h1; rfl, ?_⟩
      rw [getElem!_pos (ls ++ [(b, c)]) ls.length (by simp)]
      simpa using h2
theorem Lines.det {cs : List (List Int)} {ls : List (Bool × List Int)} {c1 : List (List Int)} (h : Lines cs ls c1) : ∀ {c2 : List (List Int)}, Lines cs ls c2 → c1 = c2 := by
  induction h with
  | nil =>
    intro c2 g
    generalize hl : ([] : List (Bool × List Int)) = l at g
    cases g with
    | nil => rfl
    | snoc _ _ => simp at hl
  | @snoc cs' c3 ls' b c h1 h2 ih =>
    intro c2 g
    generalize hl : ls' ++ [(b, c)] = l at g
    cases g with
    | nil => simp at hl
    | snoc g1 g2 =>
      obtain ⟨rfl, q⟩ := List.append_inj' hl rfl
      simp only [List.cons.injEq, Prod.mk.injEq, and_true] at q
      obtain ⟨rfl, rfl⟩ := q
      obtain rfl := ih g1
      exact h2.det g2
theorem Chk.zero {cs cs' : List (List Int)} {ls : List (Bool × List Int)} {goal : List Int} {r : Int} (h : Chk cs ls goal r) (hr : ∀ d ∈ cs, rightB d = true) (hg : rightB goal = true) (hl : Lines cs ls cs') (hf : (∃ d ∈ cs', sameB d goal = true) ∨ Fol cs' goal) : r = 0 := by
  rcases h with ⟨_, ⟨d, d1, d2⟩ | h⟩ | ⟨_, ⟨k, _, hk, c1, h1, h2⟩ | ⟨c1, h1, ⟨h2, _⟩ | ⟨_, h2⟩⟩⟩
  · rw [hr d d1] at d2; cases d2
  · rw [hg] at h; cases h
  · obtain ⟨x, y, q1, q2⟩ := hl.ok k hk
    exact absurd ⟨y, (q1.det h1) ▸ q2⟩ h2
  · exact h2
  · obtain rfl := hl.det h1
    exact absurd hf h2
end Go.Proofs.YthpamogomfleoaaDoor.Cl
