/- The law GraphLoop as a contract. -/
import Derived.Test.YthnbocgippjhgaaGrH
namespace Go.Proofs.Ythnbocgippjhgaa.Gr
open Go Go.RowKit Go.Lib Go.Maps

/-- Exclusive ors of so many, one behind the other; from the last one on. -/
def fx (D : Nat → Bool) : Nat → Bool
  | 0 => false
  | i + 1 => fx D i != D i
def gx (D : Nat → Bool) (n : Nat) : Nat → Bool
  | 0 => false
  | i + 1 => D (n - 1 - i) != gx D n i
theorem gx_fx (D : Nat → Bool) (n i : Nat) (h : i ≤ n) : fx D n = (fx D (n - i) != gx D n i) := by
  induction i with
  | zero => simp [gx]
  | succ i ih =>
    rw [ih (by omega)]
    have e : n - i = (n - 1 - i) + 1 := by omega
    rw [e]
    show ((fx D (n - 1 - i) != D (n - 1 - i)) != gx D n i) = (fx D (n - (i + 1)) != (D (n - 1 - i) != gx D n i))
    rw [show n - (i + 1) = n - 1 - i by omega]
    cases fx D (n - 1 - i) <;> cases D (n - 1 - i) <;> cases gx D n i <;> rfl
theorem gx_all (D : Nat → Bool) (n : Nat) : gx D n n = fx D n := by
  rw [gx_fx D n n (Nat.le_refl _), Nat.sub_self]
  show _ = (false != gx D n n)
  cases gx D n n <;> rfl

/-- The edges that are picked from, over three inputs. -/
def E4 (k : Nat) : Nat := [1, 2, 4, 6].getD k 0
def L3 : List Nd := [none, none, none]
theorem E4_lt (k : Nat) : E4 k < 2 * (L3.length + 1) := by
  unfold E4
  match k with | 0 => decide | 1 => decide | 2 => decide | 3 => decide | n + 4 => (show (0 : Nat) < 8; decide)

/-- Where the law stands: i picks done. -/
def LoopI (W : World) (h : Nat) (P : Nat → Nat) (n i : Nat) (ev av bv : Value) (w : World) : Prop :=
  ∃ (G : Loc) (L : List Nd) (a b : Nat), G.h = h ∧ Law W w G L ∧ EsS W w G ev [1, 2, 4, 6] ∧ av = .int .i64 (a : Int) ∧ bv = .int .i64 (b : Int) ∧ a < 2 * (L.length + 1) ∧ b < 2 * (L.length + 1) ∧ (∃ X, L = L3 ++ X) ∧ L.length ≤ 3 + 6 * i ∧
    (∀ m, val m L a = fx (fun j => val m L3 (E4 (P j % 4))) i) ∧ ∀ m, val m L b = gx (fun j => val m L3 (E4 (P j % 4))) n i

theorem L3_lt {L : List Nd} (h : ∃ X, L = L3 ++ X) (k : Nat) : E4 k < 2 * (L.length + 1) := by
  obtain ⟨X, rfl⟩ := h
  have := E4_lt k
  rw [List.length_append]; omega
theorem L3_val {L : List Nd} (h : ∃ X, L = L3 ++ X) (k : Nat) (m : Nat → Bool) : val m L (E4 k) = val m L3 (E4 k) := by
  obtain ⟨X, rfl⟩ := h
  exact val_app m (E4_lt k)


end Go.Proofs.Ythnbocgippjhgaa.Gr
