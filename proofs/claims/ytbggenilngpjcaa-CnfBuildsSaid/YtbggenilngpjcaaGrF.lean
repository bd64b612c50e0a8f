/- Contracts of fold, All, Any. -/
import Derived.Test.YtbggenilngpjcaaGrE
import Derived.Deep.OwnRows
namespace Go.Proofs.Ytbggenilngpjcaa.Gr
open Go Go.RowKit Go.Lib Go.Maps

/-- A slice of n values that came in, or that lies where nobody writes. -/
def ArgV (enc : Nat → Value) (w : World) (a : Option Addr) (n : Nat) : Prop :=
  n = 0 ∨ ∃ b off, a = some ⟨b, off, none⟩ ∧ b < w.heap.size ∧ ∀ j, j < n → w.cell? ⟨b, off + j, none⟩ = some (enc j)
abbrev ArgI (w : World) (a : Option Addr) (n : Nat) (Z : Nat → Int) : Prop := ArgV (fun j => .int .i64 (Z j)) w a n
theorem ArgV.below {enc : Nat → Value} {w w' : World} {a : Option Addr} {n : Nat} (h : ArgV enc w a n) (hb : Below w.heap.size w w') : ArgV enc w' a n := by
  rcases h with h | ⟨b, off, h1, h2, h3⟩
  · exact Or.inl h
  · exact Or.inr ⟨b, off, h1, Nat.lt_of_lt_of_le h2 hb.size, fun j hj => (hb.cell (by exact h2)).trans (h3 j hj)⟩

theorem RowAt.of_made {w : World} {b n : Nat} {ty : TypeId} {z : Value} {f : Nat → Value} (h : w.heap[b]? = some (.cells (madeCells #[z] n) ty (0, 0))) (hf : ∀ i, i < n → f i = z) : RowAt w b ty n f := by
  refine ⟨_, h, by simp [size_madeCells], fun i hi => ?_⟩
  rw [hf i hi]
  simp [madeCells, hi, Nat.mod_one]

/-- What the function that is folded with does. -/
structure Folds (fid : FuncId) (F : List Nd → Nat → Nat → Nat × List Nd) : Prop where
  run : ∀ (w : World) (G : Loc) (L : List Nd) (x y : Nat), Rep w G L → Wf L → x < 2 * (L.length + 1) → y < 2 * (L.length + 1) → L.length < 130000 → Calls Try.prog fid #[.pointer (some ⟨G.h, 0, none⟩), .int .i64 (x : Int), .int .i64 (y : Int)] w (OpE w G (F L x y))
  ans : ∀ (L : List Nd) (x y : Nat), Wf L → x < 2 * (L.length + 1) → y < 2 * (L.length + 1) → ∃ f, Ans L 1 (F L x y) f

def edgesN (L : List Nd) (Z : Nat → Int) (k : Nat) : List Nat := (List.range k).map fun i => own L (Z i)
theorem edgesN_succ (L : List Nd) (Z : Nat → Int) (k : Nat) : edgesN L Z (k + 1) = edgesN L Z k ++ [own L (Z k)] := by unfold edgesN; rw [List.range_succ, List.map_append]; rfl

theorem folds_and : Folds 23 andE where
  run w G L x y h _ hx hy hl := by
    have := And_any h (x : Int) (y : Int) (by omega) (by omega) (by omega)
    rwa [own_nat hx, own_nat hy] at this
  ans L x y hW hx hy := ⟨_, andE_ans hW hx hy⟩
theorem folds_or : Folds 29 orE where
  run w G L x y h hW hx hy hl := by
    have := Or_any h hW (x : Int) (y : Int) (by omega) (by omega) (by omega)
    rwa [own_nat hx, own_nat hy] at this
  ans L x y hW hx hy := ⟨_, orE_ans hW hx hy⟩

end Go.Proofs.Ytbggenilngpjcaa.Gr
