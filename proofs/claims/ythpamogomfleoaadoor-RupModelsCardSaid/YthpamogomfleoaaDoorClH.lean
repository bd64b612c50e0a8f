/- clause.Show. -/
import Derived.Test.YthpamogomfleoaaDoorClG
import Derived.Lib.SmallJoins
import Derived.Lib.ItoaLen
namespace Go.Proofs.YthpamogomfleoaaDoor.Cl
open Go Go.RowKit Go.Lib Go.Sort

theorem gPow : Tryd.prog.globalNamed "internal/strconv.uint64pow10" = some 0 := by kernel_rfl
/-- Go's own table of powers of ten is in memory. -/
def Tab (w : World) : Prop := Lib.TabIs Tryd.prog w "internal/strconv.uint64pow10" .u64 Lib.pow10Tab
theorem Tab.below {w w' : World} (h : Tab w) (hb : Below w.heap.size w w') : Tab w' := Joins.tab_stays gPow h hb (Nat.le_refl _)

/-- What Itoa answers: a short string, in a world with more memory. -/
def Itoad (n : Int) (w : World) (e : Ending) (w' : World) : Prop :=
  ∃ s : ByteArray, e = .returned (.string s) ∧ Hid (s.data.toList = Lib.itoa n) ∧ s.size ≤ 21 ∧ Below w.heap.size w w'
theorem itoa_space (s t : ByteArray) (n : Int) (hs : Hid (s.data.toList = Lib.itoa n)) (ht : t.data.toList = [32]) : Lib.strCells (s ++ t) = Lib.byteCells (Lib.itoa n ++ [32]) := by
  unfold Lib.strCells Lib.byteCells
  rw [ByteArray.data_append, Array.toList_append, hs.out, ht]
theorem byteCells_append (a b : List UInt8) : Lib.byteCells a ++ Lib.byteCells b = Lib.byteCells (a ++ b) := by simp [Lib.byteCells]

theorem size_data (s : ByteArray) : s.size = s.data.toList.length := by rw [Array.length_toList]; rfl
theorem head_size (s1 s2 : ByteArray) (h1 : s1.size ≤ 21) (h2 : s2.size ≤ 21) : (({ data := #[112, 32, 99, 110, 102, 32] } : ByteArray) ++ s1 ++ { data := #[32] } ++ s2 ++ { data := #[10] }).size ≤ 100 := by
  rw [size_data] at *
  simp only [ByteArray.data_append, Array.toList_append, List.length_append, List.length_cons, List.length_nil]
  omega
theorem head_data (s1 s2 : ByteArray) (g n : Int) (h1 : s1.data.toList = Lib.itoa g) (h2 : s2.data.toList = Lib.itoa n) : (({ data := #[112, 32, 99, 110, 102, 32] } : ByteArray) ++ s1 ++ { data := #[32] } ++ s2 ++ { data := #[10] }).data.toList = headText g n := by
  simp only [ByteArray.data_append, Array.toList_append, h1, h2]; rfl
theorem word_data (s : ByteArray) (n : Int) (h : s.data.toList = Lib.itoa n) : (s ++ { data := #[32] } : ByteArray).data.toList = Lib.itoa n ++ [32] := by
  simp only [ByteArray.data_append, Array.toList_append, h]
theorem word_size (s : ByteArray) (h : s.size ≤ 21) : (s ++ { data := #[32] } : ByteArray).size ≤ 22 := by
  rw [size_data] at *
  simp only [ByteArray.data_append, Array.toList_append, List.length_append, List.length_cons, List.length_nil]
  omega
theorem take_all {cs : List (List Int)} (h : cs.all rightB = true) (k : Nat) : (cs.take k).all rightB = true := by
  rw [List.all_eq_true] at *; exact fun x hx => h x (List.mem_of_mem_take hx)
theorem take_right {zs : List Int} (h : rightB zs = true) (k : Nat) : rightB (zs.take k) = true := by
  unfold rightB at *; rw [List.all_eq_true] at *; exact fun x hx => h x (List.mem_of_mem_take hx)

end Go.Proofs.YthpamogomfleoaaDoor.Cl
