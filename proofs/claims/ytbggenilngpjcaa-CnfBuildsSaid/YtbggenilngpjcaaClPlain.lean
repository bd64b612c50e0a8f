/- The plain functions of layer clause: what a literal is, its variable, the order of a normal form, whether a clause holds. No program. -/
import Derived.WalkKit
import Derived.Lib.ItoaLen
import Derived.Lib.Itoa
namespace Go.Proofs.Ytbggenilngpjcaa.Cl
open Go Go.RowKit

/-- Is a number a literal? -/
def isLit (n : Int) : Bool := decide (n ≠ 0) && decide (-100000 ≤ n) && decide (n ≤ 100000)
theorem isLit_iff (n : Int) : isLit n = true ↔ n ≠ 0 ∧ -100000 ≤ n ∧ n ≤ 100000 := by simp [isLit, and_assoc]
theorem isLit_not (n : Int) : isLit n = false ↔ n = 0 ∨ n < -100000 ∨ 100000 < n := by
  rw [← Bool.not_eq_true, isLit_iff]; omega
/-- A literal's variable. -/
def vr (n : Int) : Int := max n (-n)
theorem vr_abs (n : Int) : vr n = (n.natAbs : Int) := by unfold vr; omega
def rightB (zs : List Int) : Bool := zs.all isLit
/-- A variable's value in a model: beyond it false. -/
def valB (v : Int) (m : List Bool) : Bool := m[v.toNat - 1]!
def litB (m : List Bool) (n : Int) : Bool := isLit n && (valB (vr n) m == decide (0 < n))
def holdsB (zs : List Int) (m : List Bool) : Bool := zs.any (litB m)
def allB (cs : List (List Int)) (m : List Bool) : Bool := cs.all fun c => holdsB c m
/-- Do two neighbours stand opposite each other? -/
def oppB (zs : List Int) : Bool := (List.range zs.length).any fun i => decide (1 ≤ i) && decide (zs[i]! = -zs[i - 1]!)

/-- A slice's cells: the slice is empty, or it lies in a block of the heap and its cells hold zs. -/
def RowIn {α : Type} [Inhabited α] (enc : α → Value) (w : World) (a : Option Addr) (zs : List α) : Prop :=
  zs = [] ∨ ∃ b off, a = some ⟨b, off, none⟩ ∧ b < w.heap.size ∧ ∀ j, j < zs.length → w.cell? ⟨b, off + j, none⟩ = some (enc zs[j]!)
theorem RowIn.nil {α : Type} [Inhabited α] (enc : α → Value) (w : World) (a : Option Addr) : RowIn enc w a ([] : List α) := Or.inl rfl
theorem RowIn.below {α : Type} [Inhabited α] {enc : α → Value} {w w' : World} {a : Option Addr} {zs : List α} (h : RowIn enc w a zs) (hb : Below w.heap.size w w') : RowIn enc w' a zs := by
  rcases h with h | ⟨b, off, rfl, hlt, hc⟩
  · exact Or.inl h
  · exact Or.inr ⟨b, off, rfl, Nat.lt_of_lt_of_le hlt hb.size, fun j hj => (hb.cell (p := ⟨b, off + j, none⟩) hlt).trans (hc j hj)⟩
theorem RowIn.pos {α : Type} [Inhabited α] {enc : α → Value} {w : World} {a : Option Addr} {zs : List α} (h : RowIn enc w a zs) {j : Nat} (hj : j < zs.length) : ∃ b off, a = some ⟨b, off, none⟩ ∧ b < w.heap.size ∧ ∀ j, j < zs.length → w.cell? ⟨b, off + j, none⟩ = some (enc zs[j]!) := by
  rcases h with h | h
  · subst h; exact absurd hj (Nat.not_lt_zero _)
  · exact h
/-- One clause as a value: its address, its capacity, its numbers. -/
structure Row where
  a : Option Addr
  c : Nat
  zs : List Int
instance : Inhabited Row := ⟨⟨none, 0, []⟩⟩
def Row.val (r : Row) : Value := .slice r.a r.zs.length r.c
/-- A slice of clauses: its cells hold the clauses' values, and each clause's cells its numbers. -/
structure RowsIn (w : World) (a : Option Addr) (rs : List Row) : Prop where
  row : RowIn Row.val w a rs
  each : ∀ r ∈ rs, RowIn (Value.int .i64) w r.a r.zs
  small : ∀ r ∈ rs, r.zs.length ≤ 9223372036854775807
theorem RowsIn.below {w w' : World} {a : Option Addr} {rs : List Row} (h : RowsIn w a rs) (hb : Below w.heap.size w w') : RowsIn w' a rs :=
  ⟨h.row.below hb, fun r hr => (h.each r hr).below hb, h.small⟩
theorem getElem!_mem {α : Type} [Inhabited α] {zs : List α} {j : Nat} (h : j < zs.length) : zs[j]! ∈ zs := by
  rw [getElem!_pos zs j h]; exact List.getElem_mem _
theorem any_at {α : Type} [Inhabited α] {zs : List α} {p : α → Bool} {j : Nat} (h : j < zs.length) (hp : p zs[j]! = true) : zs.any p = true :=
  List.any_eq_true.2 ⟨_, getElem!_mem h, hp⟩
theorem any_none {α : Type} [Inhabited α] {zs : List α} {p : α → Bool} (h : ∀ j, j < zs.length → p zs[j]! = false) : zs.any p = false := by
  rw [List.any_eq_false]; intro x hx
  obtain ⟨j, hj, rfl⟩ := List.mem_iff_getElem.1 hx
  have := h j hj; rw [getElem!_pos zs j hj] at this; simp [this]
def litMax (n x : Int) : Int := if isLit x then max n (vr x) else n
def rowMax (n : Int) (zs : List Int) : Int := zs.foldl litMax n
/-- The greatest variable of all literals. -/
def greatest (cs : List (List Int)) : Int := cs.foldl rowMax 0
theorem litMax_bd {n x : Int} (h0 : 0 ≤ n) (h1 : n ≤ 100000) : 0 ≤ litMax n x ∧ litMax n x ≤ 100000 := by
  unfold litMax
  cases h : isLit x with
  | false => simp; omega
  | true => have := (isLit_iff x).1 h; simp; unfold vr; omega
theorem rowMax_bd {zs : List Int} : ∀ {n : Int}, 0 ≤ n → n ≤ 100000 → 0 ≤ rowMax n zs ∧ rowMax n zs ≤ 100000 := by
  induction zs with
  | nil => intro n h0 h1; exact ⟨h0, h1⟩
  | cons x r ih => intro n h0 h1; have := litMax_bd (x := x) h0 h1; exact ih this.1 this.2
theorem foldMax_bd {cs : List (List Int)} : ∀ {n : Int}, 0 ≤ n → n ≤ 100000 → 0 ≤ cs.foldl rowMax n ∧ cs.foldl rowMax n ≤ 100000 := by
  induction cs with
  | nil => intro n h0 h1; exact ⟨h0, h1⟩
  | cons x r ih => intro n h0 h1; have := rowMax_bd (zs := x) h0 h1; exact ih this.1 this.2
theorem greatest_bd (cs : List (List Int)) : 0 ≤ greatest cs ∧ greatest cs ≤ 100000 := foldMax_bd (by omega) (by omega)
theorem take_succ! {α : Type} [Inhabited α] {zs : List α} {k : Nat} (h : k < zs.length) : zs.take (k + 1) = zs.take k ++ [zs[k]!] := by
  rw [List.take_succ_eq_append_getElem h, getElem!_pos zs k h]
theorem rowMax_snoc (n : Int) (zs : List Int) (x : Int) : rowMax n (zs ++ [x]) = litMax (rowMax n zs) x := by simp [rowMax]
theorem greatest_snoc (cs : List (List Int)) (c : List Int) : greatest (cs ++ [c]) = rowMax (greatest cs) c := by simp [greatest]
theorem map_get! (rs : List Row) {k : Nat} (h : k < rs.length) : (rs.map Row.zs)[k]! = rs[k]!.zs := by
  rw [getElem!_pos _ k (by simpa using h), getElem!_pos rs k h]; simp

/-- The text of clauses. -/
def rowText (zs : List Int) : List UInt8 := zs.flatMap fun n => Lib.itoa n ++ [32]
def rowsText (cs : List (List Int)) : List UInt8 := cs.flatMap fun c => rowText c ++ [48, 10]
def headText (v n : Int) : List UInt8 := [112, 32, 99, 110, 102, 32] ++ Lib.itoa v ++ [32] ++ Lib.itoa n ++ [10]
def showText (cs : List (List Int)) : List UInt8 := if cs.all rightB then headText (greatest cs) cs.length ++ rowsText cs else []
theorem rowText_snoc (zs : List Int) (n : Int) : rowText (zs ++ [n]) = rowText zs ++ (Lib.itoa n ++ [32]) := by simp [rowText]
theorem rowsText_snoc (cs : List (List Int)) (c : List Int) : rowsText (cs ++ [c]) = rowsText cs ++ (rowText c ++ [48, 10]) := by simp [rowsText]
theorem rightB_bd {zs : List Int} (h : rightB zs = true) : ∀ z ∈ zs, -100000 ≤ z ∧ z ≤ 100000 := fun z hz => by
  have := (isLit_iff z).1 (List.all_eq_true.1 h z hz); omega
theorem rowText_length {zs : List Int} (h : rightB zs = true) : (rowText zs).length ≤ 22 * zs.length := by
  have hb := rightB_bd h
  clear h
  induction zs with
  | nil => simp [rowText]
  | cons x r ih =>
    have h1 := hb x (by simp)
    have h2 := Lib.itoa_length_le x (by omega) (by omega)
    have h3 := ih fun z hz => hb z (List.mem_cons_of_mem _ hz)
    simp only [rowText, List.flatMap_cons, List.length_append, List.length_cons, List.length_nil] at *
    omega
theorem rowsText_length {cs : List (List Int)} (h : cs.all rightB = true) (hl : ∀ c ∈ cs, c.length ≤ 1000) : (rowsText cs).length ≤ 22002 * cs.length := by
  induction cs with
  | nil => simp [rowsText]
  | cons x r ih =>
    rw [List.all_cons, Bool.and_eq_true] at h
    have h1 := rowText_length h.1
    have h2 := hl x (by simp)
    have h3 := ih h.2 fun z hz => hl z (List.mem_cons_of_mem _ hz)
    simp only [rowsText, List.flatMap_cons, List.length_append, List.length_cons, List.length_nil] at *
    omega
end Go.Proofs.Ytbggenilngpjcaa.Cl
