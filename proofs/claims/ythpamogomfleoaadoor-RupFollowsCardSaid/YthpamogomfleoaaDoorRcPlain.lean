/- Literals of the checker as places of its lists (no program). -/
import Derived.WalkKit
namespace Go.Proofs.YthpamogomfleoaaDoor.Rc
open Go

def upd {α : Type} (f : Nat → α) (i : Nat) (u : α) : Nat → α := fun k => if k = i then u else f k
theorem upd_same {α : Type} (f : Nat → α) (i : Nat) (u : α) : upd f i u i = u := if_pos rfl
theorem upd_ne {α : Type} (f : Nat → α) (i : Nat) (u : α) {k : Nat} (h : k ≠ i) : upd f i u k = f k := if_neg h
theorem upd_self {α : Type} (f : Nat → α) (i : Nat) : upd f i (f i) = f := by
  funext k; unfold upd; split
  · rename_i e; rw [e]
  · rfl
def updI {α : Type} (f : Int → α) (i : Int) (u : α) : Int → α := fun k => if k = i then u else f k
theorem updI_same {α : Type} (f : Int → α) (i : Int) (u : α) : updI f i u i = u := if_pos rfl
theorem updI_ne {α : Type} (f : Int → α) (i : Int) (u : α) {k : Int} (h : k ≠ i) : updI f i u k = f k := if_neg h
theorem updI_self {α : Type} (f : Int → α) (i : Int) : updI f i (f i) = f := by
  funext k; unfold updI; split
  · rename_i e; rw [e]
  · rfl

/-- A literal of variables up to V (or 0). -/
def In (V : Nat) (n : Int) : Prop := -(V : Int) ≤ n ∧ n ≤ (V : Int)
def Lt (V : Nat) (n : Int) : Prop := n ≠ 0 ∧ -(V : Int) ≤ n ∧ n ≤ (V : Int)
theorem Lt.in' {V : Nat} {n : Int} (h : Lt V n) : In V n := h.2
theorem Lt.neg {V : Nat} {n : Int} (h : Lt V n) : Lt V (-n) := ⟨fun e => h.1 (by omega), by have := h.2; omega⟩
theorem In.neg {V : Nat} {n : Int} (h : In V n) : In V (-n) := ⟨by have := h.2; omega, by have := h.1; omega⟩
/-- Its place. -/
def ix (V : Nat) (n : Int) : Nat := (n + (V : Int)).toNat
theorem ix_cast {V : Nat} {n : Int} (h : In V n) : ((ix V n : Nat) : Int) = n + (V : Int) := by unfold ix; have := h.1; omega
theorem ix_lt {V : Nat} {n : Int} (h : In V n) : ix V n < 2 * V + 1 := by have := ix_cast h; have := h.2; omega
theorem ix_back {V : Nat} {n : Int} (h : In V n) : ((ix V n : Nat) : Int) - (V : Int) = n := by have := ix_cast h; omega
theorem ix_inj {V : Nat} {n m : Int} (h : In V n) (k : In V m) (e : ix V n = ix V m) : n = m := by rw [← ix_back h, ← ix_back k, e]
theorem ix_of (V i : Nat) : ix V ((i : Int) - (V : Int)) = i := by unfold ix; omega
theorem in_of {V i : Nat} (h : i < 2 * V + 1) : In V ((i : Int) - (V : Int)) := ⟨by omega, by omega⟩
theorem updIx {α β : Type} (E : α → β) (f : Int → α) {V : Nat} {n : Int} (h : In V n) (u : α) (i : Nat) :
    upd (fun i : Nat => E (f ((i : Int) - (V : Int)))) (ix V n) (E u) i = E (updI f n u ((i : Int) - (V : Int))) := by
  unfold upd updI
  by_cases e : i = ix V n
  · subst e; rw [if_pos rfl, if_pos (ix_back h)]
  · rw [if_neg e, if_neg (fun q => e (by rw [← q, ix_of]))]
theorem updE {α β : Type} (E : α → β) (f : Nat → α) (i : Nat) (z : α) (j : Nat) : upd (fun i => E (f i)) i (E z) j = E (upd f i z j) := by unfold upd; split <;> rfl

/-- Two literals change places. -/
def swp (ls : List Int) (i j : Nat) : List Int := (ls.set i ls[j]!).set j ls[i]!
theorem swp_length (ls : List Int) (i j : Nat) : (swp ls i j).length = ls.length := by simp [swp]
theorem swp_perm {ls : List Int} {i j : Nat} (hi : i < ls.length) (hj : j < ls.length) : (swp ls i j).Perm ls := by
  unfold swp
  rw [getElem!_pos ls i hi, getElem!_pos ls j hj]
  exact List.set_set_perm hi hj
theorem swp_get {ls : List Int} {i j k : Nat} (_ : i < ls.length) (_ : j < ls.length) (hk : k < ls.length) : (swp ls i j)[k]! = if k = j then ls[i]! else if k = i then ls[j]! else ls[k]! := by
  have hk' : k < ((ls.set i ls[j]!).set j ls[i]!).length := by simpa using hk
  show ((ls.set i ls[j]!).set j ls[i]!)[k]! = _
  generalize ls[j]! = u at *
  generalize ls[i]! = v at *
  rw [getElem!_pos _ k hk', getElem!_pos ls k hk, List.getElem_set, List.getElem_set]
  by_cases e : j = k
  · subst e; simp
  · have e1 : ¬ k = j := fun z => e z.symm
    by_cases e2 : i = k
    · subst e2; simp [e, e1]
    · have e3 : ¬ k = i := fun z => e2 z.symm
      simp [e, e1, e2, e3]
theorem mem! {zs : List Int} {j : Nat} (h : j < zs.length) : zs[j]! ∈ zs := by rw [getElem!_pos zs j h]; exact List.getElem_mem h
end Go.Proofs.YthpamogomfleoaaDoor.Rc
