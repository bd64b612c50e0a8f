/- The contract of the document's own Check (weirgateref03.Check). -/
import Derived.Test.YthpamogomfleoaaDoorRfE
namespace Go.Proofs.YthpamogomfleoaaDoor.Cl
open Go Go.RowKit Go.Lib Go.Sort Go.Proofs.YthpamogomfleoaaDoor.Up

theorem info_rows : (Tryd.prog.info? 23).map (fun i => (i.zero, i.size, i.bytes)) = some (some (.slice none 0 0), 1, 24) := by kernel_rfl

def lineP (l : LineV) : Bool × List Int := (l.del, l.zs)

theorem LastSame.step {cs : List (List Int)} {c d : List Int} {k : Int} (h : LastSame cs c k) : LastSame (cs ++ [d]) c (if sameB d c = true then (cs.length : Int) else k) := by
  split
  · rename_i q
    refine Or.inr ⟨cs.length, rfl, by simp, ?_, fun i h1 h2 => by simp at h2; omega⟩
    rw [getElem!_pos (cs ++ [d]) cs.length (by simp)]
    simpa using q
  · rename_i q
    have q' : sameB d c = false := by simpa using q
    rcases h with ⟨h1, h2⟩ | ⟨j, h1, h2, h3, h4⟩
    · refine Or.inl ⟨h1, fun x hx => ?_⟩
      rcases List.mem_append.1 hx with z | z
      · exact h2 x z
      · rw [List.mem_singleton.1 z]; exact q'
    · refine Or.inr ⟨j, h1, by simp; omega, ?_, fun i i1 i2 => ?_⟩
      · rw [getElem!_pos (cs ++ [d]) j (by simp; omega), List.getElem_append_left h2, ← getElem!_pos cs j h2]
        exact h3
      · simp only [List.length_append, List.length_singleton] at i2
        by_cases e : i < cs.length
        · rw [getElem!_pos (cs ++ [d]) i (by simp; omega), List.getElem_append_left e, ← getElem!_pos cs i e]
          exact h4 i i1 e
        · obtain rfl : i = cs.length := by omega
          rw [getElem!_pos (cs ++ [d]) cs.length (by simp)]
          simpa using q'

theorem flat_le {T : List Row} {K : Nat} (h : ∀ r ∈ T, r.zs.length ≤ K) : (T.map Row.zs).flatten.length ≤ T.length * K := by
  induction T with
  | nil => simp
  | cons r T ih =>
    have h1 := h r (by simp)
    have h2 := ih fun x hx => h x (List.mem_cons_of_mem _ hx)
    simp only [List.map_cons, List.flatten_cons, List.length_append, List.length_cons]
    rw [Nat.add_mul]
    omega

/-- The clauses that are there. -/
structure There (w wr : World) (K n : Nat) (v : Value) (T : List Row) : Prop where
  own : wr.ownsRow w.heap.size 23 1 v T.length (T.map Row.val)
  each : ∀ r ∈ T, RowIn (Value.int .i64) w r.a r.zs
  small : ∀ r ∈ T, r.zs.length ≤ K ∧ r.zs.length ≤ r.c ∧ rightB r.zs = true
  below : Below w.heap.size w wr
  len : T.length ≤ n

theorem There.next {w wr w' : World} {K n : Nat} {v : Value} {T : List Row} (h : There w wr K n v T) (hb : Below wr.heap.size wr w') : There w w' K n v T :=
  { h with own := owns_below h.own hb, below := h.below.trans (hb.mono h.below.size) }
theorem There.rows {w wr : World} {K n : Nat} {v : Value} {T : List Row} (h : There w wr K n v T) (hK : K ≤ 1000) : ∃ a c, v = .slice a T.length c ∧ RowsIn wr a T ∧ (a = none → c = 0) ∧ T.length ≤ c ∧ c ≤ 9223372036854775807 ∧ (∀ x, a = some x → ∃ g, x = ⟨g, 0, none⟩) := by
  obtain ⟨a, c, h1, h2, h3, h4, h5, h6⟩ := own_val h.own
  exact ⟨a, c, h1, ⟨h2, fun r hr => (h.each r hr).below h.below, fun r hr => by have := (h.small r hr).1; omega⟩, h3, h4, h5, h6⟩

def ChkE (w : World) (cs : List (List Int)) (ls : List (Bool × List Int)) (goal : List Int) (e : Ending) (w' : World) : Prop := ∃ r, e = .returned (.int .i64 r) ∧ Chk cs ls goal r ∧ Below w.heap.size w w'

end Go.Proofs.YthpamogomfleoaaDoor.Cl
