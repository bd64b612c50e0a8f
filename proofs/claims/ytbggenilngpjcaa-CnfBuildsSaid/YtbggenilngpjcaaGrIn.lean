/- Contracts of Clone and Inputs, with what they hold. -/
import Derived.Test.YtbggenilngpjcaaGrNd
import Derived.Test.YtbggenilngpjcaaShelf
namespace Go.Proofs.Ytbggenilngpjcaa.Gr
open Go Go.RowKit Go.Lib Go.Maps

/-- A copy of a row of numbers. -/
def CloneX (w : World) (n : Nat) (xs : List Int) (e : Ending) (w' : World) : Prop := ∃ a c, e = .returned (.slice a n c) ∧ ArgI w' a n (fun j => xs.getD j 0) ∧ Below w.heap.size w w'
theorem CloneX_any {w : World} {v : Value} {n : Nat} {xs : List Int} (h : w.ownsRow 0 3 1 v n (xs.map (Value.int .i64))) (hn : n ≤ 150000) :
    Calls Try.prog 39 #[v] w (CloneX w n xs) := by
  obtain ⟨a, c, rfl, _, _, hz, hof⟩ := own_form h
  cases a with
  | none =>
    obtain ⟨rfl, rfl⟩ := hz rfl
    refine (Try.slices_Clone_nil 0 0 w).mono ?_
    rintro e w' ⟨rfl, rfl⟩
    exact ⟨none, 0, rfl, Or.inl rfl, Below.refl _ _⟩
  | some ad =>
    obtain ⟨b, off, sp⟩ := ad
    obtain ⟨rfl, rfl⟩ : off = 0 ∧ sp = none := hof _ rfl
    obtain ⟨i0, hi, hz0, hz1, hz2⟩ := info_parts infoInt
    have hl := h.1
    refine (Try.slices_Clone i0 (.int .i64 0) 1 8 hi hz0 hz1 hz2 rfl (by decide) Try.sizeOf3 b 0 n c (xs.map (Value.int .i64)) w (by simpa using hl) (by unfold maxLen; omega) (by omega) ?_ ?_).mono ?_
    · intro j u hj
      rw [Nat.zero_add]
      exact own_cell h hj
    · intro u hu
      obtain ⟨x, _, rfl⟩ := List.mem_map.1 hu
      rfl
    · rintro e w' ⟨v', rfl, hown, _, hB⟩
      obtain ⟨a', c', rfl, _, _, hz', hof'⟩ := own_form hown
      refine ⟨a', c', rfl, ?_, hB⟩
      cases a' with
      | none => exact Or.inl (hz' rfl).1
      | some ad =>
        obtain ⟨b', off', sp'⟩ := ad
        obtain ⟨rfl, rfl⟩ : off' = 0 ∧ sp' = none := hof' _ rfl
        have hl2 : xs.length = n := by simpa using hl
        refine Or.inr ⟨b', 0, rfl, (hown.lt b' rfl).2, fun j hj => ?_⟩
        rw [Nat.zero_add]
        refine own_cell hown ?_
        have hj2 : j < xs.length := by omega
        rw [List.getElem?_map, List.getElem?_eq_getElem hj2]
        simp [hj2]

set_option maxHeartbeats 1000000 in
theorem InputsX_any {w : World} {G : Loc} {L : List Nd} (h : Rep w G L) (hl : L.length < 150000) :
    Calls Try.prog 20 #[.pointer (some ⟨G.h, 0, none⟩)] w (CloneX w (ins L) (inE L)) := by
  obtain ⟨xs, hok, x2⟩ := h.inps
  have hxs : xs = inE L := by rw [hok.eq]; exact List.take_of_length_le (by rw [inE_len]; exact Nat.le_refl _)
  rw [hxs] at x2
  have hil : ins L ≤ L.length := List.countP_le_length
  have HC := Lib.hid (CloneX_any x2 (by omega))
  have c2 := h.c2
  obtain ⟨a, c, e, _⟩ := own_form x2
  rw [e] at HC c2
  clear h x2 e hil hl hok hxs
  generalize ins L = n at *
  go_enter Try.func20, Try.ntmps20
  go_wp2_with fail
  refine HC.out.mono ?_
  rintro e w' ⟨a', c', rfl, ha, hb⟩
  have HB := Lib.hid (And.intro ha hb)
  clear hb ha
  go_wp2_with fail
  go_ret
  exact ⟨a', c', rfl, HB.out.1, HB.out.2⟩
end Go.Proofs.Ytbggenilngpjcaa.Gr
