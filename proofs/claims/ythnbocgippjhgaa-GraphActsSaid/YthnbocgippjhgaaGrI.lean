/- Contracts of Node and Inputs. -/
import Derived.Test.YthnbocgippjhgaaGrMany
import Derived.Test.YthnbocgippjhgaaShelf
namespace Go.Proofs.Ythnbocgippjhgaa.Gr
open Go Go.RowKit Go.Lib Go.Maps

/-- The node of a number: none for node 0, for inputs, and where there is no node. -/
def ndI (L : List Nd) (n : Int) : Nd := if 0 ≤ n ∧ n < (L.length : Int) + 1 then nd L n.toNat else none

theorem nd_and {L : List Nd} (hW : Wf L) {n : Nat} : (lo (nd L n) = 0 ∧ Gr.hi (nd L n) = 0 ∧ nd L n = none) ∨ ∃ a b, nd L n = some (a, b) ∧ 2 ≤ a := by
  cases e : nd L n with
  | none => exact Or.inl ⟨rfl, rfl, rfl⟩
  | some p =>
    obtain ⟨a, b⟩ := p
    refine Or.inr ⟨a, b, rfl, ?_⟩
    cases n with
    | zero => rw [nd_zero] at e; cases e
    | succ n =>
      rw [nd_succ] at e
      cases h : L[n]? with
      | none => rw [h] at e; cases e
      | some d => rw [h] at e; subst e; exact (hW.pair n a b h).1

set_option maxHeartbeats 1000000 in
theorem Node_any {w : World} {G : Loc} {L : List Nd} (h : Rep w G L) (hW : Wf L) (n : Int) (hn : n ≤ 9223372036854775807) (hl : L.length < 150000) :
    Calls Try.prog 15 #[.pointer (some ⟨G.h, 0, none⟩), .int .i64 n] w fun e w' => e = .returned (.tuple #[.int .i64 (lo (ndI L n) : Int), .int .i64 (Gr.hi (ndI L n) : Int), .bool (ndI L n).isSome]) ∧ Below w.heap.size w w' := by
  obtain ⟨N, hN⟩ : ∃ N, N = L.length + 1 := ⟨_, rfl⟩
  have HND := Lib.hid (Nodes_any h N hN)
  obtain ⟨g, c, e0, hc, hcell⟩ := h.node
  have c0 := h.c0
  rw [e0, ← hN] at c0
  have N9 : (N : Int) ≤ 150000 := by omega
  by_cases h0 : n < 0
  · have HE : Hid (ndI L n = none) := by unfold Hid ndI; rw [if_neg (by omega)]
    clear h hN hcell e0 hc hl
    go_enter Try.func15, Try.ntmps15
    go_wp2
    go_ret3
    rw [HE.out]
    exact ⟨rfl, Below.refl _ _⟩
  · by_cases h1 : n < (N : Int)
    · obtain ⟨k, rfl⟩ : ∃ k : Nat, n = (k : Int) := ⟨n.toNat, by omega⟩
      have k0 : (0 : Int) ≤ (k : Int) := by omega
      have HE : Hid (ndI L (k : Int) = nd L k) := by unfold Hid ndI; rw [if_pos (by omega)]; simp
      obtain ⟨d0, d1⟩ := hcell k (by omega)
      rcases nd_and hW (n := k) with ⟨e1, e2, e3⟩ | ⟨a, b, e1, ha⟩
      · rw [e1] at d0
        rw [e2] at d1
        have x0 : w.cell? ⟨g, k * 2, none⟩ = some (.int .i64 0) := d0
        have x1 : w.cell? ⟨g, k * 2 + 1, none⟩ = some (.int .i64 0) := d1
        have HE2 : Hid (ndI L (k : Int) = none) := by rw [Hid, HE.out, e3]
        have hba : Below w.heap.size w (w.alloc (.cells #[.int .i64 0, .int .i64 0] 49)) := (Below.refl _ _).alloc (Nat.le_refl _) _
        have HBA := Lib.hid hba
        have hx0 : (w.alloc (.cells #[.int .i64 0, .int .i64 0] 49)).cell? ⟨w.heap.size, 0, none⟩ = some (.int .i64 0) := by simp only [World.cell?, heap_alloc_new]; rfl
        have hx1 : (w.alloc (.cells #[.int .i64 0, .int .i64 0] 49)).cell? ⟨w.heap.size, 1, none⟩ = some (.int .i64 0) := by simp only [World.cell?, heap_alloc_new]; rfl
        clear h hN hcell e0 hc hl d0 d1 e1 e2 e3 hba hW
        go_enter Try.func15, Try.ntmps15
        go_wp2_with fail
        refine HND.out.mono ?_
        rintro e w' ⟨rfl, rfl⟩
        go_wp2_with fail
        go_quiet (fail)
        go_wp2_with fail
        go_ret3
        rw [HE2.out]
        exact ⟨rfl, HBA.out.trans ⟨rfl, rfl, rfl, Nat.le_refl _, fun _ _ => rfl⟩⟩
      · rw [e1] at d0 d1
        have x0 : w.cell? ⟨g, k * 2, none⟩ = some (.int .i64 (a : Int)) := d0
        have x1 : w.cell? ⟨g, k * 2 + 1, none⟩ = some (.int .i64 (b : Int)) := d1
        have HE2 : Hid (ndI L (k : Int) = some (a, b)) := by rw [Hid, HE.out, e1]
        have hba : Below w.heap.size w (w.alloc (.cells #[.int .i64 (a : Int), .int .i64 (b : Int)] 49)) := (Below.refl _ _).alloc (Nat.le_refl _) _
        have HBA := Lib.hid hba
        have hx0 : (w.alloc (.cells #[.int .i64 (a : Int), .int .i64 (b : Int)] 49)).cell? ⟨w.heap.size, 0, none⟩ = some (.int .i64 (a : Int)) := by simp only [World.cell?, heap_alloc_new]; rfl
        have hx1 : (w.alloc (.cells #[.int .i64 (a : Int), .int .i64 (b : Int)] 49)).cell? ⟨w.heap.size, 1, none⟩ = some (.int .i64 (b : Int)) := by simp only [World.cell?, heap_alloc_new]; rfl
        have an : ((a : Int) == 0) = false := by simp; omega
        clear h hN hcell e0 hc hl d0 d1 e1 hba hW ha
        go_enter Try.func15, Try.ntmps15
        go_wp2_with fail
        refine HND.out.mono ?_
        rintro e w' ⟨rfl, rfl⟩
        go_wp2_with fail
        go_quiet (fail)
        go_wp2_with fail
        go_ret3
        rw [HE2.out]
        exact ⟨rfl, HBA.out.trans ⟨rfl, rfl, rfl, Nat.le_refl _, fun _ _ => rfl⟩⟩
    · have HE : Hid (ndI L n = none) := by unfold Hid ndI; rw [if_neg (by omega)]
      clear h hN hcell e0 hc hl
      go_enter Try.func15, Try.ntmps15
      go_wp2_with fail
      refine HND.out.mono ?_
      rintro e w' ⟨rfl, rfl⟩
      go_wp2_with fail
      go_ret3
      rw [HE.out]
      exact ⟨rfl, Below.refl _ _⟩

/-- A copy of a row that the graph has. -/
def CloneE (w : World) (n : Nat) (e : Ending) (w' : World) : Prop := ∃ a c, e = .returned (.slice a n c) ∧ Below w.heap.size w w'
theorem Clone_any {w : World} {v : Value} {n : Nat} {xs : List Int} (h : w.ownsRow 0 3 1 v n (xs.map (Value.int .i64))) (hn : n ≤ 150000) :
    Calls Try.prog 29 #[v] w (CloneE w n) := by
  obtain ⟨a, c, rfl, _, _, hz, hof⟩ := own_form h
  cases a with
  | none =>
    obtain ⟨rfl, rfl⟩ := hz rfl
    refine (Try.slices_Clone_nil 0 0 w).mono ?_
    rintro e w' ⟨rfl, rfl⟩
    exact ⟨none, 0, rfl, Below.refl _ _⟩
  | some ad =>
    obtain ⟨b, off, sp⟩ := ad
    obtain ⟨rfl, rfl⟩ : off = 0 ∧ sp = none := hof _ rfl
    obtain ⟨i0, hi, hz0, hz1, hz2⟩ := info_parts infoInt
    have hl := h.1
    refine (Try.slices_Clone i0 (.int .i64 0) 1 8 hi hz0 hz1 hz2 rfl (by decide) Try.sizeOf3 b 0 n c (xs.map (Value.int .i64)) w (by simpa using hl) (by unfold maxLen; omega) (by omega) ?_ ?_).mono ?_
    · intro j u hj
      rw [Nat.zero_add]
      exact own_cell h hj
    · intro u hu
      obtain ⟨x, _, rfl⟩ := List.mem_map.1 hu
      rfl
    · rintro e w' ⟨v', rfl, hown, _, hB⟩
      obtain ⟨a', c', rfl, _⟩ := own_form hown
      exact ⟨a', c', rfl, hB⟩

set_option maxHeartbeats 1000000 in
theorem Inputs_any {w : World} {G : Loc} {L : List Nd} (h : Rep w G L) (hl : L.length < 150000) :
    Calls Try.prog 16 #[.pointer (some ⟨G.h, 0, none⟩)] w (CloneE w (ins L)) := by
  obtain ⟨xs, _, x2⟩ := h.inps
  have hil : ins L ≤ L.length := List.countP_le_length
  have HC := Lib.hid (Clone_any x2 (by omega))
  have c2 := h.c2
  obtain ⟨a, c, e, _⟩ := own_form x2
  rw [e] at HC c2
  clear h x2 e hil hl
  generalize ins L = n at *
  go_enter Try.func16, Try.ntmps16
  go_wp2_with fail
  refine HC.out.mono ?_
  rintro e w' ⟨a', c', rfl, hb⟩
  have HB := Lib.hid hb
  clear hb
  go_wp2_with fail
  go_ret
  exact ⟨a', c', rfl, HB.out⟩
end Go.Proofs.Ythnbocgippjhgaa.Gr
