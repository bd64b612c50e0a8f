/- Contract of Node. -/
import Derived.Test.YtbggenilngpjcaaGrH
namespace Go.Proofs.Ytbggenilngpjcaa.Gr
open Go Go.RowKit Go.Lib Go.Maps

/-- The node of a number: none for node 0, for inputs, and where there is no node. -/
def ndI (L : List Nd) (n : Int) : Nd := if 0 ≤ n ∧ n < (L.length : Int) + 1 then nd L n.toNat else none

theorem nd_and {L : List Nd} (hW : Wf L) {n : Nat} : (lo (nd L n) = 0 ∧ Gr.hi (nd L n) = 0 ∧ nd L n = none) ∨ ∃ a b, nd L n = some (a, b) ∧ 2 ≤ a := by
  cases e : nd L n with
  | none => exact Or.inl ⟨rfl, rfl, rfl⟩
  | some p =>
    obtain ⟨a, b⟩ := p
    refine Or.inr ⟨a, b, rfl, ?_⟩
    cases n with
    | zero => rw [nd_zero] at e; cases e
    | succ n =>
      rw [nd_succ] at e
      cases h : L[n]? with
      | none => rw [h] at e; cases e
      | some d => rw [h] at e; subst e; exact (hW.pair n a b h).1

set_option maxHeartbeats 1000000 in
theorem Node_any {w : World} {G : Loc} {L : List Nd} (h : Rep w G L) (hW : Wf L) (n : Int) (hn : n ≤ 9223372036854775807) (hl : L.length < 150000) :
    Calls Try.prog 21 #[.pointer (some ⟨G.h, 0, none⟩), .int .i64 n] w fun e w' => e = .returned (.tuple #[.int .i64 (lo (ndI L n) : Int), .int .i64 (Gr.hi (ndI L n) : Int), .bool (ndI L n).isSome]) ∧ Below w.heap.size w w' := by
  obtain ⟨N, hN⟩ : ∃ N, N = L.length + 1 := ⟨_, rfl⟩
  have HND := Lib.hid (Nodes_any h N hN)
  obtain ⟨g, c, e0, hc, hcell⟩ := h.node
  have c0 := h.c0
  rw [e0, ← hN] at c0
  have N9 : (N : Int) ≤ 150000 := by omega
  by_cases h0 : n < 0
  · have HE : Hid (ndI L n = none) := by unfold Hid ndI; rw [if_neg (by omega)]
    clear h hN hcell e0 hc hl
    go_enter Try.func21, Try.ntmps21
    go_wp2
    go_ret3
    rw [HE.out]
    exact ⟨rfl, Below.refl _ _⟩
  · by_cases h1 : n < (N : Int)
    · obtain ⟨k, rfl⟩ : ∃ k : Nat, n = (k : Int) := ⟨n.toNat, by omega⟩
      have k0 : (0 : Int) ≤ (k : Int) := by omega
      have HE : Hid (ndI L (k : Int) = nd L k) := by unfold Hid ndI; rw [if_pos (by omega)]; simp
      obtain ⟨d0, d1⟩ := hcell k (by omega)
      rcases nd_and hW (n := k) with ⟨e1, e2, e3⟩ | ⟨a, b, e1, ha⟩
      · rw [e1] at d0
        rw [e2] at d1
        have x0 : w.cell? ⟨g, k * 2, none⟩ = some (.int .i64 0) := d0
        have x1 : w.cell? ⟨g, k * 2 + 1, none⟩ = some (.int .i64 0) := d1
        have HE2 : Hid (ndI L (k : Int) = none) := by rw [Hid, HE.out, e3]
        have hba : Below w.heap.size w (w.alloc (.cells #[.int .i64 0, .int .i64 0] 69)) := (Below.refl _ _).alloc (Nat.le_refl _) _
        have HBA := Lib.hid hba
        have hx0 : (w.alloc (.cells #[.int .i64 0, .int .i64 0] 69)).cell? ⟨w.heap.size, 0, none⟩ = some (.int .i64 0) := by simp only [World.cell?, heap_alloc_new]; rfl
        have hx1 : (w.alloc (.cells #[.int .i64 0, .int .i64 0] 69)).cell? ⟨w.heap.size, 1, none⟩ = some (.int .i64 0) := by simp only [World.cell?, heap_alloc_new]; rfl
        clear h hN hcell e0 hc hl d0 d1 e1 e2 e3 hba hW
        go_enter Try.func21, Try.ntmps21
        go_wp2_with fail
        refine HND.out.mono ?_
        rintro e w' ⟨rfl, rfl⟩
        go_wp2_with fail
        go_quiet (fail)
        go_wp2_with fail
        go_ret3
        rw [HE2.out]
        exact ⟨rfl, HBA.out.trans ⟨rfl, rfl, rfl, Nat.le_refl _, fun _ _ => rfl⟩⟩
      · rw [e1] at d0 d1
        have x0 : w.cell? ⟨g, k * 2, none⟩ = some (.int .i64 (a : Int)) := d0
        have x1 : w.cell? ⟨g, k * 2 + 1, none⟩ = some (.int .i64 (b : Int)) := d1
        have HE2 : Hid (ndI L (k : Int) = some (a, b)) := by rw [Hid, HE.out, e1]
        have hba : Below w.heap.size w (w.alloc (.cells #[.int .i64 (a : Int), .int .i64 (b : Int)] 69)) := (Below.refl _ _).alloc (Nat.le_refl _) _
        have HBA := Lib.hid hba
        have hx0 : (w.alloc (.cells #[.int .i64 (a : Int), .int .i64 (b : Int)] 69)).cell? ⟨w.heap.size, 0, none⟩ = some (.int .i64 (a : Int)) := by simp only [World.cell?, heap_alloc_new]; rfl
        have hx1 : (w.alloc (.cells #[.int .i64 (a : Int), .int .i64 (b : Int)] 69)).cell? ⟨w.heap.size, 1, none⟩ = some (.int .i64 (b : Int)) := by simp only [World.cell?, heap_alloc_new]; rfl
        have an : ((a : Int) == 0) = false := by simp; omega
        clear h hN hcell e0 hc hl d0 d1 e1 hba hW ha
        go_enter Try.func21, Try.ntmps21
        go_wp2_with fail
        refine HND.out.mono ?_
        rintro e w' ⟨rfl, rfl⟩
        go_wp2_with fail
        go_quiet (fail)
        go_wp2_with fail
        go_ret3
        rw [HE2.out]
        exact ⟨rfl, HBA.out.trans ⟨rfl, rfl, rfl, Nat.le_refl _, fun _ _ => rfl⟩⟩
    · have HE : Hid (ndI L n = none) := by unfold Hid ndI; rw [if_neg (by omega)]
      clear h hN hcell e0 hc hl
      go_enter Try.func21, Try.ntmps21
      go_wp2_with fail
      refine HND.out.mono ?_
      rintro e w' ⟨rfl, rfl⟩
      go_wp2_with fail
      go_ret3
      rw [HE.out]
      exact ⟨rfl, Below.refl _ _⟩

end Go.Proofs.Ytbggenilngpjcaa.Gr
