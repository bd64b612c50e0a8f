/- Contracts of the graph's small calls: Nodes, own, Not, not, New. -/
import Derived.Test.YtbggenilngpjcaaGrMem
namespace Go.Proofs.Ytbggenilngpjcaa.Gr
open Go Go.RowKit Go.Lib

theorem head_slice {w : World} {G : Loc} {L : List Nd} (h : Rep w G L) : ∃ g c, w.cell? ⟨G.h, 0, none⟩ = some (.slice (some ⟨g, 0, none⟩) (L.length + 1) c) ∧ L.length + 1 ≤ c := by
  obtain ⟨g, c, e, hc, _⟩ := h.node
  exact ⟨g, c, by rw [h.c0, e], hc⟩

set_option maxHeartbeats 400000 in
theorem Nodes_any {w : World} {G : Loc} {L : List Nd} (h : Rep w G L) (N : Nat) (hN : N = L.length + 1) :
    Calls Try.prog 30 #[.pointer (some ⟨G.h, 0, none⟩)] w fun e w' => e = .returned (.int .i64 (N : Int)) ∧ w = w' := by
  obtain ⟨g, c, h0, hc⟩ := head_slice h
  rw [← hN] at h0
  clear h hN hc
  go_enter Try.func30, Try.ntmps30
  go_wp2
  go_ret
  exact ⟨rfl, rfl⟩

set_option maxHeartbeats 1000000 in
theorem own_any {w : World} {G : Loc} {L : List Nd} (h : Rep w G L) (e : Int) (he : e ≤ 9223372036854775807) (_hl : L.length < 250000) :
    Calls Try.prog 36 #[.pointer (some ⟨G.h, 0, none⟩), .int .i64 e] w fun e' w' => e' = .returned (.int .i64 (own L e : Int)) ∧ w = w' := by
  obtain ⟨N, hN⟩ : ∃ N, N = L.length + 1 := ⟨_, rfl⟩
  have HN := Lib.hid (Nodes_any h N hN)
  clear h
  by_cases h0 : e < 0
  · have HE := Lib.hid (own_neg (L := L) h0)
    clear hN _hl
    go_enter Try.func36, Try.ntmps36
    go_wp2
    go_ret
    rw [HE.out]
    simp
  · obtain ⟨k, rfl⟩ : ∃ k : Nat, e = (k : Int) := ⟨e.toNat, by omega⟩
    obtain ⟨q, hq⟩ : ∃ q, q = k / 2 := ⟨_, rfl⟩
    have hd : (k : Int).tdiv 2 = (q : Int) := by rw [Int.tdiv_eq_ediv_of_nonneg (by omega), hq]; omega
    have k0 : ¬ (k : Int) < 0 := by omega
    have qb : (q : Int) ≤ 9223372036854775807 := by omega
    by_cases h1 : q < N
    · have HE : Hid (own L (k : Int) = k) := own_nat (by omega)
      have q1 : (q : Int) < (N : Int) := by omega
      clear hN _hl hq h0 h1
      go_enter Try.func36, Try.ntmps36
      go_wp2_with fail
      refine HN.out.mono ?_
      rintro e w' ⟨rfl, rfl⟩
      go_wp2_with fail
      go_ret
      rw [HE.out]
      exact ⟨rfl, rfl⟩
    · have HE : Hid (own L (k : Int) = 0) := by unfold Hid own; rw [if_neg (by omega)]
      have q1 : ¬ (q : Int) < (N : Int) := by omega
      clear hN _hl hq h0 h1
      go_enter Try.func36, Try.ntmps36
      go_wp2_with fail
      refine HN.out.mono ?_
      rintro e w' ⟨rfl, rfl⟩
      go_wp2_with fail
      go_ret
      rw [HE.out]
      exact ⟨rfl, rfl⟩

set_option maxHeartbeats 400000 in
theorem Not_any (e : Nat) (w : World) (h : e < 1000000) :
    Calls Try.prog 22 #[.int .i64 (e : Int)] w fun r w' => r = .returned (.int .i64 (neg e : Int)) ∧ w = w' := by
  have HB := Lib.hid (bits_xor_one e h)
  clear h
  go_enter Try.func22, Try.ntmps22
  go_wp2
  go_ret
  rw [HB.out]
  exact ⟨rfl, rfl⟩

set_option maxHeartbeats 400000 in
theorem not_any {w : World} {G : Loc} {L : List Nd} (h : Rep w G L) (e : Int) (he : e ≤ 9223372036854775807) (hl : L.length < 250000) :
    Calls Try.prog 42 #[.pointer (some ⟨G.h, 0, none⟩), .int .i64 e] w fun r w' => r = .returned (.int .i64 (neg (own L e) : Int)) ∧ w = w' := by
  have HO := Lib.hid (own_any h e he hl)
  have HN := Lib.hid (Not_any (own L e) w (by have := own_lt L e; omega))
  clear h hl
  go_enter Try.func42, Try.ntmps42
  go_wp2_with fail
  refine HO.out.mono ?_
  rintro e w' ⟨rfl, rfl⟩
  go_wp2_with fail
  refine HN.out.mono ?_
  rintro e w' ⟨rfl, rfl⟩
  go_wp2_with fail
  go_ret
  exact ⟨rfl, rfl⟩

/-- What New answers. -/
def NewE (w : World) (e : Ending) (w' : World) : Prop :=
  ∃ G : Loc, e = .returned (.pointer (some ⟨G.h, 0, none⟩)) ∧ Rep w' G [] ∧ Below w.heap.size w w' ∧ ∀ k, G.has k → w.heap.size ≤ k

theorem ownsAt {w : World} {e : TypeId} {size g n : Nat} {cur : Array Value} (h : w.heap[g]? = some (.cells cur e (0, 0))) (hn : n ≤ maxLen) (hs : cur.size = n * size) : w.ownsRow 0 e size (.slice (some ⟨g, 0, none⟩) n n) n cur.toList :=
  ⟨by rw [Array.length_toList, hs], Or.inr ⟨g, n, cur, rfl, Nat.zero_le _, h, Nat.le_refl _, hn, hs, by rw [← hs, ← Array.length_toList, List.take_length]⟩⟩

theorem at3 (w : World) (a b c : Obj) : (((w.alloc a).alloc b).alloc c).heap[w.heap.size]? = some a ∧ (((w.alloc a).alloc b).alloc c).heap[w.heap.size + 1]? = some b ∧ (((w.alloc a).alloc b).alloc c).heap[w.heap.size + 1 + 1]? = some c := by
  show (((w.heap.push a).push b).push c)[w.heap.size]? = _ ∧ (((w.heap.push a).push b).push c)[w.heap.size + 1]? = _ ∧ (((w.heap.push a).push b).push c)[w.heap.size + 1 + 1]? = _
  simp only [Array.getElem?_push, Array.size_push]
  refine ⟨?_, ?_, ?_⟩
  · rw [if_neg (by omega), if_neg (by omega), if_pos trivial]
  · rw [if_neg (by omega), if_pos trivial]
  · rw [if_pos trivial]

set_option maxHeartbeats 1000000 in
theorem New_any (w : World) : Calls Try.prog 25 #[] w (NewE w) := by
  have hmm := @run_makeMap Try.prog
  go_enter Try.func25, Try.ntmps25
  go_wp2
  go_ret
  obtain ⟨b1, b2, b3⟩ := at3 w (.cells #[.int .i64 0, .int .i64 0] 69) (.map #[] 0) (.cells #[.slice (some ⟨w.heap.size, 0, none⟩) 1 1, .map (some (w.heap.size + 1)), .slice none 0 0] 73)
  refine ⟨⟨w.heap.size + 1 + 1, w.heap.size + 1, .slice (some ⟨w.heap.size, 0, none⟩) 1 1, .slice none 0 0⟩, rfl, ⟨⟨_, b3, rfl, fun i hi => ?_⟩, ownsAt b1 (by decide) rfl, ⟨.map [], ⟨#[], 0, b2, ⟨by simp, Go.MapKept.stamped_empty 0, by simp⟩, Nat.le_refl _, rfl⟩, Told.nil⟩, ⟨[], InOk.nil, World.ownsRow_nil _ _ _ _⟩, ?_, ?_, ?_, ?_, ?_, ?_⟩, ?_, ?_⟩
  · match i, hi with | 0, _ => rfl | 1, _ => rfl | 2, _ => rfl
  · show w.heap.size + 1 + 1 ≠ w.heap.size + 1; omega
  · show some w.heap.size ≠ some (w.heap.size + 1 + 1); simp; omega
  · show (none : Option Nat) ≠ _; simp
  · show some w.heap.size ≠ some (w.heap.size + 1); simp
  · show (none : Option Nat) ≠ _; simp
  · intro k _; show (none : Option Nat) ≠ _; simp
  · exact (((Below.refl _ _).alloc (Nat.le_refl _) _).alloc (by simp) _).alloc (by simp only [World.size_alloc]; omega) _
  · intro k hk
    rcases hk with rfl | rfl | hk | hk
    · show _ ≤ w.heap.size + 1 + 1; omega
    · show _ ≤ w.heap.size + 1; omega
    · have : w.heap.size = k := by simpa [Value.ownBlock] using hk
      omega
    · simp [Value.ownBlock] at hk
end Go.Proofs.Ytbggenilngpjcaa.Gr
