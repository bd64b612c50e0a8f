/- Contracts of limit, vector, own, sign. -/
import Derived.Test.YtnkcdgpaphphaaaBtMem
namespace Go.Proofs.Ytnkcdgpaphphaaa.Gr
open Go Go.RowKit Go.Lib Go.Maps

/-- The width that a number stands for. -/
def lim (w : Int) : Nat := (min (max w 1) 16).toNat
theorem lim_le (w : Int) : lim w ≤ 16 := by unfold lim; omega
theorem lim_pos (w : Int) : 1 ≤ lim w := by unfold lim; omega
theorem lim_int (w : Int) : min (max w 1) 16 = (lim w : Int) := by unfold lim; omega
theorem lim_of {w : Nat} (h1 : 1 ≤ w) (h2 : w ≤ 16) : lim (w : Int) = w := by unfold lim; omega

set_option maxHeartbeats 1000000 in
theorem limit_any (w : Int) (W : World) : Calls Try.prog 59 #[.int .i64 w] W fun e w' => e = .returned (.int .i64 (lim w : Int)) ∧ W = w' := by
  rcases Int.lt_or_le w 1 with q | q
  · have HE : Hid (lim w = 1) := by unfold Hid lim; omega
    go_enter Try.func59, Try.ntmps59
    go_wp2_with fail
    go_ret
    rw [HE.out]
    exact ⟨rfl, rfl⟩
  · have q1 : ¬ w < 1 := by omega
    rcases Int.lt_or_le 16 w with r | r
    · have HE : Hid (lim w = 16) := by unfold Hid lim; omega
      go_enter Try.func59, Try.ntmps59
      go_wp2_with fail
      go_ret
      rw [HE.out]
      exact ⟨rfl, rfl⟩
    · have HE : Hid ((lim w : Int) = w) := by unfold Hid lim; omega
      have r1 : ¬ 16 < w := by omega
      go_enter Try.func59, Try.ntmps59
      go_wp2_with fail
      go_ret
      rw [HE.out]
      exact ⟨rfl, rfl⟩

/-- A list itself, or the vector with one false edge. -/
def vecE (es : List Nat) : List Nat := if es.length < 1 ∨ 16 < es.length then [0] else es
theorem vecE_pos (es : List Nat) : 1 ≤ (vecE es).length := by
  unfold vecE; split
  · simp
  · omega
theorem vecE_le (es : List Nat) : (vecE es).length ≤ 16 := by
  unfold vecE; split
  · simp
  · omega
theorem vecE_of {es : List Nat} (h1 : 1 ≤ es.length) (h2 : es.length ≤ 16) : vecE es = es := by unfold vecE; rw [if_neg (by omega)]
theorem vecE_mem {es : List Nat} {p : Nat → Prop} (h : ∀ e ∈ es, p e) (h0 : p 0) : ∀ e ∈ vecE es, p e := by
  unfold vecE; split
  · intro e he; simp at he; subst he; exact h0
  · exact h

def VctE (w : World) (G : Loc) (es : List Nat) (e : Ending) (w' : World) : Prop := ∃ a c, e = .returned (.slice a es.length c) ∧ Below w.heap.size w w' ∧ Vec w' G a es

set_option maxHeartbeats 1000000 in
theorem vector_any {w : World} {G : Loc} (a : Option Addr) (es : List Nat) (c : Nat) (hG : ∀ k, G.has k → k < w.heap.size) (h : Vec w G a es) (hn : es.length ≤ 1000) :
    Calls Try.prog 62 #[.slice a es.length c] w (VctE w G (vecE es)) := by
  have HB : Hid (Below w.heap.size w (w.alloc (.cells #[.int .i64 0] 3))) := (Below.refl _ _).alloc (Nat.le_refl _) _
  have HZ : Hid (Vec (w.alloc (.cells #[.int .i64 0] 3)) G (some ⟨w.heap.size, 0, none⟩) [0]) := by
    refine Or.inr ⟨w.heap.size, 0, rfl, by simp, fun q => Nat.lt_irrefl _ (hG _ q), fun j hj => ?_⟩
    have : j = 0 := by simpa using hj
    subst this
    simp only [World.cell?, heap_alloc_new]; rfl
  have HV := Lib.hid h
  clear h hG
  rcases Nat.lt_or_ge es.length 1 with q | q
  · have HE : Hid (vecE es = [0]) := by unfold Hid vecE; rw [if_pos (Or.inl q)]
    have q1 : (es.length : Int) < 1 := by omega
    generalize es.length = n at *
    go_enter Try.func62, Try.ntmps62
    go_wp2_with fail
    go_ret
    rw [HE.out]
    exact ⟨_, _, rfl, HB.out, HZ.out⟩
  · have q1 : ¬ (es.length : Int) < 1 := by omega
    rcases Nat.lt_or_ge 16 es.length with r | r
    · have HE : Hid (vecE es = [0]) := by unfold Hid vecE; rw [if_pos (Or.inr r)]
      have q2 : (16 : Int) < (es.length : Int) := by omega
      generalize es.length = n at *
      go_enter Try.func62, Try.ntmps62
      go_wp2_with fail
      go_ret
      rw [HE.out]
      exact ⟨_, _, rfl, HB.out, HZ.out⟩
    · have HE : Hid (vecE es = es) := vecE_of q r
      have q2 : ¬ (16 : Int) < (es.length : Int) := by omega
      obtain ⟨n, hn'⟩ : ∃ n, es.length = n := ⟨_, rfl⟩
      have HN := Lib.hid hn'
      rw [hn'] at hn q r q1 q2 ⊢
      clear hn'
      go_enter Try.func62, Try.ntmps62
      go_wp2_with fail
      go_ret
      rw [HE.out]
      exact ⟨a, c, by rw [HN.out]; rfl, Below.refl _ _, HV.out⟩

set_option maxHeartbeats 1000000 in
theorem own_bits {w : World} {G : Loc} {L : List Nd} (h : Rep w G L) (x : Nat) (hx : x < 2 * (L.length + 1)) (hl : L.length < 150000) :
    Calls Try.prog 63 #[.pointer (some ⟨G.h, 0, none⟩), .int .i64 (x : Int)] w (OpE w G (x, L)) := by
  have HA := And_any h (x : Int) ((1 : Nat) : Int) (by omega) (by omega) hl
  rw [own_nat hx, own_nat (show 1 < 2 * (L.length + 1) by omega), andE_one] at HA
  have HH := Lib.hid HA
  clear h HA hx hl
  go_enter Try.func63, Try.ntmps63
  go_wp2_with fail
  refine HH.out.mono ?_
  intro e w1 hop
  have HP := Lib.hid hop
  obtain ⟨rfl, _⟩ := hop.thenE
  clear hop
  go_wp2_with fail
  go_ret
  exact HP.out

set_option maxHeartbeats 1000000 in
theorem sign_any {w : World} {G : Loc} (a : Option Addr) (es : List Nat) (c : Nat) (h : Vec w G a es) (hp : 0 < es.length) (hn : es.length ≤ 1000) :
    Calls Try.prog 70 #[.slice a es.length c] w fun e w' => e = .returned (.int .i64 (es.getLastD 0 : Int)) ∧ w = w' := by
  obtain ⟨b, off, rfl, _, _, hc⟩ := h.resolve_left (by omega)
  have cc : w.cell? ⟨b, off + (es.length - 1), none⟩ = some (.int .i64 (es.getD (es.length - 1) 0 : Int)) := hc _ (by omega)
  have HE : Hid (es.getD (es.length - 1) 0 = es.getLastD 0) := by
    unfold Hid
    rw [List.getLastD_eq_getLast?, List.getLast?_eq_getElem?, List.getD_eq_getElem?_getD]
  clear hc h
  obtain ⟨k, hk⟩ : ∃ k, k = es.length - 1 := ⟨_, rfl⟩
  have e1 : IntKind.i64.wrap ((es.length : Int) - 1) = (k : Int) := by rw [wrap_i64 (by omega) (by omega)]; omega
  have e2 : (k : Int) < (es.length : Int) := by omega
  have e3 : (0 : Int) ≤ (k : Int) := by omega
  rw [← hk] at cc HE
  generalize es.getD k 0 = x at *
  generalize es.length = n at *
  have e4 : (n : Int) - 1 = (k : Int) := by omega
  clear hk hp
  go_enter Try.func70, Try.ntmps70
  go_wp2_with fail
  go_ret
  rw [HE.out]
  exact ⟨rfl, rfl⟩
end Go.Proofs.Ytnkcdgpaphphaaa.Gr
