/- The walk of HeapHalves. -/
import Derived.Test.YtanmpokfeidlcaaHpMost
namespace Go.Proofs.Ytanmpokfeidlcaa.Hp
open Go Go.RowKit Go.Lib

def clipP (z : Int) : Int := if z < 0 then 0 else if z ≤ 1152921504606846976 then z else 1152921504606846976
theorem clipP_bounds (z : Int) : 0 ≤ clipP z ∧ clipP z ≤ 1152921504606846976 := by unfold clipP; split <;> (try split) <;> omega

/-- Bump of the next variable by any number. -/
theorem Bump_fillP {w : World} {L : Loc} {n : Nat} {In : Nat → Bool} {G : Nat → Int} {j : Nat} (h : IsHeap w L n In (fillA clipP G j)) (hj : j < n) (h1 : G j ≤ 9223372036854775807) :
    Calls Try.prog 15 #[.pointer (some ⟨L.h, 0, none⟩), .int .i64 ((j : Int) + 1), .int .i64 (G j)] w fun e w' => e = .returned (.bool (decide (0 ≤ G j))) ∧ IsHeap w' L n In (fillA clipP G (j + 1)) ∧ Only L.all w w' := by
  by_cases h0 : 0 ≤ G j
  · have := Bump_fill h hj (G j) h0 h1 (by unfold bump clipP; split <;> (try split) <;> (try split) <;> omega)
    rw [decide_eq_true h0]
    exact this
  · have h2 := Bump_heap h ((j + 1 : Nat) : Int) (G j) h1
    rw [isV_nat (by omega) (by omega), if_neg (fun q => h0 q.2)] at h2
    have e : fillA clipP G (j + 1) = fillA clipP G j := by
      rw [← fillA_step, show clipP (G j) = 0 by unfold clipP; rw [if_pos (by omega)]]
      exact upd_self (fillA_next _ _ _)
    rw [e]
    push_cast at h2
    simpa using h2

def halfZ : Nat → Int → Int
  | 0, x => x
  | i + 1, x => halfZ i x / 2
def halfN (i : Nat) (A : Nat → Int) : Nat → Int := fun v => halfZ i (A v)
theorem halfN_step (i : Nat) (A : Nat → Int) : half (halfN i A) = halfN (i + 1) A := rfl
theorem halfN_zero (A : Nat → Int) : halfN 0 A = A := rfl
theorem halfZ_pos (i : Nat) {x : Int} (h : 0 ≤ x) : 0 ≤ halfZ i x := by
  induction i with
  | zero => exact h
  | succ i ih => unfold halfZ; omega
theorem halfZ_le (i : Nat) {x : Int} (h : 0 ≤ x) : halfZ i x ≤ x := by
  induction i with
  | zero => exact Int.le_refl _
  | succ i ih => have := halfZ_pos i h; unfold halfZ; omega

set_option maxHeartbeats 4000000 in
set_option maxRecDepth 100000 in
theorem HeapHalves_law (a : Option Addr) (n c : Nat) (G : Nat → Int) (s : Nat) (w : World) (hr : ArgI w a n G) (hl : n ≤ 9223372036854775807) (hs : s < 256) (hG : ∀ j, -9223372036854775808 ≤ G j ∧ G j ≤ 9223372036854775807) :
    Calls Try.prog 5 #[.slice a n c, .int .u8 (s : Int)] w fun e w' => e = .returned (.bool true) ∧ Below w.heap.size w w' := by
  have HAW : Hid (∀ w, Calls Try.prog 8 #[] w fun e w' => e = .returned (.bool true) ∧ Below w.heap.size w w') := awake_any
  have HARG := Lib.hid hr
  have HGB := Lib.hid hG
  clear hr hG
  by_cases h40 : n ≤ 40
  · have h40z : ¬ (40 : Int) < (n : Int) := by omega
    have h40d : decide ((40 : Int) < (n : Int)) = false := by simpa using h40z
    have hn : n ≤ 100000 := by omega
    obtain ⟨t, ht⟩ : ∃ t, t = s % 70 := ⟨_, rfl⟩
    have ht7 : t < 70 := by omega
    have hmod : (s : Int) % 70 = (t : Int) := by omega
    have hmod1 : ((s : Int)).tmod 70 = (t : Int) := by rw [Int.tmod_eq_emod_of_nonneg (by omega)]; omega
    clear ht
    go_enter Try.func5, Try.ntmps5
    go_wp2_with fail
    refine (HAW.out w).mono ?_
    rintro e w1 ⟨rfl, hB1⟩
    have HB1 := Lib.hid hB1
    clear hB1
    go_wp2_with fail
    refine (New_ok n w1 hn).mono ?_
    rintro e w2 ⟨L, rfl, hh2, hb2, hl2⟩
    have HS0 : Hid (IsHeap w2 L n (fun _ => true) (fillA clipP G 0) ∧ Below w.heap.size w w2 ∧ ∀ b ∈ L.all, w.heap.size ≤ b) := by
      rw [fillA_zero]
      exact ⟨hh2, HB1.out.trans (hb2.mono HB1.out.size), fun b hb => Nat.le_trans HB1.out.size (hl2 b hb)⟩
    clear hh2 hb2 hl2 HB1
    go_wp2_with fail
    go_loopw [7] (fun iv wr => ∃ j : Nat, iv = .int .i64 (j : Int) ∧ j ≤ n ∧ Hid (IsHeap wr L n (fun _ => true) (fillA clipP G j) ∧ Below w.heap.size w wr ∧ ∀ b ∈ L.all, w.heap.size ≤ b)) (fun iv _ => n - (intOf iv).toNat)
    case atStart => exact ⟨0, rfl, Nat.zero_le _, HS0⟩
    case round =>
      obtain ⟨j, rfl, hj, HH⟩ := hrel
      by_cases hlt : j < n
      · have hltz : (j : Int) < (n : Int) := by omega
        obtain ⟨b, off, rfl, hb, hc⟩ := (HARG.out.below HH.out.2.1).resolve_left (by omega)
        have cj := hc j hlt
        have HST := Lib.hid (Bump_fillP HH.out.1 hlt (HGB.out j).2)
        generalize hg : G j = g at *
        clear hc hb hg
        go_wp2_with fail
        refine HST.out.mono ?_
        rintro e w3 ⟨rfl, h3, o3⟩
        have HH3 : Hid (IsHeap w3 L n (fun _ => true) (fillA clipP G (j + 1)) ∧ Below w.heap.size w w3 ∧ ∀ b ∈ L.all, w.heap.size ≤ b) := ⟨h3, HH.out.2.1.trans (o3.below HH.out.2.1.size HH.out.2.2), HH.out.2.2⟩
        clear h3 o3
        go_wp2_with fail
        go_roundw
        case rel => exact ⟨j + 1, by go_num, by omega, HH3⟩
        case measure => simp [intOf]; omega
      · obtain rfl : j = n := by omega
        have hltz : ¬ (j : Int) < (j : Int) := by omega
        have HS1 : Hid (IsHeap wr L j (fun _ => true) (halfN 0 (fillA clipP G j)) ∧ Below w.heap.size w wr ∧ ∀ b ∈ L.all, w.heap.size ≤ b) := HH.out
        clear HH
        go_wp2_with fail
        go_loopw [8] (fun iv wr => ∃ i : Nat, iv = .int .i64 (i : Int) ∧ i ≤ t ∧ Hid (IsHeap wr L j (fun _ => true) (halfN i (fillA clipP G j)) ∧ Below w.heap.size w wr ∧ ∀ b ∈ L.all, w.heap.size ≤ b)) (fun iv _ => t - (intOf iv).toNat)
        case atStart => exact ⟨0, rfl, Nat.zero_le _, HS1⟩
        case round =>
          obtain ⟨i, rfl, hi, HH⟩ := hrel
          by_cases hlt2 : i < t
          · have hltz2 : (i : Int) < (t : Int) := by omega
            have HST := Lib.hid (Halve_heap HH.out.1)
            go_wp2_with fail
            refine HST.out.mono ?_
            rintro e w3 ⟨rfl, h3, o3⟩
            have HH3 : Hid (IsHeap w3 L j (fun _ => true) (halfN (i + 1) (fillA clipP G j)) ∧ Below w.heap.size w w3 ∧ ∀ b ∈ L.all, w.heap.size ≤ b) := ⟨h3, HH.out.2.1.trans (o3.below HH.out.2.1.size HH.out.2.2), HH.out.2.2⟩
            clear h3 o3
            go_wp2_with fail
            go_roundw
            case rel => exact ⟨i + 1, by go_num, by omega, HH3⟩
            case measure => simp [intOf]; omega
          · obtain rfl : i = t := by omega
            have hltz2 : ¬ (i : Int) < (i : Int) := by omega
            go_wp2_with fail
            go_loopw [9] (fun iv wr => ∃ m : Nat, iv = .int .i64 (m : Int) ∧ m ≤ j ∧ Hid (IsHeap wr L j (fun _ => true) (halfN i (fillA clipP G j)) ∧ Below w.heap.size w wr ∧ ∀ b ∈ L.all, w.heap.size ≤ b)) (fun iv _ => j - (intOf iv).toNat)
            case atStart => exact ⟨0, rfl, Nat.zero_le _, HH⟩
            case round =>
              clear HH
              obtain ⟨m, rfl, hm, HH⟩ := hrel
              by_cases hlt3 : m < j
              · have hltz3 : (m : Int) < (j : Int) := by omega
                obtain ⟨b, off, rfl, hb, hc⟩ := (HARG.out.below HH.out.2.1).resolve_left (by omega)
                have cj := hc m hlt3
                have hgb := HGB.out m
                obtain ⟨x, hx⟩ : ∃ x, x = clipP (G m) := ⟨_, rfl⟩
                have hxx : clipP (G m) = if G m < 0 then 0 else if G m ≤ 1152921504606846976 then G m else 1152921504606846976 := rfl
                have hxb := clipP_bounds (G m)
                have HX := Lib.hid hx
                rw [← hx] at hxx hxb
                generalize hg : G m = g at *
                have HG2 := Lib.hid hg
                clear hc hb hg hx
                have hcase : (g < 0 ∧ x = 0) ∨ (0 ≤ g ∧ g ≤ 1152921504606846976 ∧ x = g) ∨ (1152921504606846976 < g ∧ x = 1152921504606846976) := by
                  by_cases q1 : g < 0
                  · rw [if_pos q1] at hxx; exact Or.inl ⟨q1, hxx⟩
                  · rw [if_neg q1] at hxx
                    by_cases q2 : g ≤ 1152921504606846976
                    · rw [if_pos q2] at hxx; exact Or.inr (Or.inl ⟨by omega, q2, hxx⟩)
                    · rw [if_neg q2] at hxx; exact Or.inr (Or.inr ⟨by omega, hxx⟩)
                clear hxx
                rcases hcase with ⟨hg1, hg2⟩ | ⟨hg1, hg3, hg2⟩ | ⟨hg1, hg2⟩
                all_goals
                  subst hg2
                  go_wp2_with fail
                  go_loopw [10, 11] (fun xv iv wr => ∃ k : Nat, iv = .int .i64 (k : Int) ∧ k ≤ i ∧ Hid (xv = .int .i64 (halfZ k (clipP (G m)))) ∧ Hid (IsHeap wr L j (fun _ => true) (halfN i (fillA clipP G j)) ∧ Below w.heap.size w wr ∧ ∀ b ∈ L.all, w.heap.size ≤ b)) (fun _ iv _ => i - (intOf iv).toNat)
                  case atStart => exact ⟨0, rfl, Nat.zero_le _, by rw [Hid, HG2.out, ← HX.out]; rfl, HH⟩
                  case round =>
                    clear HH
                    obtain ⟨k, rfl, hk, HXV, HH⟩ := hrel
                    obtain ⟨y, hy⟩ : ∃ y, y = halfZ k (clipP (G m)) := ⟨_, rfl⟩
                    obtain rfl := HXV.out
                    have hy0 : 0 ≤ y := by rw [hy]; exact halfZ_pos _ (clipP_bounds _).1
                    have hy1 : y ≤ 1152921504606846976 := by rw [hy]; exact Int.le_trans (halfZ_le _ (clipP_bounds _).1) (clipP_bounds _).2
                    rw [← hy]
                    have HY := Lib.hid hy
                    clear hy HXV
                    by_cases hlt4 : k < i
                    · have hltz4 : (k : Int) < (i : Int) := by omega
                      go_wp2_with fail
                      go_roundw
                      case rel => exact ⟨k + 1, by go_num, by omega, by rw [Hid, halfZ, ← HY.out], HH⟩
                      case measure => simp [intOf]; omega
                    · obtain rfl : k = i := by omega
                      have hltz4 : ¬ (k : Int) < (k : Int) := by omega
                      have hact := Activity_heap HH.out.1 ((m + 1 : Nat) : Int)
                      have hval : halfN k (fillA clipP G j) (m + 1) = y := by
                        rw [HY.out]; unfold halfN fillA; rw [if_pos ⟨by omega, by omega⟩]; rfl
                      rw [isV_nat (by omega) (by omega), if_pos rfl, Int.toNat_natCast, hval] at hact
                      push_cast at hact
                      have HACT := Lib.hid hact
                      clear hact hval
                      go_wp2_with fail
                      refine HACT.out.mono ?_
                      rintro e w5 ⟨rfl, rfl⟩
                      go_wp2_with fail
                      go_roundw
                      case rel => exact ⟨m + 1, by go_num, by omega, HH⟩
                      case measure => simp [intOf]; omega
              · obtain rfl : m = j := by omega
                have hltz3 : ¬ (m : Int) < (m : Int) := by omega
                have hlen := Len_heap HH.out.1
                rw [cnt_all (fun _ _ _ => rfl)] at hlen
                have HLEN := Lib.hid hlen
                clear hlen
                go_wp2_with fail
                refine HLEN.out.mono ?_
                rintro e w5 ⟨rfl, rfl⟩
                go_wp2_with fail
                go_ret
                exact ⟨rfl, HH.out.2.1⟩
  · have h40z : (40 : Int) < (n : Int) := by omega
    go_enter Try.func5, Try.ntmps5
    go_wp2_with fail
    refine (HAW.out w).mono ?_
    rintro e w1 ⟨rfl, hB1⟩
    have HB1 := Lib.hid hB1
    clear hB1
    go_wp2_with fail
    refine (HAW.out w1).mono ?_
    rintro e w2 ⟨rfl, hB2⟩
    have HB2 := Lib.hid hB2
    clear hB2
    go_wp2_with fail
    go_ret
    exact ⟨rfl, HB1.out.trans (HB2.out.mono HB1.out.size)⟩
end Go.Proofs.Ytanmpokfeidlcaa.Hp
