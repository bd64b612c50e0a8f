/- The walk of HeapMost. -/
import Derived.Test.YtanmpokfeidlcaaHpOpen
namespace Go.Proofs.Ytanmpokfeidlcaa.Hp
open Go Go.RowKit Go.Lib

def clipM (z : Int) : Int := if z < 0 then 0 else if z ≤ 1125899906842624 then z else 1125899906842624
theorem clipM_bounds (z : Int) : 0 ≤ clipM z ∧ clipM z ≤ 1125899906842624 := by unfold clipM; split <;> (try split) <;> omega
/-- The activities behind j bumps. -/
def fillA (c : Int → Int) (G : Nat → Int) (j : Nat) : Nat → Int := fun v => if 1 ≤ v ∧ v ≤ j then c (G (v - 1)) else 0
theorem fillA_zero (c : Int → Int) (G : Nat → Int) : fillA c G 0 = fun _ => 0 := by funext v; unfold fillA; rw [if_neg (by omega)]
theorem fillA_next (c : Int → Int) (G : Nat → Int) (j : Nat) : fillA c G j (j + 1) = 0 := by unfold fillA; rw [if_neg (by omega)]
theorem fillA_step (c : Int → Int) (G : Nat → Int) (j : Nat) : upd (fillA c G j) (j + 1) (c (G j)) = fillA c G (j + 1) := by
  funext v; unfold upd fillA
  by_cases e : v = j + 1
  · subst e; simp
  · rw [if_neg e]
    by_cases q : 1 ≤ v ∧ v ≤ j
    · rw [if_pos q, if_pos (by omega)]
    · rw [if_neg q, if_neg (by omega)]

/-- Bump of the next variable by a number from 0 on. -/
theorem Bump_fill {w : World} {L : Loc} {n : Nat} {In : Nat → Bool} {c : Int → Int} {G : Nat → Int} {j : Nat} (h : IsHeap w L n In (fillA c G j)) (hj : j < n) (b : Int) (h0 : 0 ≤ b) (h1 : b ≤ 9223372036854775807) (hc : bump 0 b = c (G j)) :
    Calls Try.prog 15 #[.pointer (some ⟨L.h, 0, none⟩), .int .i64 ((j : Int) + 1), .int .i64 b] w fun e w' => e = .returned (.bool true) ∧ IsHeap w' L n In (fillA c G (j + 1)) ∧ Only L.all w w' := by
  have h2 := Bump_heap h ((j + 1 : Nat) : Int) b h1
  rw [isV_nat (by omega) (by omega), Int.toNat_natCast, fillA_next, hc, fillA_step, if_pos ⟨rfl, h0⟩] at h2
  push_cast at h2
  simpa [h0] using h2

theorem IsHeap.lens {w : World} {L : Loc} {n : Nat} {In : Nat → Bool} {A : Nat → Int} (h : IsHeap w L n In A) : A 0 = 0 ∧ (∀ v, v ≤ n → 0 ≤ A v ∧ A v ≤ 1152921504606846976) := by
  obtain ⟨k, T, P, _, _, _, _, _, h1, h2, _⟩ := h; exact ⟨h1, h2⟩

set_option maxHeartbeats 4000000 in
set_option maxRecDepth 100000 in
theorem HeapMost_law (a : Option Addr) (n c : Nat) (G : Nat → Int) (s : Nat) (w : World) (hr : ArgI w a n G) (hl : n ≤ 9223372036854775807) (hs : s < 256) :
    Calls Try.prog 7 #[.slice a n c, .int .u8 (s : Int)] w fun e w' => e = .returned (.bool true) ∧ Below w.heap.size w w' := by
  have HAW : Hid (∀ w, Calls Try.prog 8 #[] w fun e w' => e = .returned (.bool true) ∧ Below w.heap.size w w') := awake_any
  have HARG := Lib.hid hr
  clear hr
  by_cases hbig : n ≤ 40 ∧ 0 < n
  · obtain ⟨h40, h0⟩ := hbig
    have h40z : ¬ (40 : Int) < (n : Int) := by omega
    have h40d : decide ((40 : Int) < (n : Int)) = false := by simpa using h40z
    have h0z : ((n : Int) == 0) = false := by simp; omega
    have hn : n ≤ 100000 := by omega
    go_enter Try.func7, Try.ntmps7
    go_wp2_with fail
    refine (HAW.out w).mono ?_
    rintro e w1 ⟨rfl, hB1⟩
    have HB1 := Lib.hid hB1
    clear hB1
    go_wp2_with fail
    refine (New_ok n w1 hn).mono ?_
    rintro e w2 ⟨L, rfl, hh2, hb2, hl2⟩
    have HS0 : Hid (IsHeap w2 L n (fun _ => true) (fillA clipM G 0) ∧ Below w.heap.size w w2 ∧ ∀ b ∈ L.all, w.heap.size ≤ b) := by
      rw [fillA_zero]
      exact ⟨hh2, HB1.out.trans (hb2.mono HB1.out.size), fun b hb => Nat.le_trans HB1.out.size (hl2 b hb)⟩
    clear hh2 hb2 hl2 HB1
    go_wp2_with fail
    go_loopw [7] (fun iv wr => ∃ j : Nat, iv = .int .i64 (j : Int) ∧ j ≤ n ∧ Hid (IsHeap wr L n (fun _ => true) (fillA clipM G j) ∧ Below w.heap.size w wr ∧ ∀ b ∈ L.all, w.heap.size ≤ b)) (fun iv _ => n - (intOf iv).toNat)
    case atStart => exact ⟨0, rfl, Nat.zero_le _, HS0⟩
    case round =>
      obtain ⟨j, rfl, hj, HH⟩ := hrel
      by_cases hlt : j < n
      · have hltz : (j : Int) < (n : Int) := by omega
        obtain ⟨b, off, rfl, hb, hc⟩ := (HARG.out.below HH.out.2.1).resolve_left (by omega)
        have cj := hc j hlt
        have HST : Hid (∀ x, 0 ≤ x → x ≤ 9223372036854775807 → bump 0 x = clipM (G j) → Calls Try.prog 15 #[.pointer (some ⟨L.h, 0, none⟩), .int .i64 ((j : Int) + 1), .int .i64 x] wr fun e w' => e = .returned (.bool true) ∧ IsHeap w' L n (fun _ => true) (fillA clipM G (j + 1)) ∧ Only L.all wr w') :=
          fun x x0 x1 x2 => Bump_fill HH.out.1 hlt x x0 x1 x2
        generalize hg : G j = g at *
        clear hc hb
        have hcase : g < 0 ∨ (0 ≤ g ∧ g ≤ 1125899906842624) ∨ 1125899906842624 < g := by omega
        rcases hcase with hg1 | hg1 | hg1
        all_goals
          go_wp2_with fail
          refine (HST.out _ (by omega) (by omega) (by unfold bump clipM; split <;> (try split) <;> (try split) <;> omega)).mono ?_
          rintro e w3 ⟨rfl, h3, o3⟩
          have HH3 : Hid (IsHeap w3 L n (fun _ => true) (fillA clipM G (j + 1)) ∧ Below w.heap.size w w3 ∧ ∀ b ∈ L.all, w.heap.size ≤ b) := ⟨h3, HH.out.2.1.trans (o3.below HH.out.2.1.size HH.out.2.2), HH.out.2.2⟩
          clear h3 o3
          go_wp2_with fail
          go_roundw
          case rel => exact ⟨j + 1, by go_num, by omega, HH3⟩
          case measure => simp [intOf]; omega
      · obtain rfl : j = n := by omega
        have hltz : ¬ (j : Int) < (j : Int) := by omega
        have hmod : ((s : Int)).tmod (j : Int) = ((s % j : Nat) : Int) := by rw [Int.tmod_eq_emod_of_nonneg (by omega)]; omega
        have hmod2 : (s : Int) % (j : Int) = ((s % j : Nat) : Int) := by omega
        have hmn : j ≠ 0 := by omega
        have hml : s % j < j := Nat.mod_lt _ h0
        obtain ⟨v, hv⟩ : ∃ v, v = s % j := ⟨_, rfl⟩
        rw [← hv] at hmod hmod2 hml
        have HV := Lib.hid hv
        clear hv
        have HB0 := Bump_heap HH.out.1 ((1 + v : Nat) : Int) 36028797018963968 (by decide)
        rw [isV_nat (by omega) (by omega), Int.toNat_natCast, if_pos ⟨rfl, by decide⟩] at HB0
        have hA := HH.out.1.lens.2 (1 + v) (by omega)
        have hA2 : fillA clipM G j (1 + v) = clipM (G v) := by unfold fillA; rw [if_pos ⟨by omega, by omega⟩, show 1 + v - 1 = v by omega]
        have hA3 := clipM_bounds (G v)
        have hb : bump (fillA clipM G j (1 + v)) 36028797018963968 = fillA clipM G j (1 + v) + 36028797018963968 := by unfold bump; rw [if_pos (by omega)]
        rw [hb] at HB0
        have hnext : IsNext j (upd (fillA clipM G j) (1 + v) (fillA clipM G j (1 + v) + 36028797018963968)) (fun _ => true) (1 + v) := by
          refine ⟨by omega, by omega, rfl, fun u u1 u2 _ u4 => ?_⟩
          rw [bef_iff, upd_same, upd_ne _ _ _ u4]
          left
          have : fillA clipM G j u = clipM (G (u - 1)) := by unfold fillA; rw [if_pos ⟨u1, u2⟩]
          have := clipM_bounds (G (u - 1))
          omega
        have HNX := Lib.hid hnext
        have HBB := Lib.hid HB0
        push_cast at HBB
        clear HB0 hA hA2 hA3 hb hnext
        go_wp2_with fail
        refine HBB.out.mono ?_
        rintro e w3 ⟨rfl, h3, o3⟩
        have H3 := Lib.hid (Next_is h3 HNX.out)
        have O3 := Lib.hid o3
        clear h3 o3 HBB HNX
        push_cast at H3
        go_wp2_with fail
        refine H3.out.mono ?_
        rintro e w4 ⟨rfl, h4, o4⟩
        have hh := Has_heap h4 ((1 + v : Nat) : Int)
        rw [isV_nat (by omega) (by omega), Int.toNat_natCast, upd_same] at hh
        push_cast at hh
        have hlen := Len_heap h4
        have hcnt : (cnt j (upd (fun _ => true) (1 + v) false) : Int) = (j : Int) - 1 := by
          have h1 := cnt_take (n := j) (In := fun _ => true) (v := 1 + v) (by omega) (by omega) rfl
          rw [cnt_all (fun _ _ _ => rfl)] at h1
          omega
        rw [hcnt] at hlen
        have HHAS := Lib.hid hh
        have HLEN := Lib.hid hlen
        have O4 := Lib.hid o4
        clear h4 o4 H3 hh hlen hcnt
        go_wp2_with fail
        refine HHAS.out.mono ?_
        rintro e w5 ⟨rfl, rfl⟩
        go_wp2_with fail
        refine HLEN.out.mono ?_
        rintro e w5 ⟨rfl, rfl⟩
        go_wp2_with fail
        go_ret
        exact ⟨rfl, HH.out.2.1.trans ((O3.out.trans O4.out).below HH.out.2.1.size HH.out.2.2)⟩
  · by_cases h40 : n ≤ 40
    · obtain rfl : n = 0 := by omega
      go_enter Try.func7, Try.ntmps7
      go_wp2_with fail
      refine (HAW.out w).mono ?_
      rintro e w1 ⟨rfl, hB1⟩
      have HB1 := Lib.hid hB1
      clear hB1
      go_wp2_with fail
      refine (HAW.out w1).mono ?_
      rintro e w2 ⟨rfl, hB2⟩
      have HB2 := Lib.hid hB2
      clear hB2
      go_wp2_with fail
      go_ret
      exact ⟨rfl, HB1.out.trans (HB2.out.mono HB1.out.size)⟩
    · have h40z : (40 : Int) < (n : Int) := by omega
      go_enter Try.func7, Try.ntmps7
      go_wp2_with fail
      refine (HAW.out w).mono ?_
      rintro e w1 ⟨rfl, hB1⟩
      have HB1 := Lib.hid hB1
      clear hB1
      go_wp2_with fail
      refine (HAW.out w1).mono ?_
      rintro e w2 ⟨rfl, hB2⟩
      have HB2 := Lib.hid hB2
      clear hB2
      go_wp2_with fail
      go_ret
      exact ⟨rfl, HB1.out.trans (HB2.out.mono HB1.out.size)⟩
end Go.Proofs.Ytanmpokfeidlcaa.Hp
