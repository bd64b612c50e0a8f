/- The walk of HeapSorts. -/
import Derived.Test.YtanmpokfeidlcaaHpHalves
import Derived.Deep.RegionHeld3
namespace Go.Proofs.Ytanmpokfeidlcaa.Hp
open Go Go.RowKit Go.Lib

/-- What has been taken comes before all that is left. -/
def Left (n : Nat) (A : Nat → Int) (In : Nat → Bool) (last : Nat) : Prop := ∀ u, 1 ≤ u → u ≤ n → In u = true → bef A last u = true

set_option maxHeartbeats 4000000 in
set_option maxRecDepth 100000 in
theorem HeapSorts_law (a : Option Addr) (n c : Nat) (G : Nat → Int) (w : World) (hr : ArgI w a n G) (hl : n ≤ 9223372036854775807) (hG : ∀ j, -9223372036854775808 ≤ G j ∧ G j ≤ 9223372036854775807) :
    Calls Try.prog 4 #[.slice a n c] w fun e w' => e = .returned (.bool true) ∧ Below w.heap.size w w' := by
  have HAW : Hid (∀ w, Calls Try.prog 8 #[] w fun e w' => e = .returned (.bool true) ∧ Below w.heap.size w w') := awake_any
  have HARG := Lib.hid hr
  have HGB := Lib.hid hG
  clear hr hG
  by_cases h40 : n ≤ 60
  · have h40z : ¬ (60 : Int) < (n : Int) := by omega
    have h40d : decide ((60 : Int) < (n : Int)) = false := by simpa using h40z
    have hn : n ≤ 100000 := by omega
    go_enter Try.func4, Try.ntmps4
    go_wp2_with fail
    refine (HAW.out w).mono ?_
    rintro e w1 ⟨rfl, hB1⟩
    have HB1 := Lib.hid hB1
    clear hB1
    go_wp2_with fail
    refine (New_ok n w1 hn).mono ?_
    rintro e w2 ⟨L, rfl, hh2, hb2, hl2⟩
    have HS0 : Hid (IsHeap w2 L n (fun _ => true) (fillA clipP G 0) ∧ Below w.heap.size w w2 ∧ ∀ b ∈ L.all, w.heap.size ≤ b) := by
      rw [fillA_zero]
      exact ⟨hh2, HB1.out.trans (hb2.mono HB1.out.size), fun b hb => Nat.le_trans HB1.out.size (hl2 b hb)⟩
    clear hh2 hb2 hl2 HB1
    go_wp2_with fail
    go_loopw [5] (fun iv wr => ∃ j : Nat, iv = .int .i64 (j : Int) ∧ j ≤ n ∧ Hid (IsHeap wr L n (fun _ => true) (fillA clipP G j) ∧ Below w.heap.size w wr ∧ ∀ b ∈ L.all, w.heap.size ≤ b)) (fun iv _ => n - (intOf iv).toNat)
    case atStart => exact ⟨0, rfl, Nat.zero_le _, HS0⟩
    case round =>
      obtain ⟨j, rfl, hj, HH⟩ := hrel
      by_cases hlt : j < n
      · have hltz : (j : Int) < (n : Int) := by omega
        have HST : Hid (Calls Try.prog 15 #[.pointer (some ⟨L.h, 0, none⟩), .int .i64 ((j : Int) + 1), .int .i64 (G j)] wr.drew fun e w' => e = .returned (.bool (decide (0 ≤ G j))) ∧ IsHeap w' L n (fun _ => true) (fillA clipP G (j + 1)) ∧ Only L.all wr.drew w') :=
          Bump_fillP (HH.out.1.drewN 1) hlt (HGB.out j).2
        obtain ⟨b, off, ha, hb, hc⟩ := (HARG.out.below HH.out.2.1).resolve_left (by omega)
        have cj := hc j hlt
        have CJ : Hid (∀ w3, Only L.all wr.drew w3 → w3.cell? ⟨b, off + j, none⟩ = some (.int .i64 (G j))) := by
          intro w3 o3
          have hB3 : Below w.heap.size w w3 := (HH.out.2.1.drew).trans (o3.below HH.out.2.1.size HH.out.2.2)
          obtain ⟨b', off', ha', hb', hc'⟩ := (HARG.out.below hB3).resolve_left (by omega)
          rw [ha] at ha'
          simp only [Option.some.injEq, Addr.mk.injEq, and_true] at ha'
          obtain ⟨rfl, rfl⟩ := ha'
          exact hc' j hlt
        subst ha
        generalize hg : G j = g at *
        clear hc hb hg
        have j0z : (0 : Int) ≤ (j : Int) := by omega
        have hwrap : IntKind.i64.wrap ((j : Int) + 1) = (j : Int) + 1 := by rw [IntKind.wrap_i64]; omega
        have hg01 : 0 ≤ g ∨ g < 0 := by omega
        rcases hg01 with hg0 | hg0
        · rw [decide_eq_true hg0] at HST
          go_wp2_with fail
          go_region_held3 (fun w' => w'.cell? ⟨b, off + j, none⟩ = some (.int .i64 g)) (first | exact cj | exact cj3 | go_keep) (first | (go_at_call 15; refine HST.out.mono ?_; rintro e w3 ⟨rfl, h3, o3⟩; have cj3 := CJ.out w3 o3; have HH3 : Hid (IsHeap w3 L n (fun _ => true) (fillA clipP G (j + 1)) ∧ Below w.heap.size w w3 ∧ ∀ b ∈ L.all, w.heap.size ≤ b) := ⟨h3, HH.out.2.1.drew.trans (o3.below HH.out.2.1.size HH.out.2.2), HH.out.2.2⟩; clear h3 o3))
          go_wp2_with fail
          go_roundw
          case rel => exact ⟨j + 1, by go_num, by omega, HH3⟩
          case measure => simp [intOf]; omega
        · rw [decide_eq_false (by omega)] at HST
          go_wp2_with fail
          go_region_held3 (fun w' => w'.cell? ⟨b, off + j, none⟩ = some (.int .i64 g)) (first | exact cj | exact cj3 | go_keep) (first | (go_at_call 15; refine HST.out.mono ?_; rintro e w3 ⟨rfl, h3, o3⟩; have cj3 := CJ.out w3 o3; have HH3 : Hid (IsHeap w3 L n (fun _ => true) (fillA clipP G (j + 1)) ∧ Below w.heap.size w w3 ∧ ∀ b ∈ L.all, w.heap.size ≤ b) := ⟨h3, HH.out.2.1.drew.trans (o3.below HH.out.2.1.size HH.out.2.2), HH.out.2.2⟩; clear h3 o3))
          go_wp2_with fail
          go_roundw
          case rel => exact ⟨j + 1, by go_num, by omega, HH3⟩
          case measure => simp [intOf]; omega
      · obtain rfl : j = n := by omega
        have hltz : ¬ (j : Int) < (j : Int) := by omega
        have HS1 : Hid (IsHeap wr L j (fun _ => true) (fillA clipP G j) ∧ Below w.heap.size w wr ∧ ∀ b ∈ L.all, w.heap.size ≤ b) := HH.out
        clear HH
        go_wp2_with fail
        go_loopw [6, 7] (fun lv iv wr => ∃ (i last : Nat) (In : Nat → Bool), iv = .int .i64 (i : Int) ∧ lv = .int .i64 (last : Int) ∧ i ≤ j ∧ last ≤ j ∧ Hid (IsHeap wr L j In (fillA clipP G j) ∧ cnt j In + i = j ∧ (0 < last → Left j (fillA clipP G j) In last) ∧ Below w.heap.size w wr)) (fun _ iv _ => j - (intOf iv).toNat)
        case atStart => exact ⟨0, 0, fun _ => true, rfl, rfl, Nat.zero_le _, Nat.zero_le _, HS1.out.1, by rw [cnt_all (fun _ _ _ => rfl)]; rfl, fun h => absurd h (by omega), HS1.out.2.1⟩
        case round =>
          obtain ⟨i, last, In, rfl, rfl, hi, hlast, HH⟩ := hrel
          by_cases hlt2 : i < j
          · have hltz2 : (i : Int) < (j : Int) := by omega
            have HNX : Hid (Calls Try.prog 13 #[.pointer (some ⟨L.h, 0, none⟩)] wr fun r w' => ∃ v : Nat, r = .returned (.tuple #[.int .i64 (v : Int), .bool true]) ∧ IsNext j (fillA clipP G j) In v ∧ IsHeap w' L j (upd In v false) (fillA clipP G j) ∧ Only L.all wr w') := by
              refine (Next_heap HH.out.1).mono ?_
              rintro r w' ⟨v, b, rfl, ho, ⟨rfl, h1, h2⟩ | ⟨rfl, rfl, h1, _⟩⟩
              · exact ⟨v, rfl, h1, h2, ho⟩
              · have := HH.out.2.1; omega
            go_wp2_with fail
            refine HNX.out.mono ?_
            rintro r w3 ⟨v, rfl, hv, h3, o3⟩
            have v1 := hv.pos
            have v2 := hv.le
            have v1z : ¬ (v : Int) < 1 := by omega
            have v2z : ¬ (j : Int) < (v : Int) := by omega
            have v1d : decide ((v : Int) < 1) = false := by simpa using v1z
            have v2d : decide ((j : Int) < (v : Int)) = false := by simpa using v2z
            have hh := Has_heap h3 (v : Int)
            rw [isV_nat v1 v2, Int.toNat_natCast, upd_same] at hh
            have HHAS := Lib.hid hh
            have HH3 : Hid (IsHeap w3 L j (upd In v false) (fillA clipP G j) ∧ cnt j (upd In v false) + (i + 1) = j ∧ (0 < v → Left j (fillA clipP G j) (upd In v false) v) ∧ Below w.heap.size w w3) := by
              refine ⟨h3, ?_, fun _ u u1 u2 u3 => ?_, HH.out.2.2.2.trans (o3.below HH.out.2.2.2.size HS1.out.2.2)⟩
              · have := cnt_take v1 v2 hv.here
                have := HH.out.2.1
                omega
              · by_cases q : u = v
                · subst q; rw [upd_same] at u3; cases u3
                · rw [upd_ne _ _ _ q] at u3; exact hv.best u u1 u2 u3 q
            have hav := Activity_heap h3 (v : Int)
            rw [isV_nat v1 v2, if_pos rfl, Int.toNat_natCast] at hav
            have HAV := Lib.hid hav
            have hlv : 0 < last → bef (fillA clipP G j) last v = true := fun q => HH.out.2.2.1 q v v1 v2 hv.here
            have hal : 0 < last → Calls Try.prog 22 #[.pointer (some ⟨L.h, 0, none⟩), .int .i64 (last : Int)] w3 fun e w' => e = .returned (.int .i64 (fillA clipP G j last)) ∧ w3 = w' := by
              intro q
              have := Activity_heap h3 (last : Int)
              rwa [isV_nat q hlast, if_pos rfl, Int.toNat_natCast] at this
            have HAL := Lib.hid hal
            have HLV : Hid (0 < last → fillA clipP G j v < fillA clipP G j last ∨ (fillA clipP G j last = fillA clipP G j v ∧ last < v)) := fun q => bef_iff.1 (hlv q)
            generalize fillA clipP G j v = x at *
            generalize fillA clipP G j last = y at *
            clear h3 o3 hv hh hav hal hlv HNX
            by_cases hl0 : 0 < last
            · have hl0z : (0 : Int) < (last : Int) := by omega
              have hlt3 := HLV.out hl0
              have HAL2 := Lib.hid (HAL.out hl0)
              rcases hlt3 with q | ⟨q, q2⟩
              · have qd : ¬ y < x := by omega
                have qe : (y == x) = false := by simp; omega
                have qd2 : decide (y < x) = false := by simpa using qd
                go_wp2_with fail
                refine HHAS.out.mono ?_
                rintro r w4 ⟨rfl, rfl⟩
                go_wp2_with (first | (go_at_call_of 22 (Value.int .i64 (last : Int)); refine HAL2.out.mono ?_; rintro r w4 ⟨rfl, rfl⟩) | (go_at_call_of 22 (Value.int .i64 (v : Int)); refine HAV.out.mono ?_; rintro r w4 ⟨rfl, rfl⟩))
                go_roundw
                case rel => exact ⟨i + 1, v, _, by go_num, rfl, by omega, v2, HH3⟩
                case measure => simp [intOf]; omega
              · subst q
                have qd : ¬ y < y := by omega
                have q2z : ¬ (v : Int) < (last : Int) := by omega
                have q2d : decide ((v : Int) < (last : Int)) = false := by simpa using q2z
                go_wp2_with fail
                refine HHAS.out.mono ?_
                rintro r w4 ⟨rfl, rfl⟩
                go_wp2_with (first | (go_at_call_of 22 (Value.int .i64 (last : Int)); refine HAL2.out.mono ?_; rintro r w4 ⟨rfl, rfl⟩) | (go_at_call_of 22 (Value.int .i64 (v : Int)); refine HAV.out.mono ?_; rintro r w4 ⟨rfl, rfl⟩))
                go_roundw
                case rel => exact ⟨i + 1, v, _, by go_num, rfl, by omega, v2, HH3⟩
                case measure => simp [intOf]; omega
            · obtain rfl : last = 0 := by omega
              go_wp2_with fail
              refine HHAS.out.mono ?_
              rintro r w4 ⟨rfl, rfl⟩
              go_wp2_with fail
              go_roundw
              case rel => exact ⟨i + 1, v, _, by go_num, rfl, by omega, v2, HH3⟩
              case measure => simp [intOf]; omega
          · obtain rfl : i = j := by omega
            have hltz2 : ¬ (i : Int) < (i : Int) := by omega
            have hc0 : cnt i In = 0 := by have := HH.out.2.1; omega
            have HNX : Hid (Calls Try.prog 13 #[.pointer (some ⟨L.h, 0, none⟩)] wr fun r w' => r = .returned (.tuple #[.int .i64 0, .bool false]) ∧ IsHeap w' L i In (fillA clipP G i) ∧ Only L.all wr w') := by
              refine (Next_heap HH.out.1).mono ?_
              rintro r w' ⟨v, b, rfl, ho, ⟨rfl, h1, h2⟩ | ⟨rfl, rfl, h1, h2⟩⟩
              · have := none_of_cnt hc0 v h1.pos h1.le
                rw [h1.here] at this
                cases this
              · exact ⟨rfl, h2, ho⟩
            have HC0 := Lib.hid hc0
            clear hc0
            go_wp2_with fail
            refine HNX.out.mono ?_
            rintro r w3 ⟨rfl, h3, o3⟩
            have hlen := Len_heap h3
            rw [HC0.out] at hlen
            have HLEN := Lib.hid hlen
            have O3 := Lib.hid o3
            clear h3 o3 hlen
            go_wp2_with fail
            refine HLEN.out.mono ?_
            rintro r w4 ⟨rfl, rfl⟩
            go_wp2_with fail
            go_ret
            exact ⟨rfl, HH.out.2.2.2.trans (O3.out.below HH.out.2.2.2.size HS1.out.2.2)⟩
  · have h40z : (60 : Int) < (n : Int) := by omega
    go_enter Try.func4, Try.ntmps4
    go_wp2_with fail
    refine (HAW.out w).mono ?_
    rintro e w1 ⟨rfl, hB1⟩
    have HB1 := Lib.hid hB1
    clear hB1
    go_wp2_with fail
    refine (HAW.out w1).mono ?_
    rintro e w2 ⟨rfl, hB2⟩
    have HB2 := Lib.hid hB2
    clear hB2
    go_wp2_with fail
    go_ret
    exact ⟨rfl, HB1.out.trans (HB2.out.mono HB1.out.size)⟩
end Go.Proofs.Ytanmpokfeidlcaa.Hp
