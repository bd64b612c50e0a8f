/- Contracts of Halve, Has, Len, Activity, as the document has them. -/
import Derived.Test.YtanmpokfeidlcaaHpF
namespace Go.Proofs.Ytanmpokfeidlcaa.Hp
open Go Go.RowKit Go.Lib

theorem Len_heap {w : World} {L : Loc} {n : Nat} {In : Nat → Bool} {A : Nat → Int} (h : IsHeap w L n In A) :
    Calls Try.prog 19 #[.pointer (some ⟨L.h, 0, none⟩)] w fun e w' => e = .returned (.int .i64 (cnt n In : Int)) ∧ w = w' := by
  obtain ⟨k, T, P, hr, hI, hO, hP, hk, _⟩ := h
  rw [← hk]
  exact Len_rep hr

theorem Has_heap {w : World} {L : Loc} {n : Nat} {In : Nat → Bool} {A : Nat → Int} (h : IsHeap w L n In A) (v : Int) :
    Calls Try.prog 21 #[.pointer (some ⟨L.h, 0, none⟩), .int .i64 v] w fun e w' => e = .returned (.bool (isV n v && In v.toNat)) ∧ w = w' := by
  obtain ⟨k, T, P, hr, hI, hO, hP, _⟩ := h
  have := Has_rep hr v
  rw [show (isV n v && In v.toNat) = (isV n v && P v.toNat != -1) from ?_]
  · exact this
  · cases e : isV n v with
    | false => rfl
    | true =>
      obtain ⟨u, rfl, u1, u2⟩ := isV_cases e
      have := hP u u1 u2
      rw [Int.toNat_natCast, Bool.true_and, Bool.true_and, Bool.eq_iff_iff, this]
      simp

theorem Activity_heap {w : World} {L : Loc} {n : Nat} {In : Nat → Bool} {A : Nat → Int} (h : IsHeap w L n In A) (v : Int) :
    Calls Try.prog 22 #[.pointer (some ⟨L.h, 0, none⟩), .int .i64 v] w fun e w' => e = .returned (.int .i64 (if isV n v = true then A v.toNat else 0)) ∧ w = w' := by
  obtain ⟨k, T, P, hr, _⟩ := h
  exact Activity_rep hr v

theorem IsHeap.only {S : List Nat} {w w' : World} {L : Loc} {n : Nat} {In : Nat → Bool} {A : Nat → Int} (h : IsHeap w L n In A) (ho : Only S w w') (hS : ∀ b ∈ L.all, b ∉ S) : IsHeap w' L n In A := by
  obtain ⟨k, T, P, hr, r⟩ := h
  exact ⟨k, T, P, hr.only ho hS, r⟩
theorem IsHeap.of_heap {w w' : World} {L : Loc} {n : Nat} {In : Nat → Bool} {A : Nat → Int} (h : IsHeap w L n In A) (e : ∀ b ∈ L.all, w'.heap[b]? = w.heap[b]?) : IsHeap w' L n In A := by
  obtain ⟨k, T, P, hr, r⟩ := h
  exact ⟨k, T, P, hr.of_heap e, r⟩
theorem IsHeap.drewN {w : World} {L : Loc} {n : Nat} {In : Nat → Bool} {A : Nat → Int} (h : IsHeap w L n In A) (q : Nat) : IsHeap (w.drewN q) L n In A := h.of_heap (fun _ _ => rfl)
theorem IsHeap.lt {w : World} {L : Loc} {n : Nat} {In : Nat → Bool} {A : Nat → Int} (h : IsHeap w L n In A) : ∀ b ∈ L.all, b < w.heap.size := by
  obtain ⟨k, T, P, hr, _⟩ := h
  exact hr.lt
theorem IsHeap.alloc {w : World} {L : Loc} {n : Nat} {In : Nat → Bool} {A : Nat → Int} (h : IsHeap w L n In A) (o : Obj) : IsHeap (w.alloc o) L n In A := h.of_heap (fun b hb => Below.heap_alloc _ _ _ (h.lt b hb))

/-- Those before v have been halved. -/
def halfTo (v : Nat) (A : Nat → Int) : Nat → Int := fun u => if u < v then A u / 2 else A u
def half (A : Nat → Int) : Nat → Int := fun u => A u / 2

theorem halfTo_step (v : Nat) (A : Nat → Int) : upd (halfTo v A) v (A v / 2) = halfTo (v + 1) A := by
  funext u
  unfold upd halfTo
  by_cases e : u = v
  · subst e; simp
  · by_cases q : u < v
    · rw [if_neg e, if_pos q, if_pos (by omega)]
    · rw [if_neg e, if_neg q, if_neg (by omega)]
theorem halfTo_one {A : Nat → Int} (h : A 0 = 0) : A = halfTo 1 A := by
  funext u
  unfold halfTo
  by_cases e : u < 1
  · rw [if_pos e, show u = 0 by omega, h]; rfl
  · rw [if_neg e]
theorem halfTo_at (v : Nat) (A : Nat → Int) : halfTo v A v = A v := by unfold halfTo; rw [if_neg (by omega)]

set_option maxHeartbeats 2000000 in
theorem Halve_heap {w : World} {L : Loc} {n : Nat} {In : Nat → Bool} {A : Nat → Int} (h : IsHeap w L n In A) :
    Calls Try.prog 17 #[.pointer (some ⟨L.h, 0, none⟩)] w fun e w' => e = .returned (.tuple #[]) ∧ IsHeap w' L n In (half A) ∧ Only L.all w w' := by
  obtain ⟨k, T, P, hr, hI, hO, hP, hk, hA0, hA, hn⟩ := h
  have hkn := hI.le
  have START : Hid (Rep w L n k T P (halfTo 1 A)) := by rw [Hid, ← halfTo_one hA0]; exact hr
  have HI0 := Lib.hid hI
  have HP0 := Lib.hid hP
  have HK := Lib.hid hk
  have HA := Lib.hid (And.intro hA0 hA)
  clear hr hI hO hP hk hA0 hA
  go_enter Try.func17, Try.ntmps17
  go_wp2_with fail
  go_loopw [2] (fun iv wr => ∃ v : Nat, iv = .int .i64 (v : Int) ∧ 1 ≤ v ∧ v ≤ n + 1 ∧ Hid (Rep wr L n k T P (halfTo v A)) ∧ Hid (Only L.all w wr)) (fun iv _ => n + 1 - (intOf iv).toNat)
  case atStart => exact ⟨1, rfl, by omega, by omega, START, Only.refl _ _⟩
  case round =>
    obtain ⟨v, rfl, v1, v2, HR, HO⟩ := hrel
    have hv := isVariable_any HR.out (v : Int)
    by_cases e : v ≤ n
    · rw [isV_nat v1 e] at hv
      have d2 := HR.out.c2
      have c2 := HR.out.ca e
      rw [halfTo_at] at c2
      have f2 := HR.out.act.free v
      have vb : (v : Int) < (n : Int) + 1 := by omega
      have v0 : (0 : Int) ≤ (v : Int) := by omega
      have hav := HA.out.2 v e
      have hdiv : (A v).tdiv 2 = A v / 2 := Int.tdiv_eq_ediv_of_nonneg hav.1
      have HR1 : Hid (Rep (wr.setCell ⟨L.a, v, none⟩ (.int .i64 (A v / 2))) L n k T P (halfTo (v + 1) A)) := by
        rw [← halfTo_step]; exact HR.out.setAct v _
      have HO1 : Hid (Only L.all w (wr.setCell ⟨L.a, v, none⟩ (.int .i64 (A v / 2)))) := HO.out.set (by simp [Loc.all]) _
      clear hdiv
      generalize A v = x at *
      go_wp2_with fail
      refine hv.mono ?_
      rintro e w' ⟨rfl, rfl⟩
      go_wp2_with fail
      go_roundw
      case rel => exact ⟨v + 1, by go_num, by omega, by omega, HR1, HO1⟩
      case measure => simp [intOf]; omega
    · have hf : isV n (v : Int) = false := by unfold isV; simp; omega
      rw [hf] at hv
      have HR1 : Hid (Rep wr L n k T P (half A)) := HR.out.congr (fun _ _ => rfl) (fun _ _ => rfl) (fun i hi => by unfold halfTo half; rw [if_pos (by omega)])
      have hl := Len_rep HR1.out
      have hdk : ((k : Int)).tdiv 2 = ((k / 2 : Nat) : Int) := by rw [Int.tdiv_eq_ediv_of_nonneg (by omega)]; omega
      obtain ⟨m0, hm0⟩ : ∃ m0, m0 = k / 2 := ⟨_, rfl⟩
      rw [← hm0] at hdk
      have HM0 := Lib.hid hm0
      have hm1 : m0 ≤ n := by omega
      clear hf e HR hm0
      go_wp2_with fail
      refine hv.mono ?_
      rintro e w' ⟨rfl, rfl⟩
      go_wp2_with fail
      refine hl.mono ?_
      rintro e w' ⟨rfl, rfl⟩
      go_wp2_with fail
      go_loopw [3] (fun iv wr2 => ∃ (m : Nat) (T' : Nat → Nat) (P' : Nat → Int), iv = .int .i64 ((m : Int) - 1) ∧ m ≤ m0 ∧ Hid (Rep wr2 L n k T' P' (half A) ∧ Inv 0 n k T' P' ∧ OrdFrom m k (half A) T' ∧ (∀ u, P' u ≠ -1 ↔ P u ≠ -1) ∧ Only L.all w wr2)) (fun iv _ => (intOf iv + 1).toNat)
      case atStart =>
        refine ⟨m0, T, P, rfl, Nat.le_refl _, HR1.out, HI0.out, fun j j0 jk hm => ?_, fun _ => Iff.rfl, HO.out⟩
        rw [HM0.out] at hm
        unfold par at hm
        omega
      case round =>
        obtain ⟨m, T', P', rfl, hmm, HH⟩ := hrel
        by_cases hz : 0 < m
        · obtain ⟨i, rfl⟩ : ∃ i, m = i + 1 := ⟨m - 1, by omega⟩
          have hik : i < k := by have := HM0.out; omega
          have d0 := HH.out.1.c0
          have c0 := HH.out.1.ct (i := i) (by omega)
          have HS : Hid (Calls Try.prog 28 #[.pointer (some ⟨L.h, 0, none⟩), .int .i64 (T' i : Int)] wr fun e w' => e = .returned (.tuple #[]) ∧ ∃ T2 P2, Rep w' L n k T2 P2 (half A) ∧ Inv 0 n k T2 P2 ∧ OrdFrom i k (half A) T2 ∧ (∀ u, P2 u ≠ -1 ↔ P' u ≠ -1) ∧ Only L.all wr w') := by
            refine sink_rep HH.out.1 HH.out.2.1 i i _ hik (Nat.le_refl _) rfl ⟨fun j j0 jk hm hne => HH.out.2.2.1 j j0 jk (by omega), fun i0 hi => ?_⟩ hn
            have := par_lt i0
            omega
          have ib : (i : Int) < (k : Int) := by omega
          have i0 : (0 : Int) ≤ (i : Int) := by omega
          have e1 : ((i + 1 : Nat) : Int) - 1 = (i : Int) := by omega
          rw [e1]
          clear e1 hz
          generalize T' i = x at *
          go_wp2_with fail
          refine HS.out.mono ?_
          rintro e w2 ⟨rfl, T2, P2, r1, r2, r3, r4, r5⟩
          have HH2 : Hid (Rep w2 L n k T2 P2 (half A) ∧ Inv 0 n k T2 P2 ∧ OrdFrom i k (half A) T2 ∧ (∀ u, P2 u ≠ -1 ↔ P u ≠ -1) ∧ Only L.all w w2) := ⟨r1, r2, r3, fun u => (r4 u).trans (HH.out.2.2.2.1 u), HH.out.2.2.2.2.trans r5⟩
          clear r1 r2 r3 r4 r5
          go_wp2_with fail
          go_roundw
          case rel => exact ⟨i, T2, P2, rfl, by omega, HH2⟩
          case measure => simp [intOf]
        · obtain rfl : m = 0 := by omega
          clear hz
          go_wp2_with fail
          go_end0
          obtain ⟨r1, r2, r3, r4, r5⟩ := HH.out
          refine ⟨rfl, ⟨k, T', P', r1, r2, r3, fun x x1 x2 => by rw [r4]; exact HP0.out x x1 x2, HK.out, ?_, fun x x2 => ?_, hn⟩, r5⟩
          · unfold half; rw [HA.out.1]; rfl
          · have := HA.out.2 x x2
            unfold half
            omega
end Go.Proofs.Ytanmpokfeidlcaa.Hp
