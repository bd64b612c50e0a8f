/- Contracts of clause.entry and clause.header. -/
import Derived.Test.YtiimdehcfkoemaaDoorClT
namespace Go.Proofs.YtiimdehcfkoemaaDoor.Cl
open Go Go.RowKit Go.Lib Go.Sort

theorem numV_bd {l : List UInt8} (h : numOk l = true) : numV l < 1000000 := by
  unfold numOk at h
  rw [Bool.and_eq_true, Bool.and_eq_true, decide_eq_true_eq] at h
  exact numV_small h.1.2 h.2

set_option maxHeartbeats 2000000 in
theorem entry_any (s : ByteArray) (w : World) (hs : s.size ≤ 9223372036854775807) :
    Calls Tryd.prog 67 #[.string s] w (Entered s.data.toList w) := by
  have hcut := Tryd.strings_CutPrefix s ⟨#[45]⟩ w
  have e45 : (⟨#[45]⟩ : ByteArray).data.toList = [45] := rfl
  have hl : s.data.toList.length = s.size := by rw [Array.length_toList]; rfl
  rw [e45] at hcut
  unfold Lib.trimPrefix at hcut
  rw [hasPrefix_minus] at hcut
  by_cases hm : s.data.toList.head? = some 45
  · rw [decide_eq_true hm, if_pos rfl] at hcut
    have hd1 : s.data.toList.drop [(45 : UInt8)].length = s.data.toList.tail := by cases s.data.toList <;> rfl
    rw [hd1] at hcut
    have hnum := number_any ⟨s.data.toList.tail.toArray⟩ w (by rw [size_data]; simp; omega)
    have e1 : (⟨s.data.toList.tail.toArray⟩ : ByteArray).data.toList = s.data.toList.tail := rfl
    unfold Numbered at hnum
    rw [e1] at hnum
    have HE : Hid (entryV s.data.toList = if numOk s.data.toList.tail ∧ numV s.data.toList.tail ≤ 100000 ∧ numV s.data.toList.tail ≠ 0 then some (-(numV s.data.toList.tail : Int)) else none) := by show _ = _; unfold entryV; rw [if_pos hm]
    have HB : Hid (numOk s.data.toList.tail = true → numV s.data.toList.tail < 1000000) := numV_bd
    clear e1 hd1 hl hm e45
    generalize (⟨s.data.toList.tail.toArray⟩ : ByteArray) = t at *
    cases hok : numOk s.data.toList.tail with
    | false =>
      rw [hok] at hnum
      have HE2 : Hid (entryV s.data.toList = none) := by show _ = _; rw [HE.out, if_neg (by rw [hok]; simp)]
      have HNUM := Lib.hid hnum
      have HCUT := Lib.hid hcut
      clear hnum hcut hok HE HB
      go_enter Tryd.func67, Tryd.ntmps67
      go_wp2_with fail
      refine HCUT.out.mono ?_
      rintro e w1 ⟨rfl, rfl⟩
      go_wp2_with fail
      refine HNUM.out.mono ?_
      rintro e w2 ⟨rfl, hb2⟩
      go_wp2_with fail
      go_ret2
      exact ⟨by rw [HE2.out]; rfl, hb2⟩
    | true =>
      rw [hok] at hnum HE
      have hlt := HB.out hok
      generalize numV s.data.toList.tail = n at *
      simp only [if_true] at hnum
      have HNUM := Lib.hid hnum
      have HCUT := Lib.hid hcut
      clear hnum hcut hok HB
      by_cases hb : n ≤ 100000
      · have hbz : ¬ (100000 : Int) < (n : Int) := by omega
        have hbd : decide ((100000 : Int) < (n : Int)) = false := by rw [decide_eq_false_iff_not]; exact hbz
        by_cases h0 : n = 0
        · have h0b : ((n : Int) == 0) = true := by rw [beq_iff_eq]; omega
          have HE2 : Hid (entryV s.data.toList = none) := by show _ = _; rw [HE.out, if_neg (by simp [h0])]
          clear h0 HE
          go_enter Tryd.func67, Tryd.ntmps67
          go_wp2_with fail
          refine HCUT.out.mono ?_
          rintro e w1 ⟨rfl, rfl⟩
          go_wp2_with fail
          refine HNUM.out.mono ?_
          rintro e w2 ⟨rfl, hb2⟩
          go_wp2_with fail
          go_ret2
          exact ⟨by rw [HE2.out]; rfl, hb2⟩
        · have h0b : ((n : Int) == 0) = false := by rw [beq_eq_false_iff_ne]; omega
          have HE2 : Hid (entryV s.data.toList = some (-(n : Int))) := by show _ = _; rw [HE.out, if_pos ⟨rfl, hb, h0⟩]
          clear h0 HE
          go_enter Tryd.func67, Tryd.ntmps67
          go_wp2_with fail
          refine HCUT.out.mono ?_
          rintro e w1 ⟨rfl, rfl⟩
          go_wp2_with fail
          refine HNUM.out.mono ?_
          rintro e w2 ⟨rfl, hb2⟩
          go_wp2_with fail
          go_ret2
          exact ⟨by rw [HE2.out]; rfl, hb2⟩
      · have hbz : (100000 : Int) < (n : Int) := by omega
        have HE2 : Hid (entryV s.data.toList = none) := by show _ = _; rw [HE.out, if_neg (by intro h; exact hb h.2.1)]
        clear HE
        go_enter Tryd.func67, Tryd.ntmps67
        go_wp2_with fail
        refine HCUT.out.mono ?_
        rintro e w1 ⟨rfl, rfl⟩
        go_wp2_with fail
        refine HNUM.out.mono ?_
        rintro e w2 ⟨rfl, hb2⟩
        go_wp2_with fail
        go_ret2
        exact ⟨by rw [HE2.out]; rfl, hb2⟩
  · rw [decide_eq_false hm, if_neg (by simp)] at hcut
    have hnum := number_any s w hs
    unfold Numbered at hnum
    have HE : Hid (entryV s.data.toList = if numOk s.data.toList ∧ numV s.data.toList ≤ 100000 then some (numV s.data.toList : Int) else none) := by show _ = _; unfold entryV; rw [if_neg hm]
    have HB : Hid (numOk s.data.toList = true → numV s.data.toList < 1000000) := numV_bd
    have hsame : (⟨s.data.toList.toArray⟩ : ByteArray) = s := by cases s; simp
    rw [hsame] at hcut
    clear hl hm e45 hsame
    cases hok : numOk s.data.toList with
    | false =>
      rw [hok] at hnum
      have HE2 : Hid (entryV s.data.toList = none) := by show _ = _; rw [HE.out, if_neg (by rw [hok]; simp)]
      have HNUM := Lib.hid hnum
      have HCUT := Lib.hid hcut
      clear hnum hcut hok HE HB
      go_enter Tryd.func67, Tryd.ntmps67
      go_wp2_with fail
      refine HCUT.out.mono ?_
      rintro e w1 ⟨rfl, rfl⟩
      go_wp2_with fail
      refine HNUM.out.mono ?_
      rintro e w2 ⟨rfl, hb2⟩
      go_wp2_with fail
      go_ret2
      exact ⟨by rw [HE2.out]; rfl, hb2⟩
    | true =>
      rw [hok] at hnum HE
      have hlt := HB.out hok
      generalize numV s.data.toList = n at *
      simp only [if_true] at hnum
      have HNUM := Lib.hid hnum
      have HCUT := Lib.hid hcut
      clear hnum hcut hok HB
      by_cases hb : n ≤ 100000
      · have hbz : ¬ (100000 : Int) < (n : Int) := by omega
        have hbd : decide ((100000 : Int) < (n : Int)) = false := by rw [decide_eq_false_iff_not]; exact hbz
        have HE2 : Hid (entryV s.data.toList = some (n : Int)) := by show _ = _; rw [HE.out, if_pos ⟨rfl, hb⟩]
        clear HE
        go_enter Tryd.func67, Tryd.ntmps67
        go_wp2_with fail
        refine HCUT.out.mono ?_
        rintro e w1 ⟨rfl, rfl⟩
        go_wp2_with fail
        refine HNUM.out.mono ?_
        rintro e w2 ⟨rfl, hb2⟩
        go_wp2_with fail
        go_ret2
        exact ⟨by rw [HE2.out]; rfl, hb2⟩
      · have hbz : (100000 : Int) < (n : Int) := by omega
        have HE2 : Hid (entryV s.data.toList = none) := by show _ = _; rw [HE.out, if_neg (by intro h; exact hb h.2)]
        clear HE
        go_enter Tryd.func67, Tryd.ntmps67
        go_wp2_with fail
        refine HCUT.out.mono ?_
        rintro e w1 ⟨rfl, rfl⟩
        go_wp2_with fail
        refine HNUM.out.mono ?_
        rintro e w2 ⟨rfl, hb2⟩
        go_wp2_with fail
        go_ret2
        exact ⟨by rw [HE2.out]; rfl, hb2⟩

/-- The first words: the greatest variable and the number of clauses. -/
def headerV (ws : List (List UInt8)) : Option (Nat × Nat) :=
  match ws with
  | p :: c :: v :: n :: _ => if p = [112] ∧ c = [99, 110, 102] ∧ numOk v ∧ numOk n then some (numV v, numV n) else none
  | _ => none
end Go.Proofs.YtiimdehcfkoemaaDoor.Cl
