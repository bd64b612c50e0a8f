/- The contract of the document's own number (weirgateref01.number). -/
import Derived.Test.YtiimdehcfkoemaaDoorClZ
namespace Go.Proofs.YtiimdehcfkoemaaDoor.Cl
open Go Go.RowKit Go.Lib Go.Sort

def refN (l : List UInt8) : Option Int :=
  if l.head? = some 45 then (if numOk l.tail = true then (if numV l.tail ≠ 0 then some (-(numV l.tail : Int)) else none) else none)
  else if numOk l = true then some (numV l : Int) else none
def RefNumbered (l : List UInt8) (w : World) (e : Ending) (w' : World) : Prop :=
  e = .returned (.tuple #[.int .i64 ((refN l).getD 0), .bool (refN l).isSome]) ∧ w = w'

set_option maxHeartbeats 4000000 in
set_option maxRecDepth 100000 in
theorem refNumber_any (s : ByteArray) (w : World) (hs : s.size ≤ 9223372036854775807) :
    Calls Tryd.prog 53 #[.string s] w (RefNumbered s.data.toList w) := by
  have hl : s.data.toList.length = s.size := by rw [Array.length_toList]; rfl
  by_cases hm : s.data.toList.head? = some 45
  · have h0 : 0 < s.size := by
      rcases Nat.eq_zero_or_pos s.size with h | h
      · rw [List.eq_nil_of_length_eq_zero (hl.trans h)] at hm; cases hm
      · exact h
    have hb0 : (s[0]'h0) = 45 := by
      have h1 : s.data.toList[0]'(by omega) = 45 := by
        rw [List.head?_eq_getElem?, List.getElem?_eq_getElem (by omega)] at hm; exact Option.some.inj hm
      exact h1
    have h0z : (0 : Int) < (s.size : Int) := by omega
    have hbb : (((s[0]'h0).toNat : Int) == 45) = true := by rw [hb0]; rfl
    have HREF : Hid (refN s.data.toList = if numOk (s.extract 1 s.size).data.toList = true then (if numV (s.extract 1 s.size).data.toList ≠ 0 then some (-(numV (s.extract 1 s.size).data.toList : Int)) else none) else none) := by
      show _ = _; unfold refN; rw [if_pos hm, Lib.extract_to_end, List.drop_one]
    have h1z : (1 : Int) ≤ (s.size : Int) := by omega
    have hts : (s.extract 1 s.size).size ≤ 9223372036854775807 := by
      rw [size_data, Lib.extract_to_end, List.length_drop]; omega
    clear hm hb0 hl
    go_enter Tryd.func53, Tryd.ntmps53
    go_wp2
    generalize s.extract 1 s.size = t at *
    have HL : Hid (t.data.toList.length = t.size) := by show _ = _; rw [Array.length_toList]; rfl
    have HGET : Hid (∀ k (hk : k < t.size), t.data.toList.take (k + 1) = t.data.toList.take k ++ [t[k]'hk]) := fun k hk => by
      have h1 : k < t.data.toList.length := by rw [HL.out]; exact hk
      rw [List.take_succ_eq_append_getElem h1]; rfl
    have HBAD : Hid (∀ k (hk : k < t.size), digB (t[k]'hk) = false → numOk t.data.toList = false) := fun k hk hd => by
      have h1 : k < t.data.toList.length := by rw [HL.out]; exact hk
      have h2 : t.data.toList.all digB = false := by rw [List.all_eq_false]; exact ⟨_, (List.getElem_mem (l := t.data.toList) h1), by rw [show t.data.toList[k] = t[k]'hk from rfl, hd]; simp⟩
      unfold numOk; rw [h2]; simp
    go_loop [5, 6] (fun n i => ∃ k : Nat, k ≤ t.size ∧ k ≤ 6 ∧ i = .int .i64 k ∧ n = .int .i64 (numV (t.data.toList.take k)) ∧ Hid ((t.data.toList.take k).all digB = true)) (fun _ i => t.size - (intOf i).toNat)
    case atStart => exact ⟨0, Nat.zero_le _, by omega, rfl, rfl, by show _ = _; simp⟩
    case round =>
      obtain ⟨k, hk, hk6, rfl, rfl, HA⟩ := hrel
      have hlt : numV (t.data.toList.take k) < 1000000 := numV_small (by rw [List.length_take]; omega) HA.out
      by_cases hkt : k < t.size
      · have hkz : (k : Int) < (t.size : Int) := by omega
        by_cases h48 : (t[k]'hkt).toNat < 48
        · have hz : (((t[k]'hkt).toNat : Nat) : Int) < 48 := by omega
          have HN := Lib.hid (HBAD.out k hkt (by unfold digB; rw [Bool.and_eq_false_iff, decide_eq_false_iff_not, decide_eq_false_iff_not]; omega))
          go_wp2
          go_ret2
          exact ⟨by rw [HREF.out, HN.out]; rfl, rfl⟩
        · by_cases h57 : 57 < (t[k]'hkt).toNat
          · have hz : (57 : Int) < (((t[k]'hkt).toNat : Nat) : Int) := by omega
            have hz2 : ¬ (((t[k]'hkt).toNat : Nat) : Int) < 48 := by omega
            have hz2d : decide ((((t[k]'hkt).toNat : Nat) : Int) < 48) = false := by rw [decide_eq_false_iff_not]; exact hz2
            have HN := Lib.hid (HBAD.out k hkt (by unfold digB; rw [Bool.and_eq_false_iff, decide_eq_false_iff_not, decide_eq_false_iff_not]; omega))
            go_wp2
            go_ret2
            exact ⟨by rw [HREF.out, HN.out]; rfl, rfl⟩
          · have hz : ¬ (57 : Int) < (((t[k]'hkt).toNat : Nat) : Int) := by omega
            have hzd : decide ((57 : Int) < (((t[k]'hkt).toNat : Nat) : Int)) = false := by rw [decide_eq_false_iff_not]; exact hz
            have hz2 : ¬ (((t[k]'hkt).toNat : Nat) : Int) < 48 := by omega
            have hz2d : decide ((((t[k]'hkt).toNat : Nat) : Int) < 48) = false := by rw [decide_eq_false_iff_not]; exact hz2
            have hlo : (48 : Int) ≤ (((t[k]'hkt).toNat : Nat) : Int) := by omega
            have hup : (((t[k]'hkt).toNat : Nat) : Int) ≤ 57 := by omega
            by_cases hk6' : k = 6
            · have hb : ((k : Int) == 6) = true := by rw [beq_iff_eq]; omega
              have HN : Hid (numOk t.data.toList = false) := by
                show _ = _
                unfold numOk
                have : decide (t.data.toList.length ≤ 6) = false := by rw [decide_eq_false_iff_not, HL.out]; omega
                rw [this]; simp
              clear hk6'
              go_wp2
              go_ret2
              exact ⟨by rw [HREF.out, HN.out]; rfl, rfl⟩
            · have hb : ((k : Int) == 6) = false := by rw [beq_eq_false_iff_ne]; omega
              have HV : Hid (numV (t.data.toList.take (k + 1)) = 10 * numV (t.data.toList.take k) + ((t[k]'hkt).toNat - 48)) := by show _ = _; rw [HGET.out k hkt, numV_snoc]
              have HA2 : Hid ((t.data.toList.take (k + 1)).all digB = true) := by
                show _ = _
                rw [HGET.out k hkt, List.all_append, HA.out]
                simp only [List.all_cons, List.all_nil, Bool.and_true, Bool.true_and]
                unfold digB; rw [Bool.and_eq_true, decide_eq_true_eq, decide_eq_true_eq]; omega
              have hk5 : k < 6 := by omega
              generalize numV (t.data.toList.take k) = n at *
              clear hk6'
              go_wp2
              go_round
              case rel => exact ⟨k + 1, by omega, by omega, by go_num, by rw [HV.out]; go_num, HA2⟩
              case measure => simp [intOf]; omega
      · have hkz : ¬ (k : Int) < (t.size : Int) := by omega
        have hke : t.data.toList.take k = t.data.toList := List.take_of_length_le (by rw [HL.out]; omega)
        rw [hke] at hlt HA ⊢
        by_cases h0 : t.size = 0
        · have h0b : ((t.size : Int) == 0) = true := by rw [beq_iff_eq]; omega
          have HN : Hid (numOk t.data.toList = false) := by
            have e0 : t.data.toList = [] := List.eq_nil_of_length_eq_zero (by rw [HL.out]; exact h0)
            show _ = _; rw [e0]; rfl
          clear h0 hke
          go_wp2
          go_ret2
          exact ⟨by rw [HREF.out, HN.out]; rfl, rfl⟩
        · have h0b : ((t.size : Int) == 0) = false := by rw [beq_eq_false_iff_ne]; omega
          have HN : Hid (numOk t.data.toList = true) := by
            show _ = _
            unfold numOk
            have e1 : t.data.toList.isEmpty = false := by
              cases hh : t.data.toList with
              | nil => have := HL.out; rw [hh] at this; exact absurd this.symm h0
              | cons a b => rfl
            have e2 : decide (t.data.toList.length ≤ 6) = true := by rw [decide_eq_true_eq, HL.out]; omega
            rw [e1, e2, HA.out]; rfl
          clear h0 hke
          by_cases hv0 : numV t.data.toList = 0
          · have hvb : ((numV t.data.toList : Int) == 0) = true := by rw [beq_iff_eq]; omega
            have HX : Hid (refN s.data.toList = none) := by show _ = _; rw [HREF.out, HN.out, if_pos rfl, if_neg (by simp [hv0])]
            clear hv0
            go_wp2
            go_ret2
            exact ⟨by rw [HX.out]; rfl, rfl⟩
          · have hvb : ((numV t.data.toList : Int) == 0) = false := by rw [beq_eq_false_iff_ne]; omega
            have HX : Hid (refN s.data.toList = some (-(numV t.data.toList : Int))) := by show _ = _; rw [HREF.out, HN.out, if_pos rfl, if_pos hv0]
            clear hv0
            go_wp2
            go_ret2
            exact ⟨by rw [HX.out]; rfl, rfl⟩
  · have HREF : Hid (refN s.data.toList = if numOk s.data.toList = true then some (numV s.data.toList : Int) else none) := by
      show _ = _; unfold refN; rw [if_neg hm]
    by_cases h0 : 0 < s.size
    · have hb0 : (s[0]'h0) ≠ 45 := by
        intro e
        apply hm
        rw [List.head?_eq_getElem?, List.getElem?_eq_getElem (by omega)]
        exact congrArg some e
      have h0z : (0 : Int) < (s.size : Int) := by omega
      have hbb : (((s[0]'h0).toNat : Int) == 45) = false := by
        rw [beq_eq_false_iff_ne]; intro e; exact hb0 (UInt8.toNat_inj.1 (by show _ = 45; omega))
      clear hm hb0 hl
      go_enter Tryd.func53, Tryd.ntmps53
      go_wp2
      have HL : Hid (s.data.toList.length = s.size) := by show _ = _; rw [Array.length_toList]; rfl
      have HGET : Hid (∀ k (hk : k < s.size), s.data.toList.take (k + 1) = s.data.toList.take k ++ [s[k]'hk]) := fun k hk => by
        have h1 : k < s.data.toList.length := by rw [HL.out]; exact hk
        rw [List.take_succ_eq_append_getElem h1]; rfl
      have HBAD : Hid (∀ k (hk : k < s.size), digB (s[k]'hk) = false → numOk s.data.toList = false) := fun k hk hd => by
        have h1 : k < s.data.toList.length := by rw [HL.out]; exact hk
        have h2 : s.data.toList.all digB = false := by rw [List.all_eq_false]; exact ⟨_, (List.getElem_mem (l := s.data.toList) h1), by rw [show s.data.toList[k] = s[k]'hk from rfl, hd]; simp⟩
        unfold numOk; rw [h2]; simp
      go_loop [5, 6] (fun n i => ∃ k : Nat, k ≤ s.size ∧ k ≤ 6 ∧ i = .int .i64 k ∧ n = .int .i64 (numV (s.data.toList.take k)) ∧ Hid ((s.data.toList.take k).all digB = true)) (fun _ i => s.size - (intOf i).toNat)
      case atStart => exact ⟨0, Nat.zero_le _, by omega, rfl, rfl, by show _ = _; simp⟩
      case round =>
        obtain ⟨k, hk, hk6, rfl, rfl, HA⟩ := hrel
        have hlt : numV (s.data.toList.take k) < 1000000 := numV_small (by rw [List.length_take]; omega) HA.out
        by_cases hkt : k < s.size
        · have hkz : (k : Int) < (s.size : Int) := by omega
          by_cases h48 : (s[k]'hkt).toNat < 48
          · have hz : (((s[k]'hkt).toNat : Nat) : Int) < 48 := by omega
            have HN := Lib.hid (HBAD.out k hkt (by unfold digB; rw [Bool.and_eq_false_iff, decide_eq_false_iff_not, decide_eq_false_iff_not]; omega))
            go_wp2
            go_ret2
            exact ⟨by rw [HREF.out, HN.out]; rfl, rfl⟩
          · by_cases h57 : 57 < (s[k]'hkt).toNat
            · have hz : (57 : Int) < (((s[k]'hkt).toNat : Nat) : Int) := by omega
              have hz2 : ¬ (((s[k]'hkt).toNat : Nat) : Int) < 48 := by omega
              have hz2d : decide ((((s[k]'hkt).toNat : Nat) : Int) < 48) = false := by rw [decide_eq_false_iff_not]; exact hz2
              have HN := Lib.hid (HBAD.out k hkt (by unfold digB; rw [Bool.and_eq_false_iff, decide_eq_false_iff_not, decide_eq_false_iff_not]; omega))
              go_wp2
              go_ret2
              exact ⟨by rw [HREF.out, HN.out]; rfl, rfl⟩
            · have hz : ¬ (57 : Int) < (((s[k]'hkt).toNat : Nat) : Int) := by omega
              have hzd : decide ((57 : Int) < (((s[k]'hkt).toNat : Nat) : Int)) = false := by rw [decide_eq_false_iff_not]; exact hz
              have hz2 : ¬ (((s[k]'hkt).toNat : Nat) : Int) < 48 := by omega
              have hz2d : decide ((((s[k]'hkt).toNat : Nat) : Int) < 48) = false := by rw [decide_eq_false_iff_not]; exact hz2
              have hlo : (48 : Int) ≤ (((s[k]'hkt).toNat : Nat) : Int) := by omega
              have hup : (((s[k]'hkt).toNat : Nat) : Int) ≤ 57 := by omega
              by_cases hk6' : k = 6
              · have hb : ((k : Int) == 6) = true := by rw [beq_iff_eq]; omega
                have HN : Hid (numOk s.data.toList = false) := by
                  show _ = _
                  unfold numOk
                  have : decide (s.data.toList.length ≤ 6) = false := by rw [decide_eq_false_iff_not, HL.out]; omega
                  rw [this]; simp
                clear hk6'
                go_wp2
                go_ret2
                exact ⟨by rw [HREF.out, HN.out]; rfl, rfl⟩
              · have hb : ((k : Int) == 6) = false := by rw [beq_eq_false_iff_ne]; omega
                have HV : Hid (numV (s.data.toList.take (k + 1)) = 10 * numV (s.data.toList.take k) + ((s[k]'hkt).toNat - 48)) := by show _ = _; rw [HGET.out k hkt, numV_snoc]
                have HA2 : Hid ((s.data.toList.take (k + 1)).all digB = true) := by
                  show _ = _
                  rw [HGET.out k hkt, List.all_append, HA.out]
                  simp only [List.all_cons, List.all_nil, Bool.and_true, Bool.true_and]
                  unfold digB; rw [Bool.and_eq_true, decide_eq_true_eq, decide_eq_true_eq]; omega
                have hk5 : k < 6 := by omega
                generalize numV (s.data.toList.take k) = n at *
                clear hk6'
                go_wp2
                go_round
                case rel => exact ⟨k + 1, by omega, by omega, by go_num, by rw [HV.out]; go_num, HA2⟩
                case measure => simp [intOf]; omega
        · have hkz : ¬ (k : Int) < (s.size : Int) := by omega
          have hke : s.data.toList.take k = s.data.toList := List.take_of_length_le (by rw [HL.out]; omega)
          rw [hke] at hlt HA ⊢
          by_cases h0 : s.size = 0
          · have h0b : ((s.size : Int) == 0) = true := by rw [beq_iff_eq]; omega
            have HN : Hid (numOk s.data.toList = false) := by
              have e0 : s.data.toList = [] := List.eq_nil_of_length_eq_zero (by rw [HL.out]; exact h0)
              show _ = _; rw [e0]; rfl
            clear h0 hke
            go_wp2
            go_ret2
            exact ⟨by rw [HREF.out, HN.out]; rfl, rfl⟩
          · have h0b : ((s.size : Int) == 0) = false := by rw [beq_eq_false_iff_ne]; omega
            have HN : Hid (numOk s.data.toList = true) := by
              show _ = _
              unfold numOk
              have e1 : s.data.toList.isEmpty = false := by
                cases hh : s.data.toList with
                | nil => have := HL.out; rw [hh] at this; exact absurd this.symm h0
                | cons a b => rfl
              have e2 : decide (s.data.toList.length ≤ 6) = true := by rw [decide_eq_true_eq, HL.out]; omega
              rw [e1, e2, HA.out]; rfl
            clear h0 hke
            have HX : Hid (refN s.data.toList = some (numV s.data.toList : Int)) := by show _ = _; rw [HREF.out, HN.out, if_pos rfl]
            go_wp2
            go_ret2
            exact ⟨by rw [HX.out]; rfl, rfl⟩
    · have h0z : ¬ (0 : Int) < (s.size : Int) := by omega
      have h0d : decide ((0 : Int) < (s.size : Int)) = false := by rw [decide_eq_false_iff_not]; exact h0z
      clear hm hl
      go_enter Tryd.func53, Tryd.ntmps53
      go_wp2
      have HL : Hid (s.data.toList.length = s.size) := by show _ = _; rw [Array.length_toList]; rfl
      have HGET : Hid (∀ k (hk : k < s.size), s.data.toList.take (k + 1) = s.data.toList.take k ++ [s[k]'hk]) := fun k hk => by
        have h1 : k < s.data.toList.length := by rw [HL.out]; exact hk
        rw [List.take_succ_eq_append_getElem h1]; rfl
      have HBAD : Hid (∀ k (hk : k < s.size), digB (s[k]'hk) = false → numOk s.data.toList = false) := fun k hk hd => by
        have h1 : k < s.data.toList.length := by rw [HL.out]; exact hk
        have h2 : s.data.toList.all digB = false := by rw [List.all_eq_false]; exact ⟨_, (List.getElem_mem (l := s.data.toList) h1), by rw [show s.data.toList[k] = s[k]'hk from rfl, hd]; simp⟩
        unfold numOk; rw [h2]; simp
      go_loop [5, 6] (fun n i => ∃ k : Nat, k ≤ s.size ∧ k ≤ 6 ∧ i = .int .i64 k ∧ n = .int .i64 (numV (s.data.toList.take k)) ∧ Hid ((s.data.toList.take k).all digB = true)) (fun _ i => s.size - (intOf i).toNat)
      case atStart => exact ⟨0, Nat.zero_le _, by omega, rfl, rfl, by show _ = _; simp⟩
      case round =>
        obtain ⟨k, hk, hk6, rfl, rfl, HA⟩ := hrel
        have hlt : numV (s.data.toList.take k) < 1000000 := numV_small (by rw [List.length_take]; omega) HA.out
        by_cases hkt : k < s.size
        · have hkz : (k : Int) < (s.size : Int) := by omega
          by_cases h48 : (s[k]'hkt).toNat < 48
          · have hz : (((s[k]'hkt).toNat : Nat) : Int) < 48 := by omega
            have HN := Lib.hid (HBAD.out k hkt (by unfold digB; rw [Bool.and_eq_false_iff, decide_eq_false_iff_not, decide_eq_false_iff_not]; omega))
            go_wp2
            go_ret2
            exact ⟨by rw [HREF.out, HN.out]; rfl, rfl⟩
          · by_cases h57 : 57 < (s[k]'hkt).toNat
            · have hz : (57 : Int) < (((s[k]'hkt).toNat : Nat) : Int) := by omega
              have hz2 : ¬ (((s[k]'hkt).toNat : Nat) : Int) < 48 := by omega
              have hz2d : decide ((((s[k]'hkt).toNat : Nat) : Int) < 48) = false := by rw [decide_eq_false_iff_not]; exact hz2
              have HN := Lib.hid (HBAD.out k hkt (by unfold digB; rw [Bool.and_eq_false_iff, decide_eq_false_iff_not, decide_eq_false_iff_not]; omega))
              go_wp2
              go_ret2
              exact ⟨by rw [HREF.out, HN.out]; rfl, rfl⟩
            · have hz : ¬ (57 : Int) < (((s[k]'hkt).toNat : Nat) : Int) := by omega
              have hzd : decide ((57 : Int) < (((s[k]'hkt).toNat : Nat) : Int)) = false := by rw [decide_eq_false_iff_not]; exact hz
              have hz2 : ¬ (((s[k]'hkt).toNat : Nat) : Int) < 48 := by omega
              have hz2d : decide ((((s[k]'hkt).toNat : Nat) : Int) < 48) = false := by rw [decide_eq_false_iff_not]; exact hz2
              have hlo : (48 : Int) ≤ (((s[k]'hkt).toNat : Nat) : Int) := by omega
              have hup : (((s[k]'hkt).toNat : Nat) : Int) ≤ 57 := by omega
              by_cases hk6' : k = 6
              · have hb : ((k : Int) == 6) = true := by rw [beq_iff_eq]; omega
                have HN : Hid (numOk s.data.toList = false) := by
                  show _ = _
                  unfold numOk
                  have : decide (s.data.toList.length ≤ 6) = false := by rw [decide_eq_false_iff_not, HL.out]; omega
                  rw [this]; simp
                clear hk6'
                go_wp2
                go_ret2
                exact ⟨by rw [HREF.out, HN.out]; rfl, rfl⟩
              · have hb : ((k : Int) == 6) = false := by rw [beq_eq_false_iff_ne]; omega
                have HV : Hid (numV (s.data.toList.take (k + 1)) = 10 * numV (s.data.toList.take k) + ((s[k]'hkt).toNat - 48)) := by show _ = _; rw [HGET.out k hkt, numV_snoc]
                have HA2 : Hid ((s.data.toList.take (k + 1)).all digB = true) := by
                  show _ = _
                  rw [HGET.out k hkt, List.all_append, HA.out]
                  simp only [List.all_cons, List.all_nil, Bool.and_true, Bool.true_and]
                  unfold digB; rw [Bool.and_eq_true, decide_eq_true_eq, decide_eq_true_eq]; omega
                have hk5 : k < 6 := by omega
                generalize numV (s.data.toList.take k) = n at *
                clear hk6'
                go_wp2
                go_round
                case rel => exact ⟨k + 1, by omega, by omega, by go_num, by rw [HV.out]; go_num, HA2⟩
                case measure => simp [intOf]; omega
        · have hkz : ¬ (k : Int) < (s.size : Int) := by omega
          have hke : s.data.toList.take k = s.data.toList := List.take_of_length_le (by rw [HL.out]; omega)
          rw [hke] at hlt HA ⊢
          by_cases h0 : s.size = 0
          · have h0b : ((s.size : Int) == 0) = true := by rw [beq_iff_eq]; omega
            have HN : Hid (numOk s.data.toList = false) := by
              have e0 : s.data.toList = [] := List.eq_nil_of_length_eq_zero (by rw [HL.out]; exact h0)
              show _ = _; rw [e0]; rfl
            clear h0 hke
            go_wp2
            go_ret2
            exact ⟨by rw [HREF.out, HN.out]; rfl, rfl⟩
          · have h0b : ((s.size : Int) == 0) = false := by rw [beq_eq_false_iff_ne]; omega
            have HN : Hid (numOk s.data.toList = true) := by
              show _ = _
              unfold numOk
              have e1 : s.data.toList.isEmpty = false := by
                cases hh : s.data.toList with
                | nil => have := HL.out; rw [hh] at this; exact absurd this.symm h0
                | cons a b => rfl
              have e2 : decide (s.data.toList.length ≤ 6) = true := by rw [decide_eq_true_eq, HL.out]; omega
              rw [e1, e2, HA.out]; rfl
            clear h0 hke
            have HX : Hid (refN s.data.toList = some (numV s.data.toList : Int)) := by show _ = _; rw [HREF.out, HN.out, if_pos rfl]
            go_wp2
            go_ret2
            exact ⟨by rw [HX.out]; rfl, rfl⟩
end Go.Proofs.YtiimdehcfkoemaaDoor.Cl
