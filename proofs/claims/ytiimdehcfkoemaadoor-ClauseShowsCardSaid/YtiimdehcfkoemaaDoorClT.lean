/- Contracts of clause.number and clause.entry: a word's number, a word's literal. -/
import Derived.Test.YtiimdehcfkoemaaDoorClS
import Derived.Laws.RangeString
import Derived.Laws.RangeAny
namespace Go.Proofs.YtiimdehcfkoemaaDoor.Cl
open Go Go.RowKit Go.Lib Go.Sort

def digB (b : UInt8) : Bool := decide (48 ≤ b.toNat) && decide (b.toNat ≤ 57)
def numV (l : List UInt8) : Nat := l.foldl (fun n b => 10 * n + (b.toNat - 48)) 0
def numOk (l : List UInt8) : Bool := !l.isEmpty && decide (l.length ≤ 6) && l.all digB
theorem numV_snoc (l : List UInt8) (b : UInt8) : numV (l ++ [b]) = 10 * numV l + (b.toNat - 48) := by simp [numV]
theorem numV_lt : ∀ (n : Nat) (l : List UInt8), l.length = n → l.all digB = true → numV l < 10 ^ n
  | 0, l, h, _ => by rw [List.eq_nil_of_length_eq_zero h]; decide
  | n + 1, l, h, hd => by
    obtain ⟨t, x, rfl⟩ : ∃ t x, l = t ++ [x] := ⟨l.dropLast, l.getLast (by intro e; rw [e] at h; cases h), (List.dropLast_concat_getLast _).symm⟩
    rw [List.all_append, Bool.and_eq_true] at hd
    have h1 := numV_lt n t (by simpa using h) hd.1
    have h2 : digB x = true := by simpa using hd.2
    unfold digB at h2
    rw [Bool.and_eq_true, decide_eq_true_eq, decide_eq_true_eq] at h2
    rw [numV_snoc, Nat.pow_succ]; omega
theorem numV_small {l : List UInt8} (h : l.length ≤ 6) (hd : l.all digB = true) : numV l < 1000000 := by
  have h1 := numV_lt l.length l rfl hd
  have h2 : 10 ^ l.length ≤ 10 ^ 6 := Nat.pow_le_pow_right (by omega) h
  have h3 : (10 : Nat) ^ 6 = 1000000 := by decide
  omega
theorem toList_data (s : ByteArray) : s.toList = s.data.toList := by
  have h := Lib.extract_toList s 0 s.size
  have h2 : s.data.toList.length = s.size := by rw [Array.length_toList]; rfl
  rw [List.drop_zero, Nat.sub_zero, ← h2, List.take_length, h2] at h
  rw [← h]; simp

/-- What number answers. -/
def Numbered (l : List UInt8) (w : World) (e : Ending) (w' : World) : Prop :=
  e = .returned (.tuple #[.int .i64 (if numOk l then (numV l : Int) else 0), .bool (numOk l)]) ∧ Below w.heap.size w w'

set_option maxHeartbeats 1000000 in
theorem number_bad (s : ByteArray) (w : World) (h : s.size = 0 ∨ 6 < s.size) (hs : s.size ≤ 9223372036854775807) :
    Calls Tryd.prog 66 #[.string s] w (Numbered s.data.toList w) := by
  have hl : s.data.toList.length = s.size := by rw [Array.length_toList]; rfl
  have hno : numOk s.data.toList = false := by
    unfold numOk
    rcases h with h | h
    · rw [List.eq_nil_of_length_eq_zero (by omega : s.data.toList.length = 0)]; rfl
    · have : decide (s.data.toList.length ≤ 6) = false := by rw [decide_eq_false_iff_not]; omega
      rw [this]; simp
  have HNO := Lib.hid hno
  clear hno
  by_cases h0 : s.size = 0
  · have e : s = ⟨#[]⟩ := by
      cases s with
      | mk d => simp [ByteArray.size] at h0; rw [h0]
    subst e
    clear h h0 hl hs
    go_enter Tryd.func66, Tryd.ntmps66
    go_wp2
    go_ret2
    refine ⟨?_, Below.refl _ _⟩
    rw [HNO.out]; rfl
  · have h6 : 6 < s.size := by omega
    have h6z : (6 : Int) < (s.size : Int) := by omega
    have hne : s.toList = [] ↔ False := by rw [toList_data]; constructor
                                           · intro e; rw [e] at hl; simp at hl; omega
                                           · intro e; cases e
    have hne2 : s.toList.isEmpty = false := by
      cases hh : s.toList with
      | nil => exact absurd hh (fun e => hne.1 e)
      | cons a b => rfl
    clear h h0 hl
    go_enter Tryd.func66, Tryd.ntmps66
    go_wp2
    go_ret2
    refine ⟨?_, Below.refl _ _⟩
    rw [HNO.out]; rfl

theorem below_iter (w : World) (s : ByteArray) (pos : Nat) : Below w.heap.size w (w.iter s pos) := (Below.refl _ _).alloc (Nat.le_refl _) _

set_option maxHeartbeats 2000000 in
set_option maxRecDepth 100000 in
theorem number_good (s : ByteArray) (w : World) (h1 : 1 ≤ s.size) (h6 : s.size ≤ 6) :
    Calls Tryd.prog 66 #[.string s] w (Numbered s.data.toList w) := by
  have hl : s.data.toList.length = s.size := by rw [Array.length_toList]; rfl
  have hne : s.toList = [] ↔ False := by rw [toList_data]; constructor
                                         · intro e; rw [e] at hl; simp at hl; omega
                                         · intro e; cases e
  have hne2 : s.toList.isEmpty = false := by
    cases hh : s.toList with
    | nil => exact absurd hh (fun e => hne.1 e)
    | cons a b => rfl
  have h6z : ¬ (6 : Int) < (s.size : Int) := by omega
  have h6d : decide ((6 : Int) < (s.size : Int)) = false := by rw [decide_eq_false_iff_not]; exact h6z
  have HOK : Hid (numOk s.data.toList = s.data.toList.all digB) := by
    show _ = _
    unfold numOk
    have e1 : s.data.toList.isEmpty = false := by rw [← toList_data]; exact hne2
    have e2 : decide (s.data.toList.length ≤ 6) = true := by rw [decide_eq_true_eq]; omega
    rw [e1, e2]; simp
  have HGET : Hid (∀ pos (hp : pos < s.size), s.data.toList.take (pos + 1) = s.data.toList.take pos ++ [s[pos]'hp]) := fun pos hp => by
    rw [List.take_succ_eq_append_getElem (by omega)]; rfl
  have HL := Lib.hid hl
  clear hl
  go_enter Tryd.func66, Tryd.ntmps66
  go_wp2
  go_loopw [4, 6] (fun n _ wr => ∃ (pos : Nat), pos ≤ s.size ∧ wr = w.iter s pos ∧ n = .int .i64 (numV (s.data.toList.take pos)) ∧ Hid ((s.data.toList.take pos).all digB = true)) (fun _ _ wr => s.size - wr.iterPos w.heap.size)
  case atStart => exact ⟨0, Nat.zero_le _, rfl, rfl, by show _ = _; simp⟩
  case round =>
    obtain ⟨pos, hp, rfl, rfl, HA⟩ := hrel
    have hlt : numV (s.data.toList.take pos) < 1000000 := numV_small (by rw [List.length_take]; omega) HA.out
    by_cases hps : pos < s.size
    · by_cases ha : (s[pos]'hps).toNat < 128
      · have hnx : ∀ ty, (Instr.next (.pointer (some ⟨w.heap.size, 0, none⟩)) true ty).run Tryd.prog (w.iter s pos) = _ := fun ty => run_next_ascii w s pos ty hps ha
        have HS := Lib.hid (HGET.out pos hps)
        have HNOT : Hid (digB (s[pos]'hps) = false → numOk s.data.toList = false) := fun h => by
          rw [HOK.out, List.all_eq_false]
          have hlt' : pos < s.data.toList.length := by rw [HL.out]; exact hps
          exact ⟨s[pos]'hps, (List.getElem_mem (l := s.data.toList) hlt'), by rw [h]; simp⟩
        have HV : Hid (numV (s.data.toList.take (pos + 1)) = 10 * numV (s.data.toList.take pos) + ((s[pos]'hps).toNat - 48)) := by show _ = _; rw [HS.out, numV_snoc]
        have HAD : Hid (digB (s[pos]'hps) = true → (s.data.toList.take (pos + 1)).all digB = true) := fun h => by rw [HS.out, List.all_append, HA.out]; simpa using h
        have HDD : Hid (digB (s[pos]'hps) = (decide (48 ≤ (s[pos]'hps).toNat) && decide ((s[pos]'hps).toNat ≤ 57))) := rfl
        generalize numV (s.data.toList.take pos) = n at *
        generalize digB (s[pos]'hps) = dg at *
        generalize (s[pos]'hps).toNat = b at *
        by_cases hd : 48 ≤ b ∧ b ≤ 57
        · have hz1 : (48 : Int) ≤ (b : Int) := by omega
          have hz2 : (b : Int) ≤ 57 := by omega
          have hdd : decide ((57 : Int) < (b : Int)) = false := by rw [decide_eq_false_iff_not]; omega
          have HA2 := Lib.hid (HAD.out (by rw [HDD.out]; simp [hd.1, hd.2]))
          clear hd
          go_wp2
          go_roundw
          case rel => exact ⟨pos + 1, by omega, rfl, by rw [HV.out]; go_num, HA2⟩
          case measure => simp; omega
        · have HN2 := Lib.hid (HNOT.out (by rw [HDD.out]; rw [Bool.and_eq_false_iff, decide_eq_false_iff_not, decide_eq_false_iff_not]; omega))
          by_cases hlow : b < 48
          · have hz1 : (b : Int) < 48 := by omega
            clear hd
            go_wp2
            go_ret2
            refine ⟨?_, below_iter _ _ _⟩
            rw [HN2.out]; rfl
          · have hz1 : ¬ (b : Int) < 48 := by omega
            have hz2 : (57 : Int) < (b : Int) := by omega
            clear hd
            go_wp2
            go_ret2
            refine ⟨?_, below_iter _ _ _⟩
            rw [HN2.out]; rfl
      · have hnx : ∀ ty, (Instr.next (.pointer (some ⟨w.heap.size, 0, none⟩)) true ty).run Tryd.prog (w.iter s pos) = _ := fun ty => run_next_any w s pos ty hps
        have hlt' : pos < s.data.toList.length := by rw [HL.out]; exact hps
        have hget : s.data.toList.getD pos 0 = s[pos]'hps := by rw [List.getD_eq_getElem?_getD, List.getElem?_eq_getElem hlt']; rfl
        have hr := (rune_bytes s pos hlt' (by rw [hget]; omega)).1
        have HN2 : Hid (numOk s.data.toList = false) := by
          show _ = _
          rw [HOK.out, List.all_eq_false]
          exact ⟨s[pos]'hps, (List.getElem_mem (l := s.data.toList) hlt'), by unfold digB; rw [Bool.and_eq_true, decide_eq_true_eq, decide_eq_true_eq]; omega⟩
        clear hget
        generalize (Utf8.decode s pos).1 = r at *
        have hz1 : ¬ (r : Int) < 48 := by omega
        have hz2 : (57 : Int) < (r : Int) := by omega
        clear ha
        go_wp2
        go_ret2
        refine ⟨?_, below_iter _ _ _⟩
        rw [HN2.out]; rfl
    · have hnx : ∀ ty, (Instr.next (.pointer (some ⟨w.heap.size, 0, none⟩)) true ty).run Tryd.prog (w.iter s pos) = _ := fun ty => run_next_end w s pos ty hps
      have e : s.data.toList.take pos = s.data.toList := List.take_of_length_le (by rw [HL.out]; omega)
      have HO2 : Hid (numOk s.data.toList = true) := by show _ = _; rw [HOK.out, ← e]; exact HA.out
      rw [e] at hlt ⊢
      clear e
      go_wp2
      go_ret2
      refine ⟨?_, below_iter _ _ _⟩
      rw [HO2.out]; rfl

theorem number_any (s : ByteArray) (w : World) (hs : s.size ≤ 9223372036854775807) :
    Calls Tryd.prog 66 #[.string s] w (Numbered s.data.toList w) := by
  by_cases h : 1 ≤ s.size ∧ s.size ≤ 6
  · exact number_good s w h.1 h.2
  · exact number_bad s w (by omega) hs

/-- A word's literal, or nought; none of what is neither. -/
def entryV (l : List UInt8) : Option Int :=
  if l.head? = some 45 then
    (if numOk l.tail ∧ numV l.tail ≤ 100000 ∧ numV l.tail ≠ 0 then some (-(numV l.tail : Int)) else none)
  else if numOk l ∧ numV l ≤ 100000 then some (numV l : Int) else none
def Entered (l : List UInt8) (w : World) (e : Ending) (w' : World) : Prop :=
  e = .returned (.tuple #[.int .i64 ((entryV l).getD 0), .bool (entryV l).isSome]) ∧ Below w.heap.size w w'
theorem hasPrefix_minus (l : List UInt8) : Lib.hasPrefix l [45] = decide (l.head? = some 45) := by
  unfold Lib.hasPrefix
  cases l with
  | nil => simp [List.isPrefixOf]
  | cons b t => simp only [List.isPrefixOf, List.head?_cons, Bool.and_true, Option.some.injEq]; rw [Bool.eq_iff_iff, beq_iff_eq, decide_eq_true_eq]; exact eq_comm
end Go.Proofs.YtiimdehcfkoemaaDoor.Cl
