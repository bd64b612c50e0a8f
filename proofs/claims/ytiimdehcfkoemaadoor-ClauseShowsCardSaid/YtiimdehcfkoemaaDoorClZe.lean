/- The document's own Lists, of lists that are the same; and the law ClauseParses as a contract. -/
import Derived.Test.YtiimdehcfkoemaaDoorClZc
import Derived.Test.YtiimdehcfkoemaaDoorClM
namespace Go.Proofs.YtiimdehcfkoemaaDoor.Cl
open Go Go.RowKit Go.Lib Go.Sort

theorem parsed_few {V : Int} : ∀ (n : Nat) (L : List (List UInt8)) (st : PSt), L.length = n → parsed V L = some st → st.cs.length ≤ n
  | 0, L, st, h, hp => by
    rw [List.eq_nil_of_length_eq_zero h] at hp
    cases hp; exact Nat.le_refl _
  | n + 1, L, st, h, hp => by
    obtain ⟨T, x, rfl⟩ : ∃ T x, L = T ++ [x] := ⟨L.dropLast, L.getLast (by intro e; rw [e] at h; cases h), (List.dropLast_concat_getLast _).symm⟩
    rw [parsed_snoc] at hp
    cases ht : parsed V T with
    | none => rw [ht] at hp; cases hp
    | some s0 =>
      have hT : T.length = n := by simpa using h
      have ih := parsed_few n T s0 hT ht
      rw [ht] at hp
      unfold pstep at hp
      cases he : entryV x with
      | none => rw [he] at hp; cases hp
      | some n' =>
        rw [he] at hp
        simp only at hp
        split at hp
        · split at hp
          · cases hp; simp only [List.length_append, List.length_cons, List.length_nil]; omega
          · cases hp; simp only; omega
        · cases hp
theorem parseR_few (l : List UInt8) : (parseR l).1.length ≤ 100001 := by
  unfold parseR
  split
  · unfold parse2
    split
    · cases h : clausesR (headR (wordsL l)).1 ((wordsL l).drop 4) with
      | none => exact Nat.zero_le _
      | some cs =>
        have hc : cs.length ≤ 100001 := by
          unfold clausesR at h
          cases hp : parsed (headR (wordsL l)).1 ((wordsL l).drop 4) with
          | none => rw [hp] at h; cases h
          | some st =>
            rw [hp] at h
            have h' : (if st.opn = true then none else some st.cs) = some cs := h
            split at h'
            · cases h'
            · cases h'
              have h1 := parsed_few _ _ st rfl hp
              have h2 := words_count l (splitL l).length
              rw [List.take_length] at h2
              have e : (wordsL l).length = ((splitL l).flatMap lineWords).length := rfl
              rw [List.length_drop] at h1
              omega
        unfold parse3; simp only
        split
        · exact hc
        · exact Nat.zero_le _
    · exact Nat.zero_le _
  · exact Nat.zero_le _

set_option maxHeartbeats 4000000 in
set_option maxRecDepth 100000 in
theorem Lists_same (a b : Option Addr) (c d : Nat) (rs qs : List Row) (w : World) (hr : RowsIn w a rs) (hq : RowsIn w b qs) (hl : rs.length ≤ 1000000) (he : rs.map Row.zs = qs.map Row.zs) :
    Calls Tryd.prog 23 #[.slice a rs.length c, .slice b qs.length d] w fun e w' => e = .returned (.bool true) ∧ Below w.heap.size w w' := by
  have HR := Lib.hid hr
  have HQ := Lib.hid hq
  have hlen : rs.length = qs.length := by have := congrArg List.length he; simpa using this
  have HE : Hid (∀ j, j < rs.length → rs[j]!.zs = qs[j]!.zs) := fun j hj => by
    rw [← map_get! rs hj, ← map_get! qs (by omega), he]
  rw [← hlen]
  have HLN := Lib.hid hlen
  clear hr hq he hlen
  go_enter Tryd.func23, Tryd.ntmps23
  go_wp2
  go_loopw [5] (fun i wr => ∃ k : Nat, k ≤ rs.length ∧ i = .int .i64 k ∧ Below w.heap.size w wr) (fun i _ => rs.length - (intOf i).toNat)
  case atStart => exact ⟨0, Nat.zero_le _, rfl, Below.refl _ _⟩
  case round =>
    obtain ⟨k, hk, rfl, hB⟩ := hrel
    obtain ⟨wo, rfl⟩ : ∃ wo : World, wo = wr := ⟨_, rfl⟩
    by_cases hlt : k < rs.length
    · have hltz : (k : Int) < (rs.length : Int) := by omega
      have hlt2 : k < qs.length := by rw [← HLN.out]; exact hlt
      obtain ⟨b1, off1, rfl, hb1, hc1⟩ := (HR.out.below hB).row.pos hlt
      obtain ⟨b2, off2, rfl, hb2, hc2⟩ := (HQ.out.below hB).row.pos hlt2
      have c1 : wo.cell? ⟨b1, off1 + k, none⟩ = some (.slice rs[k]!.a rs[k]!.zs.length rs[k]!.c) := hc1 k hlt
      have c2 : wo.cell? ⟨b2, off2 + k, none⟩ = some (.slice qs[k]!.a qs[k]!.zs.length qs[k]!.c) := hc2 k hlt2
      have hB' := below_drewN' (Below.refl wo.heap.size wo)
      have hr1 := (HR.out.below hB).each _ (getElem!_mem hlt)
      have hr2 := (HQ.out.below hB).each _ (getElem!_mem hlt2)
      have hs1 := HR.out.small _ (getElem!_mem hlt)
      have hcall : ∀ n, Calls Tryd.prog 12 #[.slice rs[k]!.a rs[k]!.zs.length rs[k]!.c, .slice qs[k]!.a qs[k]!.zs.length qs[k]!.c] (wo.drewN n) fun e w' => e = .returned (.bool true) ∧ ∃ m, w' = (wo.drewN n).drewN m := fun n => by
        have := Ints_any rs[k]!.a qs[k]!.a rs[k]!.c qs[k]!.c rs[k]!.zs qs[k]!.zs (wo.drewN n) (hr1.below (hB' n)) (hr2.below (hB' n)) hs1
        rw [decide_eq_true (HE.out k hlt)] at this
        exact this
      have HC := Lib.hid hcall
      clear hc1 hc2 hB' hr1 hr2 hs1 hcall
      generalize rs[k]! = r at *
      generalize qs[k]! = q at *
      go_wp2
      go_quiet ((go_at_call 12; exact Calls.quiet_of (HC.out _)))
      go_wp2
      go_roundw
      case rel => exact ⟨k + 1, by omega, by go_num, below_drewN' hB _⟩
      case measure => simp [intOf]; omega
    · have hltz : ¬ (k : Int) < (rs.length : Int) := by omega
      go_wp2
      go_ret
      exact ⟨rfl, hB⟩

set_option maxHeartbeats 4000000 in
set_option maxRecDepth 100000 in
theorem ClauseParses_law (s : ByteArray) (w : World) (ht : Tab w) (hM : MaxLenIn w) (hs : s.size ≤ 9223372036854775807) :
    Calls Tryd.prog 5 #[.string s] w fun e w' => e = .returned (.bool true) ∧ Below w.heap.size w w' := by
  have HT := Lib.hid ht
  have HM := Lib.hid hM
  clear ht hM
  by_cases hbig : s.size ≤ 2000
  · have hbz : ¬ (2000 : Int) < (s.size : Int) := by omega
    have hbd : decide ((2000 : Int) < (s.size : Int)) = false := by rw [decide_eq_false_iff_not]; exact hbz
    go_enter Tryd.func5, Tryd.ntmps5
    go_wp2_with fail
    refine (awake_any _ HT.out).mono ?_
    rintro e w1 ⟨rfl, hb1⟩
    go_wp2_with fail
    have hP := Parse_any s w1 hs (HM.out.below hb1)
    unfold Parsed at hP
    obtain ⟨p, hp⟩ : ∃ p, p = parseR s.data.toList := ⟨_, rfl⟩
    have HSM : Hid (p.1.length ≤ 100001) := by show _ ≤ _; rw [hp]; exact parseR_few _
    have HREF := Lib.hid (fun w => RefParse_any s w hs)
    rw [← hp] at hP
    refine hP.mono ?_
    rintro e w2 ⟨a, c, rs, rfl, hz, hrs, hb2⟩
    have HZ := Lib.hid hz
    have HRS := Lib.hid hrs
    clear hP hz hrs
    go_wp2_with fail
    refine (HREF.out _).mono ?_
    unfold Parsed
    rw [← hp]
    rintro e w3 ⟨b, d, qs, rfl, hz2, hqs, hb3⟩
    have HL := Lib.hid (Lists_same a b c d rs qs w3 (HRS.out.below hb3) hqs (by have := HSM.out; rw [← HZ.out, List.length_map] at this; omega) (HZ.out.trans hz2.symm))
    have hBB : Below w.heap.size w w3 := (hb1.trans (hb2.mono hb1.size)).trans (hb3.mono (Nat.le_trans hb1.size hb2.size))
    clear hz2 hqs hp
    obtain ⟨p1, p2⟩ := p
    go_wp2_with fail
    refine HL.out.mono ?_
    rintro e w4 ⟨rfl, hb4⟩
    go_wp2_with fail
    go_ret
    exact ⟨rfl, hBB.trans (hb4.mono hBB.size)⟩
  · have hbz : (2000 : Int) < (s.size : Int) := by omega
    go_enter Tryd.func5, Tryd.ntmps5
    go_wp2_with fail
    refine (awake_any _ HT.out).mono ?_
    rintro e w1 ⟨rfl, hb1⟩
    go_wp2_with fail
    refine (awake_any _ (HT.out.below hb1)).mono ?_
    rintro e w2 ⟨rfl, hb2⟩
    go_wp2_with fail
    go_ret
    exact ⟨rfl, hb1.trans (hb2.mono hb1.size)⟩
end Go.Proofs.YtiimdehcfkoemaaDoor.Cl
