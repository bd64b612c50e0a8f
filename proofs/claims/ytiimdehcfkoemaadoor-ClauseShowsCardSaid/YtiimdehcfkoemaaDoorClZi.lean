/- The law ClauseShows as a contract. -/
import Derived.Test.YtiimdehcfkoemaaDoorClZh
namespace Go.Proofs.YtiimdehcfkoemaaDoor.Cl
open Go Go.RowKit Go.Lib Go.Sort

theorem small_facts {cs : List (List Int)} (h : smallB cs 60 100000 = true) : cs.length ≤ 60 ∧ ∀ c ∈ cs, c.length ≤ 30 := by
  unfold smallB at h
  rw [Bool.and_eq_true, decide_eq_true_eq, List.all_eq_true] at h
  refine ⟨by omega, fun c hc => ?_⟩
  have := h.2 c hc
  unfold okB at this
  rw [Bool.and_eq_true, decide_eq_true_eq] at this
  exact this.1

set_option maxHeartbeats 8000000 in
set_option maxRecDepth 100000 in
theorem ClauseShows_law (a : Option Addr) (c : Nat) (rs : List Row) (w : World) (ht : Tab w) (hM : MaxLenIn w) (hr : RowsIn w a rs) (hlc : rs.length ≤ c) (hc : c ≤ 9223372036854775807) :
    Calls Tryd.prog 4 #[.slice a rs.length c] w fun e w' => e = .returned (.bool true) ∧ Below w.heap.size w w' := by
  have HSM : Hid (∀ w2, Below w.heap.size w w2 → Calls Tryd.prog 17 #[.slice a rs.length c, .int .i64 60, .int .i64 100000] w2 fun e w' => e = .returned (.bool (smallB (rs.map Row.zs) 60 100000)) ∧ w2 = w') := fun w2 h => Small_any a c rs 60 100000 w2 (hr.below h) hlc hc
  have HT := Lib.hid ht
  have HM := Lib.hid hM
  have HR := Lib.hid hr
  clear ht hM hr
  cases hs : smallB (rs.map Row.zs) 60 100000 with
  | true =>
    rw [hs] at HSM
    obtain ⟨hs1, hs2⟩ := small_facts hs
    rw [List.length_map] at hs1
    have HS2 : Hid (∀ r ∈ rs, r.zs.length ≤ 30) := fun r hr => hs2 r.zs (List.mem_map_of_mem hr)
    have HS2c : Hid (∀ c ∈ rs.map Row.zs, c.length ≤ 30) := hs2
    have HSH : Hid (∀ w2, Below w.heap.size w w2 → Calls Tryd.prog 18 #[.slice a rs.length c] w2 fun e w' => e = .returned (.string ⟨(showText (rs.map Row.zs)).toArray⟩) ∧ Below w2.heap.size w2 w') := fun w2 h => Show_any a c rs w2 (HT.out.below h) (HR.out.below h) (by omega) (fun r hr => by have := HS2.out r hr; omega)
    have HRSH : Hid (∀ w2, Below w.heap.size w w2 → Calls Tryd.prog 19 #[.slice a rs.length c] w2 fun e w' => e = .returned (.string ⟨(showText (rs.map Row.zs)).toArray⟩) ∧ Below w2.heap.size w2 w') := fun w2 h => RefShow_any a c rs w2 (HR.out.below h) (by omega) (fun r hr => by have := HS2.out r hr; omega)
    have HG : Hid (∀ w2, Below w.heap.size w w2 → Calls Tryd.prog 20 #[.slice a rs.length c] w2 fun e w' => e = .returned (.int .i64 (greatest (rs.map Row.zs))) ∧ w2 = w') := fun w2 h => Greatest_any a c rs w2 (HR.out.below h) (by omega)
    have HRG : Hid (∀ w2, Below w.heap.size w w2 → Calls Tryd.prog 21 #[.slice a rs.length c] w2 fun e w' => e = .returned (.int .i64 (greatest (rs.map Row.zs))) ∧ w2 = w') := fun w2 h => RefGreatest_any a c rs w2 (HR.out.below h) (by omega)
    obtain ⟨S, hS⟩ : ∃ S : ByteArray, S = ⟨(showText (rs.map Row.zs)).toArray⟩ := ⟨_, rfl⟩
    rw [← hS] at HSH HRSH
    have hSd : S.data.toList = showText (rs.map Row.zs) := by rw [hS]
    have hSt : S.toList = S.data.toList := toList_data _
    have HSL : Hid (S.size ≤ 9223372036854775807) := by
      show _ ≤ _
      rw [size_data, hSd]
      unfold showText
      split
      · rename_i hall
        have h1 := Lib.itoa_length_le (greatest (rs.map Row.zs)) (by have := greatest_bd (rs.map Row.zs); omega) (by have := greatest_bd (rs.map Row.zs); omega)
        have h2 := Lib.itoa_length_le ((rs.map Row.zs).length : Int) (by omega) (by rw [List.length_map]; omega)
        have h3 := rows_short hall hs2
        rw [List.length_map] at h3
        unfold headText
        simp only [List.length_append, List.length_cons, List.length_nil]; omega
      · simp
    have HP : Hid (∀ w2, Below w.heap.size w w2 → Calls Tryd.prog 22 #[.string S] w2 (Parsed S.data.toList w2)) := fun w2 h => Parse_any S w2 HSL.out (HM.out.below h)
    generalize greatest (rs.map Row.zs) = g at HG HRG
    cases hall : (rs.map Row.zs).all rightB with
    | false =>
      have e0 : S.toList = [] := by rw [hSt, hSd]; unfold showText; rw [hall]; rfl
      clear hS hSd hSt hs2 hs hall HSL
      unfold Parsed at HP
      generalize parseR S.data.toList = p at HP
      go_enter Tryd.func4, Tryd.ntmps4
      go_wp2_with fail
      refine (awake_any _ HT.out).mono ?_
      rintro e w1 ⟨rfl, hb1⟩
      go_wp2_with fail
      refine (HSM.out _ hb1).mono ?_
      rintro e w2 ⟨rfl, rfl⟩
      go_wp2_with fail
      refine (HSH.out _ hb1).mono ?_
      rintro e w3 ⟨rfl, hb3⟩
      have hB3 := hb1.trans (hb3.mono hb1.size)
      go_wp2_with fail
      refine (HRSH.out _ hB3).mono ?_
      rintro e w4 ⟨rfl, hb4⟩
      have hB4 := hB3.trans (hb4.mono hB3.size)
      go_wp2_with fail
      refine (HG.out _ hB4).mono ?_
      rintro e w5 ⟨rfl, rfl⟩
      go_wp2_with fail
      refine (HRG.out _ hB4).mono ?_
      rintro e w5 ⟨rfl, rfl⟩
      go_wp2_with fail
      refine (HP.out _ hB4).mono ?_
      rintro e w6 ⟨pa, pc, qs, rfl, _, _, hb6⟩
      go_wp2_with fail
      go_ret
      exact ⟨rfl, hB4.trans (hb6.mono hB4.size)⟩
    | true =>
      have hne : ¬ S.toList = [] := by
        rw [hSt, hSd]; unfold showText; rw [if_pos hall]; unfold headText; simp
      have hneb : (S.toList == []) = false := by simpa using hne
      have hpar : parseR S.data.toList = (rs.map Row.zs, 0) := by
        rw [hSd]; exact parse_show _ hall (by rw [List.length_map]; exact hs1) hs2
      unfold Parsed at HP
      rw [hpar] at HP
      clear hS hSd hSt hs2 hs hall HSL hpar
      go_enter Tryd.func4, Tryd.ntmps4
      go_wp2_with fail
      refine (awake_any _ HT.out).mono ?_
      rintro e w1 ⟨rfl, hb1⟩
      go_wp2_with fail
      refine (HSM.out _ hb1).mono ?_
      rintro e w2 ⟨rfl, rfl⟩
      go_wp2_with fail
      refine (HSH.out _ hb1).mono ?_
      rintro e w3 ⟨rfl, hb3⟩
      have hB3 := hb1.trans (hb3.mono hb1.size)
      go_wp2_with fail
      refine (HRSH.out _ hB3).mono ?_
      rintro e w4 ⟨rfl, hb4⟩
      have hB4 := hB3.trans (hb4.mono hB3.size)
      go_wp2_with fail
      refine (HG.out _ hB4).mono ?_
      rintro e w5 ⟨rfl, rfl⟩
      go_wp2_with fail
      refine (HRG.out _ hB4).mono ?_
      rintro e w5 ⟨rfl, rfl⟩
      go_wp2_with fail
      refine (HP.out _ hB4).mono ?_
      rintro e w6 ⟨pa, pc, qs, rfl, hz, hqs, hb6⟩
      have hB6 := hB4.trans (hb6.mono hB4.size)
      have hql : qs.length ≤ 1000000 := by have := congrArg List.length hz; simp at this; omega
      have HLL := Lib.hid (Lists_same pa a pc c qs rs w6 hqs (HR.out.below hB6) hql hz)
      clear hz hqs
      go_wp2_with fail
      refine HLL.out.mono ?_
      rintro e w7 ⟨rfl, hb7⟩
      go_wp2_with fail
      go_ret
      exact ⟨rfl, hB6.trans (hb7.mono hB6.size)⟩
  | false =>
    rw [hs] at HSM
    clear hs
    go_enter Tryd.func4, Tryd.ntmps4
    go_wp2_with fail
    refine (awake_any _ HT.out).mono ?_
    rintro e w1 ⟨rfl, hb1⟩
    go_wp2_with fail
    refine (HSM.out _ hb1).mono ?_
    rintro e w2 ⟨rfl, rfl⟩
    go_wp2_with fail
    refine (awake_any _ (HT.out.below hb1)).mono ?_
    rintro e w3 ⟨rfl, hb3⟩
    go_wp2_with fail
    go_ret
    exact ⟨rfl, hb1.trans (hb3.mono hb1.size)⟩
end Go.Proofs.YtiimdehcfkoemaaDoor.Cl
