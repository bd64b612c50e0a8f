/- The laws ClauseAll and ClauseBeyond as contracts: true for whatever slices. -/
import Derived.Test.YtiimdehcfkoemaaDoorClK
namespace Go.Proofs.YtiimdehcfkoemaaDoor.Cl
open Go Go.RowKit Go.Lib Go.Sort

theorem allB_snoc (cs : List (List Int)) (c : List Int) (m : List Bool) : allB (cs ++ [c]) m = (allB cs m && holdsB c m) := by simp [allB]

set_option maxHeartbeats 4000000 in
theorem ClauseAll_law (a : Option Addr) (c : Nat) (rs : List Row) (ma : Option Addr) (mc : Nat) (m : List Bool) (w : World) (ht : Tab w) (hr : RowsIn w a rs) (hl : rs.length ≤ 9223372036854775807) (hm : RowIn Value.bool w ma m) (hml : m.length ≤ 9223372036854775807) :
    Calls Tryd.prog 6 #[.slice a rs.length c, .slice ma m.length mc] w fun e w' => e = .returned (.bool true) ∧ Below w.heap.size w w' := by
  have HT := Lib.hid ht
  have HR := Lib.hid hr
  have HM := Lib.hid hm
  clear ht hr hm
  by_cases h60 : rs.length ≤ 60 ∧ m.length ≤ 60
  · obtain ⟨h60, hm60⟩ := h60
    have hd1 : decide ((60 : Int) < (rs.length : Int)) = false := by rw [decide_eq_false_iff_not]; omega
    have hd2 : decide ((60 : Int) < (m.length : Int)) = false := by rw [decide_eq_false_iff_not]; omega
    go_enter Tryd.func6, Tryd.ntmps6
    go_wp2_with fail
    refine (awake_any _ HT.out).mono ?_
    rintro e w1 ⟨rfl, hb1⟩
    go_wp2_with fail
    go_loopw [5, 6] (fun b i wr => ∃ k : Nat, k ≤ rs.length ∧ i = .int .i64 k ∧ b = .bool (allB ((rs.map Row.zs).take k) m) ∧ Below w.heap.size w wr) (fun _ i _ => rs.length - (intOf i).toNat)
    case atStart => exact ⟨0, Nat.zero_le _, rfl, rfl, hb1⟩
    case round =>
      obtain ⟨k, hk, rfl, rfl, hB⟩ := hrel
      obtain ⟨wo, rfl⟩ : ∃ wo : World, wo = wr := ⟨_, rfl⟩
      clear hb1
      by_cases hlt : k < rs.length
      · have hltz : (k : Int) < (rs.length : Int) := by omega
        have hR := HR.out.below hB
        obtain ⟨b, off, rfl, hb, hc⟩ := hR.row.pos hlt
        have c1 : wo.cell? ⟨b, off + k, none⟩ = some (.slice rs[k]!.a rs[k]!.zs.length rs[k]!.c) := hc k hlt
        have hcall := Holds_any rs[k]!.a rs[k]!.c rs[k]!.zs ma mc m wo (hR.each _ (getElem!_mem hlt)) (hR.small _ (getElem!_mem hlt)) (HM.out.below hB)
        have HS : Hid (allB ((rs.map Row.zs).take (k + 1)) m = (allB ((rs.map Row.zs).take k) m && holdsB rs[k]!.zs m)) := by
          show _ = _; rw [take_succ! (by simpa using hlt), allB_snoc, map_get! rs hlt]
        clear hc hR
        generalize allB ((rs.map Row.zs).take k) m = q at *
        generalize holdsB rs[k]!.zs m = h at *
        generalize rs[k]! = r at *
        by_cases h40 : r.zs.length ≤ 40
        · have hd3 : decide ((40 : Int) < (r.zs.length : Int)) = false := by rw [decide_eq_false_iff_not]; omega
          cases q with
          | true =>
            go_wp2_with (go_at_call 15; refine hcall.mono ?_; rintro e w2 ⟨rfl, hb2⟩)
            go_roundw
            case rel => exact ⟨k + 1, by omega, by go_num, by rw [HS.out]; rfl, hB.trans (hb2.mono hB.size)⟩
            case measure => simp [intOf]; omega
          | false =>
            go_wp2_with fail
            go_roundw
            case rel => exact ⟨k + 1, by omega, by go_num, by rw [HS.out]; rfl, hB⟩
            case measure => simp [intOf]; omega
        · have hd3 : (40 : Int) < (r.zs.length : Int) := by omega
          go_wp2_with fail
          go_ret
          exact ⟨rfl, hB⟩
      · have hltz : ¬ (k : Int) < (rs.length : Int) := by omega
        have HE : Hid (allB ((rs.map Row.zs).take k) m = allB (rs.map Row.zs) m) := by show _ = _; rw [List.take_of_length_le (by simp; omega)]
        have hca := All_any a c rs ma mc m wo (HR.out.below hB) hl (HM.out.below hB)
        have HRA : Hid (∀ w2, Below w.heap.size w w2 → Calls Tryd.prog 26 #[.slice a rs.length c, .slice ma m.length mc] w2 fun e w' => e = .returned (.bool (allB (rs.map Row.zs) m)) ∧ w2 = w') := fun w2 h => RefAll_any a c rs ma mc m w2 (HR.out.below h) hl (HM.out.below h)
        have HB := Lib.hid hB
        rw [HE.out]
        generalize allB (rs.map Row.zs) m = q at *
        clear HE
        have hq : (q == q) = true := by simp
        go_wp2_with fail
        refine hca.mono ?_
        rintro e w2 ⟨rfl, hb2⟩
        have hb3 := HB.out.trans (hb2.mono HB.out.size)
        go_wp2_with fail
        refine (HRA.out _ hb3).mono ?_
        rintro e w3 ⟨rfl, rfl⟩
        go_wp2_with fail
        go_ret
        exact ⟨rfl, hb3⟩
  · by_cases h1 : rs.length ≤ 60
    · have hd1 : decide ((60 : Int) < (rs.length : Int)) = false := by rw [decide_eq_false_iff_not]; omega
      have hd2 : (60 : Int) < (m.length : Int) := by omega
      go_enter Tryd.func6, Tryd.ntmps6
      go_wp2_with fail
      refine (awake_any _ HT.out).mono ?_
      rintro e w1 ⟨rfl, hb1⟩
      go_wp2_with fail
      refine (awake_any _ (HT.out.below hb1)).mono ?_
      rintro e w2 ⟨rfl, hb2⟩
      go_wp2_with fail
      go_ret
      exact ⟨rfl, hb1.trans (hb2.mono hb1.size)⟩
    · have hd1 : (60 : Int) < (rs.length : Int) := by omega
      go_enter Tryd.func6, Tryd.ntmps6
      go_wp2_with fail
      refine (awake_any _ HT.out).mono ?_
      rintro e w1 ⟨rfl, hb1⟩
      go_wp2_with fail
      refine (awake_any _ (HT.out.below hb1)).mono ?_
      rintro e w2 ⟨rfl, hb2⟩
      go_wp2_with fail
      go_ret
      exact ⟨rfl, hb1.trans (hb2.mono hb1.size)⟩
end Go.Proofs.YtiimdehcfkoemaaDoor.Cl
