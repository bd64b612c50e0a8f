/- Contracts of the document's own answers (weirgateref01): Holds, All, Greatest, Small. -/
import Derived.Test.YthpamogomfleoaaDoorClJ
namespace Go.Proofs.YthpamogomfleoaaDoor.Cl
open Go Go.RowKit Go.Lib Go.Sort

set_option maxHeartbeats 4000000 in
theorem RefHolds_any (a : Option Addr) (c : Nat) (zs : List Int) (ma : Option Addr) (mc : Nat) (m : List Bool) (w : World) (hr : RowIn (Value.int .i64) w a zs) (hl : zs.length ≤ 9223372036854775807) (hm : RowIn Value.bool w ma m) :
    Calls Tryd.prog 15 #[.slice a zs.length c, .slice ma m.length mc] w fun e w' => e = .returned (.bool (holdsB zs m)) ∧ w = w' := by
  go_enter Tryd.func15, Tryd.ntmps15
  go_wp2
  go_loop [5, 6, 7] (fun i _ _ => ∃ k : Nat, k ≤ zs.length ∧ i = .int .i64 k ∧ Hid (∀ j, j < k → litB m zs[j]! = false)) (fun i _ _ => zs.length - (intOf i).toNat)
  case atStart => exact ⟨0, Nat.zero_le _, rfl, fun j hj => absurd hj (Nat.not_lt_zero _)⟩
  case round =>
    obtain ⟨k, hk, rfl, HA⟩ := hrel
    by_cases hlt : k < zs.length
    · have hltz : (k : Int) < (zs.length : Int) := by omega
      obtain ⟨b, off, rfl, hb, hc⟩ := hr.pos hlt
      have c1 := hc k hlt
      have hlit := Literal_any zs[k]! w
      have HNO : Hid (litB m zs[k]! = false → ∀ j, j < k + 1 → litB m zs[j]! = false) := fun hq j hj => by
        by_cases e : j = k
        · subst e; exact hq
        · exact HA.out j (by omega)
      have HYES : Hid (litB m zs[k]! = true → holdsB zs m = true) := fun hq => any_at hlt hq
      clear hc hr
      generalize zs[k]! = x at *
      cases hq : isLit x with
      | false =>
        have HA2 := Lib.hid (HNO.out (by simp [litB, hq]))
        rw [hq] at hlit
        clear hq HNO HYES
        go_wp2_with (go_at_call 25; refine hlit.mono ?_; rintro e w' ⟨rfl, rfl⟩)
        go_round
        case rel => exact ⟨k + 1, by omega, by go_num, HA2.out⟩
        case measure => simp [intOf]; omega
      | true =>
        have hx := (isLit_iff x).1 hq
        have habs := Abs_any x w (by omega) (by omega)
        have HL : Hid (litB m x = (valB (vr x) m == decide (0 < x))) := by show _ = _; simp [litB, hq]
        have hv1 : 1 ≤ vr x := by unfold vr; omega
        have hv2 : vr x ≤ 100000 := by unfold vr; omega
        rw [hq] at hlit
        clear hq
        generalize vr x = v at *
        obtain ⟨q, rfl⟩ : ∃ q : Nat, v = (q : Int) + 1 := ⟨v.toNat - 1, by omega⟩
        have HV : Hid (valB ((q : Int) + 1) m = m[q]!) := by show _ = _; unfold valB; rw [show (((q : Int) + 1).toNat - 1) = q by omega]
        clear hv1
        by_cases hqm : q < m.length
        · have hqz : (q : Int) + 1 ≤ (m.length : Int) := by omega
          obtain ⟨b2, off2, rfl, hb2, hc2⟩ := hm.pos hqm
          have c2 := hc2 q hqm
          clear hc2 hm
          generalize m[q]! = r at *
          by_cases hp : 0 < x
          · have hd : decide (0 < x) = true := by simpa using hp
            cases r with
            | true =>
              have HO := Lib.hid (HYES.out (by rw [HL.out, HV.out, hd]; rfl))
              go_wp2_with (first | (go_at_call 25; refine hlit.mono ?_; rintro e w' ⟨rfl, rfl⟩) | (go_at_call 26; refine habs.mono ?_; rintro e w' ⟨rfl, rfl⟩))
              go_ret
              exact ⟨ret_bool HO.out.symm, rfl⟩
            | false =>
              have HA2 := Lib.hid (HNO.out (by rw [HL.out, HV.out, hd]; rfl))
              go_wp2_with (first | (go_at_call 25; refine hlit.mono ?_; rintro e w' ⟨rfl, rfl⟩) | (go_at_call 26; refine habs.mono ?_; rintro e w' ⟨rfl, rfl⟩))
              go_round
              case rel => exact ⟨k + 1, by omega, by go_num, HA2.out⟩
              case measure => simp [intOf]; omega
          · have hd : decide (0 < x) = false := by simpa using hp
            cases r with
            | false =>
              have HO := Lib.hid (HYES.out (by rw [HL.out, HV.out, hd]; rfl))
              go_wp2_with (first | (go_at_call 25; refine hlit.mono ?_; rintro e w' ⟨rfl, rfl⟩) | (go_at_call 26; refine habs.mono ?_; rintro e w' ⟨rfl, rfl⟩))
              go_ret
              exact ⟨ret_bool HO.out.symm, rfl⟩
            | true =>
              have HA2 := Lib.hid (HNO.out (by rw [HL.out, HV.out, hd]; rfl))
              go_wp2_with (first | (go_at_call 25; refine hlit.mono ?_; rintro e w' ⟨rfl, rfl⟩) | (go_at_call 26; refine habs.mono ?_; rintro e w' ⟨rfl, rfl⟩))
              go_round
              case rel => exact ⟨k + 1, by omega, by go_num, HA2.out⟩
              case measure => simp [intOf]; omega
        · have hqz : ¬ (q : Int) + 1 ≤ (m.length : Int) := by omega
          have hqd : decide ((q : Int) + 1 ≤ (m.length : Int)) = false := by simpa using hqz
          have HV2 : Hid (m[q]! = false) := by show _ = _; simp [Nat.not_lt.1 hqm]
          by_cases hp : 0 < x
          · have hd : decide (0 < x) = true := by simpa using hp
            have HA2 := Lib.hid (HNO.out (by rw [HL.out, HV.out, hd, HV2.out]; rfl))
            go_wp2_with (first | (go_at_call 25; refine hlit.mono ?_; rintro e w' ⟨rfl, rfl⟩) | (go_at_call 26; refine habs.mono ?_; rintro e w' ⟨rfl, rfl⟩))
            go_round
            case rel => exact ⟨k + 1, by omega, by go_num, HA2.out⟩
            case measure => simp [intOf]; omega
          · have hd : decide (0 < x) = false := by simpa using hp
            have HO := Lib.hid (HYES.out (by rw [HL.out, HV.out, hd, HV2.out]; rfl))
            go_wp2_with (first | (go_at_call 25; refine hlit.mono ?_; rintro e w' ⟨rfl, rfl⟩) | (go_at_call 26; refine habs.mono ?_; rintro e w' ⟨rfl, rfl⟩))
            go_ret
            exact ⟨ret_bool HO.out.symm, rfl⟩
    · have hltz : ¬ (k : Int) < (zs.length : Int) := by omega
      have HO : Hid (holdsB zs m = false) := any_none (fun j hj => HA.out j (by omega))
      go_wp2
      go_ret
      exact ⟨ret_bool HO.out.symm, rfl⟩

set_option maxHeartbeats 1000000 in
theorem RefAll_any (a : Option Addr) (c : Nat) (rs : List Row) (ma : Option Addr) (mc : Nat) (m : List Bool) (w : World) (hr : RowsIn w a rs) (hl : rs.length ≤ 9223372036854775807) (hm : RowIn Value.bool w ma m) :
    Calls Tryd.prog 14 #[.slice a rs.length c, .slice ma m.length mc] w fun e w' => e = .returned (.bool (allB (rs.map Row.zs) m)) ∧ w = w' := by
  go_enter Tryd.func14, Tryd.ntmps14
  go_wp2
  go_loop [5] (fun i => ∃ k : Nat, k ≤ rs.length ∧ i = .int .i64 k ∧ Hid (∀ j, j < k → holdsB rs[j]!.zs m = true)) (fun i => rs.length - (intOf i).toNat)
  case atStart => exact ⟨0, Nat.zero_le _, rfl, fun j hj => absurd hj (Nat.not_lt_zero _)⟩
  case round =>
    obtain ⟨k, hk, rfl, HA⟩ := hrel
    by_cases hlt : k < rs.length
    · have hltz : (k : Int) < (rs.length : Int) := by omega
      obtain ⟨b, off, rfl, hb, hc⟩ := hr.row.pos hlt
      have c1 : w.cell? ⟨b, off + k, none⟩ = some (.slice rs[k]!.a rs[k]!.zs.length rs[k]!.c) := hc k hlt
      have hcall := RefHolds_any rs[k]!.a rs[k]!.c rs[k]!.zs ma mc m w (hr.each _ (getElem!_mem hlt)) (hr.small _ (getElem!_mem hlt)) hm
      clear hc hr
      cases hq : holdsB rs[k]!.zs m with
      | true =>
        have HA2 : Hid (∀ j, j < k + 1 → holdsB rs[j]!.zs m = true) := fun j hj => by
          by_cases e : j = k
          · subst e; exact hq
          · exact HA.out j (by omega)
        rw [hq] at hcall
        clear hq
        generalize rs[k]! = r at *
        go_wp2_with (go_at_call 15; refine hcall.mono ?_; rintro e w' ⟨rfl, rfl⟩)
        go_round
        case rel => exact ⟨k + 1, by omega, by go_num, HA2⟩
        case measure => simp [intOf]; omega
      | false =>
        have HO : Hid (allB (rs.map Row.zs) m = false) := by
          show _ = _; unfold allB; rw [List.all_map]; exact all_not (p := (fun c => holdsB c m) ∘ Row.zs) hlt hq
        rw [hq] at hcall
        clear hq
        generalize rs[k]! = r at *
        go_wp2_with (go_at_call 15; refine hcall.mono ?_; rintro e w' ⟨rfl, rfl⟩)
        go_ret
        exact ⟨ret_bool HO.out.symm, rfl⟩
    · have hltz : ¬ (k : Int) < (rs.length : Int) := by omega
      have HO : Hid (allB (rs.map Row.zs) m = true) := by
        show _ = _; unfold allB; rw [List.all_map]; exact all_of (p := (fun c => holdsB c m) ∘ Row.zs) (fun j hj => HA.out j (by omega))
      go_wp2
      go_ret
      exact ⟨ret_bool HO.out.symm, rfl⟩

set_option maxHeartbeats 4000000 in
theorem RefGreatest_any (a : Option Addr) (c : Nat) (rs : List Row) (w : World) (hr : RowsIn w a rs) (hl : rs.length ≤ 9223372036854775807) :
    Calls Tryd.prog 11 #[.slice a rs.length c] w fun e w' => e = .returned (.int .i64 (greatest (rs.map Row.zs))) ∧ w = w' := by
  go_enter Tryd.func11, Tryd.ntmps11
  go_wp2
  go_loop [3, 4, 5] (fun g i _ => ∃ k : Nat, k ≤ rs.length ∧ i = .int .i64 k ∧ g = .int .i64 (greatest ((rs.map Row.zs).take k))) (fun _ i _ => rs.length - (intOf i).toNat)
  case atStart => exact ⟨0, Nat.zero_le _, rfl, rfl⟩
  case round =>
    obtain ⟨k, hk, rfl, rfl⟩ := hrel
    by_cases hlt : k < rs.length
    · have hltz : (k : Int) < (rs.length : Int) := by omega
      obtain ⟨b, off, rfl, hb, hc⟩ := hr.row.pos hlt
      have c1 : w.cell? ⟨b, off + k, none⟩ = some (.slice rs[k]!.a rs[k]!.zs.length rs[k]!.c) := hc k hlt
      have hrow := hr.each rs[k]! (getElem!_mem hlt)
      have hll := hr.small rs[k]! (getElem!_mem hlt)
      have HT : Hid (greatest ((rs.map Row.zs).take (k + 1)) = rowMax (greatest ((rs.map Row.zs).take k)) rs[k]!.zs) := by
        show _ = _
        rw [take_succ! (by simpa using hlt), greatest_snoc, map_get! rs hlt]
      have hg := greatest_bd ((rs.map Row.zs).take k)
      clear hc hr
      generalize greatest ((rs.map Row.zs).take k) = g at *
      generalize rs[k]!.zs = zs at *
      generalize rs[k]!.a = ra at *
      generalize rs[k]!.c = rc at *
      go_wp2
      go_loop [3, 5] (fun g' i => ∃ j : Nat, j ≤ zs.length ∧ i = .int .i64 j ∧ g' = .int .i64 (rowMax g (zs.take j))) (fun _ i => zs.length - (intOf i).toNat)
      case atStart => exact ⟨0, Nat.zero_le _, rfl, rfl⟩
      case round =>
        obtain ⟨j, hj, rfl, rfl⟩ := hrel
        have hg2 := rowMax_bd (zs := zs.take j) hg.1 hg.2
        by_cases hjlt : j < zs.length
        · have hjz : (j : Int) < (zs.length : Int) := by omega
          obtain ⟨b', off', rfl, hb', hc'⟩ := hrow.pos hjlt
          have c2 := hc' j hjlt
          have HS : Hid (rowMax g (zs.take (j + 1)) = litMax (rowMax g (zs.take j)) zs[j]!) := by show _ = _; rw [take_succ! hjlt, rowMax_snoc]
          clear hc' hrow
          generalize rowMax g (zs.take j) = m at *
          generalize zs[j]! = x at *
          have hlit := Literal_any x w
          cases hx : isLit x with
          | false =>
            rw [hx] at hlit
            have HS2 : Hid (rowMax g (zs.take (j + 1)) = m) := by show _ = _; rw [HS.out]; simp [litMax, hx]
            clear hx
            go_wp2_with (go_at_call 25; refine hlit.mono ?_; rintro e w' ⟨rfl, rfl⟩)
            go_round
            case rel => exact ⟨j + 1, by omega, by go_num, by rw [HS2.out]⟩
            case measure => simp [intOf]; omega
          | true =>
            rw [hx] at hlit
            have hx' := (isLit_iff x).1 hx
            have habs := Abs_any x w (by omega) (by omega)
            have HS2 : Hid (rowMax g (zs.take (j + 1)) = max m (vr x)) := by show _ = _; rw [HS.out]; simp [litMax, hx]
            clear hx
            generalize vr x = v at *
            by_cases hmv : m < v
            · have HS3 : Hid (rowMax g (zs.take (j + 1)) = v) := by show _ = _; rw [HS2.out]; omega
              go_wp2_with (first | (go_at_call 25; refine hlit.mono ?_; rintro e w' ⟨rfl, rfl⟩) | (go_at_call 26; refine habs.mono ?_; rintro e w' ⟨rfl, rfl⟩))
              go_round
              case rel => exact ⟨j + 1, by omega, by go_num, by rw [HS3.out]⟩
              case measure => simp [intOf]; omega
            · have HS3 : Hid (rowMax g (zs.take (j + 1)) = m) := by show _ = _; rw [HS2.out]; omega
              have hd : decide (m < v) = false := by simpa using hmv
              go_wp2_with (first | (go_at_call 25; refine hlit.mono ?_; rintro e w' ⟨rfl, rfl⟩) | (go_at_call 26; refine habs.mono ?_; rintro e w' ⟨rfl, rfl⟩))
              go_round
              case rel => exact ⟨j + 1, by omega, by go_num, by rw [HS3.out]⟩
              case measure => simp [intOf]; omega
        · have hjz : ¬ (j : Int) < (zs.length : Int) := by omega
          have HS : Hid (rowMax g (zs.take j) = greatest ((rs.map Row.zs).take (k + 1))) := by show _ = _; rw [HT.out, List.take_of_length_le (by omega)]
          go_wp2
          go_round
          case rel => exact ⟨k + 1, by omega, by go_num, by rw [HS.out]⟩
          case measure => simp [intOf]; omega
    · have hltz : ¬ (k : Int) < (rs.length : Int) := by omega
      have HO : Hid (greatest ((rs.map Row.zs).take k) = greatest (rs.map Row.zs)) := by show _ = _; rw [List.take_of_length_le (by simpa using Nat.le_of_not_lt hlt)]
      go_wp2
      go_ret
      exact ⟨ret_int HO.out, rfl⟩

/-- Aren't there too many clauses, or too great ones? -/
def okB (v : Int) (c : List Int) : Bool := decide (c.length ≤ 30) && decide (greatest [c] ≤ v)
def smallB (cs : List (List Int)) (n v : Int) : Bool := decide ((cs.length : Int) ≤ n) && cs.all (okB v)

theorem RowsIn.one {w : World} {b off : Nat} {rs : List Row} (h : RowsIn w (some ⟨b, off, none⟩) rs) {k : Nat} (hk : k < rs.length) : RowsIn w (some ⟨b, off + k, none⟩) [rs[k]!] := by
  obtain ⟨b', off', e, hb, hc⟩ := h.row.pos hk
  simp only [Option.some.injEq, Addr.mk.injEq, and_true] at e
  obtain ⟨rfl, rfl⟩ := e
  refine ⟨Or.inr ⟨b, off + k, rfl, hb, fun j hj => ?_⟩, fun r hr => ?_, fun r hr => ?_⟩
  · have hj0 : j = 0 := by simpa using hj
    subst hj0
    exact hc k hk
  · rw [List.mem_singleton.1 hr]; exact h.each _ (getElem!_mem hk)
  · rw [List.mem_singleton.1 hr]; exact h.small _ (getElem!_mem hk)

set_option maxHeartbeats 4000000 in
theorem Small_any (a : Option Addr) (c : Nat) (rs : List Row) (n v : Int) (w : World) (hr : RowsIn w a rs) (hlc : rs.length ≤ c) (hc48 : c ≤ 9223372036854775807) :
    Calls Tryd.prog 8 #[.slice a rs.length c, .int .i64 n, .int .i64 v] w fun e w' => e = .returned (.bool (smallB (rs.map Row.zs) n v)) ∧ w = w' := by
  by_cases hn : (rs.length : Int) ≤ n
  · have hnz : ¬ n < (rs.length : Int) := by omega
    have HNN : Hid (smallB (rs.map Row.zs) n v = rs.all fun r => okB v r.zs) := by
      show _ = _; unfold smallB; rw [List.length_map, List.all_map]; simp [hn]; rfl
    have hnd : decide (n < (rs.length : Int)) = false := by simpa using hn
    go_enter Tryd.func8, Tryd.ntmps8
    go_wp2
    go_loop [7] (fun i => ∃ k : Nat, k ≤ rs.length ∧ i = .int .i64 k ∧ Hid (∀ j, j < k → okB v rs[j]!.zs = true)) (fun i => rs.length - (intOf i).toNat)
    case atStart => exact ⟨0, Nat.zero_le _, rfl, fun j hj => absurd hj (Nat.not_lt_zero _)⟩
    case round =>
      obtain ⟨k, hk, rfl, HA⟩ := hrel
      by_cases hlt : k < rs.length
      · have hltz : (k : Int) < (rs.length : Int) := by omega
        obtain ⟨b, off, rfl, hb, hc⟩ := hr.row.pos hlt
        have c1 : w.cell? ⟨b, off + k, none⟩ = some (.slice rs[k]!.a rs[k]!.zs.length rs[k]!.c) := hc k hlt
        have hg := fun cc => RefGreatest_any (some ⟨b, off + k, none⟩) cc [rs[k]!] w (hr.one hlt) (by simp)
        have hgb := greatest_bd [rs[k]!.zs]
        have hll := hr.small rs[k]! (getElem!_mem hlt)
        have HNO : Hid (okB v rs[k]!.zs = false → smallB (rs.map Row.zs) n v = false) := fun h => by
          rw [HNN.out]; exact all_not (p := fun r : Row => okB v r.zs) hlt h
        have HYES : Hid (okB v rs[k]!.zs = true → ∀ j, j < k + 1 → okB v rs[j]!.zs = true) := fun h j hj => by
          by_cases e : j = k
          · subst e; exact h
          · exact HA.out j (by omega)
        have HOK : Hid (okB v rs[k]!.zs = (decide (rs[k]!.zs.length ≤ 30) && decide (greatest [rs[k]!.zs] ≤ v))) := rfl
        clear hc hr
        simp only [List.map_cons, List.map_nil, List.length_cons, List.length_nil, Nat.zero_add] at hg
        generalize greatest [rs[k]!.zs] = gg at *
        generalize rs[k]! = r at *
        by_cases h30 : r.zs.length ≤ 30
        · have h30z : ¬ (30 : Int) < (r.zs.length : Int) := by omega
          have h30d : decide ((30 : Int) < (r.zs.length : Int)) = false := by rw [decide_eq_false_iff_not]; exact h30z
          by_cases hv : gg ≤ v
          · have HA2 := Lib.hid (HYES.out (by rw [HOK.out]; simp [h30, hv]))
            have hvd : decide (v < gg) = false := by simpa using hv
            go_wp2_with (go_at_call 11; refine (hg _).mono ?_; rintro e w' ⟨rfl, rfl⟩)
            go_round
            case rel => exact ⟨k + 1, by omega, by go_num, HA2.out⟩
            case measure => simp [intOf]; omega
          · have HO := Lib.hid (HNO.out (by rw [HOK.out]; simp [hv]))
            have hvz : v < gg := by omega
            go_wp2_with (go_at_call 11; refine (hg _).mono ?_; rintro e w' ⟨rfl, rfl⟩)
            go_ret
            exact ⟨ret_bool HO.out.symm, rfl⟩
        · have h30z : (30 : Int) < (r.zs.length : Int) := by omega
          have HO := Lib.hid (HNO.out (by rw [HOK.out]; simp [h30]))
          go_wp2_with fail
          go_ret
          exact ⟨ret_bool HO.out.symm, rfl⟩
      · have hltz : ¬ (k : Int) < (rs.length : Int) := by omega
        have HO : Hid (smallB (rs.map Row.zs) n v = true) := by
          rw [HNN.out]; exact all_of (p := fun r : Row => okB v r.zs) fun j hj => HA.out j (by omega)
        go_wp2
        go_ret
        exact ⟨ret_bool HO.out.symm, rfl⟩
  · have hnz : n < (rs.length : Int) := by omega
    have HO : Hid (smallB (rs.map Row.zs) n v = false) := by show _ = _; unfold smallB; rw [List.length_map]; simp [hn]
    go_enter Tryd.func8, Tryd.ntmps8
    go_wp2
    go_ret
    exact ⟨ret_bool HO.out.symm, rfl⟩
end Go.Proofs.YthpamogomfleoaaDoor.Cl
