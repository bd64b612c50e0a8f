/- Contracts of clause.All, clause.Greatest, and of Show's closure. -/
import Derived.Test.YthpamogomfleoaaDoorClC
namespace Go.Proofs.YthpamogomfleoaaDoor.Cl
open Go Go.RowKit Go.Lib

theorem enters_all : ∀ args w, (callFunc 51 args).run Tryd.prog w = .ok (.enter 51 args) w := enters_of Tryd.func51 (by kernel_rfl) rfl

set_option maxHeartbeats 1000000 in
theorem all_gives (B : Nat) (ma : Option Addr) (mc : Nat) (m : List Bool) (W : World) (hc : W.cell? ⟨B, 0, none⟩ = some (.slice ma m.length mc)) (hb : RowIn Value.bool W ma m) (r : Row) (hr : RowIn (Value.int .i64) W r.a r.zs) (hl : r.zs.length ≤ 9223372036854775807) :
    Calls Tryd.prog 51 (#[r.val] ++ #[.pointer (some ⟨B, 0, none⟩)]) W fun e w' => e = .returned (.bool (!holdsB r.zs m)) ∧ Below W.heap.size W w' := by
  have HH := Lib.hid (Holds_any r.a r.c r.zs ma mc m W hr hl hb)
  unfold Row.val
  generalize holdsB r.zs m = x at *
  clear hb hr hl
  go_enter Tryd.func51, Tryd.ntmps51
  go_wp2_with (go_at_call 29; refine HH.out.mono ?_; rintro e w' ⟨rfl, hb⟩)
  go_ret
  exact ⟨rfl, hb⟩

theorem allB_not_any (rs : List Row) (m : List Bool) : (!(rs.any fun r => !holdsB r.zs m)) = allB (rs.map Row.zs) m := by
  unfold allB
  rw [← List.all_eq_not_any_not, List.all_map]
  rfl

set_option maxHeartbeats 1000000 in
theorem All_any (a : Option Addr) (c : Nat) (rs : List Row) (ma : Option Addr) (mc : Nat) (m : List Bool) (w : World) (hr : RowsIn w a rs) (hl : rs.length ≤ 9223372036854775807) (hb : RowIn Value.bool w ma m) :
    Calls Tryd.prog 30 #[.slice a rs.length c, .slice ma m.length mc] w fun e w' => e = .returned (.bool (allB (rs.map Row.zs) m)) ∧ Below w.heap.size w w' := by
  have hA : Below w.heap.size w (w.alloc (.cells #[.slice ma m.length mc] 29)) := (Below.refl _ _).alloc (Nat.le_refl _) _
  have hp : PredRows 51 #[.pointer (some ⟨w.heap.size, 0, none⟩)] (fun r => !holdsB r.zs m) rs (w.alloc (.cells #[.slice ma m.length mc] 29)) := by
    intro W hW r hm
    have hW' : Below w.heap.size w W := hA.trans (hW.mono (by simp))
    exact all_gives w.heap.size ma mc m W ((hW.cell (p := ⟨w.heap.size, 0, none⟩) (by simp)).trans (by simp)) (hb.below hW') r ((hr.each r hm).below hW') (hr.small r hm)
  have HC := Lib.hid (ContainsFunc_rows 51 #[.pointer (some ⟨w.heap.size, 0, none⟩)] enters_all a c (fun r => !holdsB r.zs m) rs _ (hr.row.below hA) hl hp)
  rw [← allB_not_any]
  clear hr hb hp
  generalize (rs.any fun r => !holdsB r.zs m) = x at *
  go_enter Tryd.func30, Tryd.ntmps30
  go_wp2_with (go_at_call 33; refine HC.out.mono ?_; rintro e w' ⟨rfl, hb'⟩)
  go_ret
  exact ⟨rfl, hA.trans (hb'.mono (by simp))⟩

set_option maxHeartbeats 2000000 in
theorem Greatest_any (a : Option Addr) (c : Nat) (rs : List Row) (w : World) (hr : RowsIn w a rs) (hl : rs.length ≤ 9223372036854775807) :
    Calls Tryd.prog 38 #[.slice a rs.length c] w fun e w' => e = .returned (.int .i64 (greatest (rs.map Row.zs))) ∧ w = w' := by
  go_enter Tryd.func38, Tryd.ntmps38
  go_wp2
  go_loop [3, 10] (fun g i => ∃ k : Nat, k ≤ rs.length ∧ i = .int .i64 k ∧ g = .int .i64 (greatest ((rs.map Row.zs).take k))) (fun _ i => rs.length - (intOf i).toNat)
  case atStart => exact ⟨0, Nat.zero_le _, rfl, rfl⟩
  case round =>
    obtain ⟨k, hk, rfl, rfl⟩ := hrel
    by_cases hlt : k < rs.length
    · have hltz : (k : Int) < (rs.length : Int) := by omega
      obtain ⟨b, off, rfl, hb, hc⟩ := hr.row.pos hlt
      have c1 : w.cell? ⟨b, off + k, none⟩ = some (.slice rs[k]!.a rs[k]!.zs.length rs[k]!.c) := hc k hlt
      have hrow := hr.each rs[k]! (getElem!_mem hlt)
      have hll := hr.small rs[k]! (getElem!_mem hlt)
      have HT : Hid (greatest ((rs.map Row.zs).take (k + 1)) = rowMax (greatest ((rs.map Row.zs).take k)) rs[k]!.zs) := by
        show _ = _
        rw [take_succ! (by simpa using hlt), greatest_snoc, map_get! rs hlt]
      have hg := greatest_bd ((rs.map Row.zs).take k)
      clear hc hr
      generalize greatest ((rs.map Row.zs).take k) = g at *
      generalize rs[k]!.zs = zs at *
      generalize rs[k]!.a = ra at *
      generalize rs[k]!.c = rc at *
      go_wp2
      go_loop [3, 16] (fun g' i => ∃ j : Nat, j ≤ zs.length ∧ i = .int .i64 j ∧ g' = .int .i64 (rowMax g (zs.take j))) (fun _ i => zs.length - (intOf i).toNat)
      case atStart => exact ⟨0, Nat.zero_le _, rfl, rfl⟩
      case round =>
        obtain ⟨j, hj, rfl, rfl⟩ := hrel
        have hg2 := rowMax_bd (zs := zs.take j) hg.1 hg.2
        by_cases hjlt : j < zs.length
        · have hjz : (j : Int) < (zs.length : Int) := by omega
          obtain ⟨b', off', rfl, hb', hc'⟩ := hrow.pos hjlt
          have c2 := hc' j hjlt
          have HS : Hid (rowMax g (zs.take (j + 1)) = litMax (rowMax g (zs.take j)) zs[j]!) := by show _ = _; rw [take_succ! hjlt, rowMax_snoc]
          clear hc' hrow
          generalize rowMax g (zs.take j) = m at *
          generalize zs[j]! = x at *
          have hlit := isLiteral_any x w
          cases hx : isLit x with
          | false =>
            rw [hx] at hlit
            have HS2 : Hid (rowMax g (zs.take (j + 1)) = m) := by show _ = _; rw [HS.out]; simp [litMax, hx]
            clear hx
            go_wp2_with (go_at_call 36; refine hlit.mono ?_; rintro e w' ⟨rfl, rfl⟩)
            go_round
            case rel => exact ⟨j + 1, by omega, by go_num, by rw [HS2.out]⟩
            case measure => simp [intOf]; omega
          | true =>
            rw [hx] at hlit
            have hx' := (isLit_iff x).1 hx
            have hvar := variable_any x w (by omega) (by omega)
            have HS2 : Hid (rowMax g (zs.take (j + 1)) = max m (vr x)) := by show _ = _; rw [HS.out]; simp [litMax, hx]
            clear hx
            generalize vr x = v at *
            go_wp2_with (first | (go_at_call 36; refine hlit.mono ?_; rintro e w' ⟨rfl, rfl⟩) | (go_at_call 50; refine hvar.mono ?_; rintro e w' ⟨rfl, rfl⟩))
            go_round
            case rel => exact ⟨j + 1, by omega, by go_num, by rw [HS2.out]⟩
            case measure => simp [intOf]; omega
        · have hjz : ¬ (j : Int) < (zs.length : Int) := by omega
          have HS : Hid (rowMax g (zs.take j) = greatest ((rs.map Row.zs).take (k + 1))) := by show _ = _; rw [HT.out, List.take_of_length_le (by omega)]
          go_wp2
          go_round
          case rel => exact ⟨k + 1, by omega, by go_num, by rw [HS.out]⟩
          case measure => simp [intOf]; omega
    · have hltz : ¬ (k : Int) < (rs.length : Int) := by omega
      have HO : Hid (greatest ((rs.map Row.zs).take k) = greatest (rs.map Row.zs)) := by show _ = _; rw [List.take_of_length_le (by simpa using Nat.le_of_not_lt hlt)]
      go_wp2
      go_ret
      exact ⟨ret_int HO.out, rfl⟩
end Go.Proofs.YthpamogomfleoaaDoor.Cl
