/- The contract of the document's own Follows (weirgateref03.Follows). -/
import Derived.Test.YthpamogomfleoaaDoorRfB
namespace Go.Proofs.YthpamogomfleoaaDoor.Cl
open Go Go.RowKit Go.Lib Go.Proofs.YthpamogomfleoaaDoor.Up

def negs (zs : List Int) : List Int := zs.map fun x => -x
/-- What Follows says. -/
def Fol (cs : List (List Int)) (c : List Int) : Prop := (∀ d ∈ cs, rightB d = true) ∧ rightB c = true ∧ Bad cs (negs c)

/-- go's negation. -/
def negW (x : Int) : Int := if x = -9223372036854775808 then -9223372036854775808 else -x
theorem negW_map {zs : List Int} (h : Lits zs) : zs.map negW = negs zs := by
  unfold negs
  refine List.map_congr_left fun x hx => ?_
  unfold negW
  have := h x hx
  rw [if_neg (by omega)]
theorem lits_negs {zs : List Int} (h : Lits zs) : Lits (negs zs) := by
  intro z hz
  obtain ⟨x, hx, rfl⟩ := List.mem_map.1 hz
  have := h x hx
  omega

def FolE (w : World) (cs : List (List Int)) (c : List Int) (e : Ending) (w' : World) : Prop := ∃ r, e = .returned (.bool r) ∧ (r = true ↔ Fol cs c) ∧ Below w.heap.size w w'

theorem filter_le_length {α : Type} (p : α → Bool) (l : List α) : (l.filter p).length ≤ l.length := List.length_filter_le p l

set_option maxHeartbeats 8000000 in
set_option maxRecDepth 100000 in
theorem Follows_any (rs : List Row) (b : Option Addr) (d : Nat) (zs : List Int) (w : World) (a : Option Addr) (c : Nat) (hrs : RowsIn w a rs) (hrl : rs.length ≤ 1000000000) (hrz : ∀ r ∈ rs, r.zs.length ≤ r.c) (hr : RowIn (Value.int .i64) w b zs) (hz : ∀ z ∈ zs, -9223372036854775808 ≤ z ∧ z ≤ 9223372036854775807)
    (hn : zs.length + (rs.map Row.zs).flatten.length + 1 ≤ 1000000000) :
    Calls Tryd.prog 24 #[.slice a rs.length c, .slice b zs.length d] w (FolE w (rs.map Row.zs) zs) := by
  have HRS := Lib.hid hrs
  have HRZ := Lib.hid hrz
  have HR := Lib.hid hr
  have HZ := Lib.hid hz
  have HN := Lib.hid hn
  have hzl : zs.length ≤ 1000000000 := by omega
  obtain ⟨ii, hi, hz0, hz1, hz2⟩ := info_parts info_int
  clear hrs hrz hr hz hn
  go_enter Tryd.func24, Tryd.ntmps24
  go_wp2_with fail
  go_loopw [5] (fun iv wr => ∃ k : Nat, iv = .int .i64 (k : Int) ∧ k ≤ rs.length ∧ Hid (∀ j, j < k → rightB rs[j]!.zs = true) ∧ w = wr) (fun iv _ => rs.length - (intOf iv).toNat)
  case atStart => exact ⟨0, rfl, Nat.zero_le _, fun j hj => absurd hj (by omega), by first | rfl | trivial⟩
  case round =>
    obtain ⟨k, rfl, hk, HA, hw⟩ := hrel
    subst hw
    by_cases hlt : k < rs.length
    · have hltz : (k : Int) < (rs.length : Int) := by omega
      obtain ⟨ab, aoff, rfl, _, hca⟩ := HRS.out.row.pos hlt
      have ci := hca k hlt
      have hmem : rs[k]! ∈ rs := getElem!_mem hlt
      have HRT := Lib.hid (RefRight_any rs[k]!.a rs[k]!.c rs[k]!.zs w (HRS.out.each _ hmem) (HRS.out.small _ hmem))
      unfold Row.val at ci
      have hcase : rightB rs[k]!.zs = true ∨ rightB rs[k]!.zs = false := by cases rightB rs[k]!.zs <;> simp
      rcases hcase with q | q
      · have HA2 : Hid (∀ j, j < k + 1 → rightB rs[j]!.zs = true) := fun j hj => by
          by_cases e : j = k
          · subst e; exact q
          · exact HA.out j (by omega)
        rw [q] at HRT
        clear q hmem hca
        generalize rs[k]! = R at *
        go_wp2_with fail
        refine HRT.out.mono ?_
        rintro e w' ⟨rfl, rfl⟩
        go_wp2_with fail
        go_roundw
        case rel => exact ⟨k + 1, by go_num, by omega, HA2, by first | rfl | trivial⟩
        case measure => simp [intOf]; omega
      · have HF : Hid (¬ Fol (rs.map Row.zs) zs) := fun h => by
          have := h.1 _ (List.mem_map.2 ⟨_, hmem, rfl⟩)
          rw [q] at this; cases this
        rw [q] at HRT
        clear q hmem hca
        generalize rs[k]! = R at *
        go_wp2_with fail
        refine HRT.out.mono ?_
        rintro e w' ⟨rfl, rfl⟩
        go_wp2_with fail
        go_ret
        exact ⟨false, rfl, ⟨fun q => by (cases q), fun q => absurd q HF.out⟩, Below.refl _ _⟩
    · obtain rfl : k = rs.length := by omega
      have hltz : ¬ (rs.length : Int) < (rs.length : Int) := by omega
      have HALL : Hid (∀ r ∈ rs, rightB r.zs = true) := by
        intro r hr
        obtain ⟨j, hj, rfl⟩ := List.mem_iff_getElem.1 hr
        have := HA.out j hj
        rwa [getElem!_pos rs j hj] at this
      clear HA
      go_wp2_with fail
      go_loopw [6, 7] (fun ov iv wr => ∃ k : Nat, iv = .int .i64 (k : Int) ∧ k ≤ zs.length ∧ Hid (wr.ownsRow w.heap.size 3 1 ov k (((zs.take k).map negW).map (Value.int .i64)) ∧ Below w.heap.size w wr)) (fun _ iv _ => zs.length - (intOf iv).toNat)
      case atStart => exact ⟨0, rfl, Nat.zero_le _, World.ownsRow_nil _ _ _ _, Below.refl _ _⟩
      case round =>
        obtain ⟨k, rfl, hk, HO⟩ := hrel
        by_cases hlt : k < zs.length
        · have hltz2 : (k : Int) < (zs.length : Int) := by omega
          obtain ⟨bb, off, rfl, _, hc⟩ := (HR.out.below HO.out.2).pos hlt
          have ck := hc k hlt
          have hzk := HZ.out _ (getElem!_mem hlt)
          have HST : Hid (((zs.take (k + 1)).map negW).map (Value.int .i64) = ((zs.take k).map negW).map (Value.int .i64) ++ [.int .i64 (negW zs[k]!)]) := by
            rw [Hid, take_snoc hlt, List.map_append, List.map_append]; rfl
          have HOO := Lib.hid HO.out.1
          have HBB := Lib.hid HO.out.2
          clear hc HO
          have hneg : negW zs[k]! = if zs[k]! = -9223372036854775808 then -9223372036854775808 else -zs[k]! := rfl
          generalize zs[k]! = x at *
          by_cases hx : x = -9223372036854775808
          · subst hx
            rw [if_pos rfl] at hneg
            rw [hneg] at HST
            clear hneg
            have hw64 : wrap64 9223372036854775808 = -9223372036854775808 := by unfold wrap64; omega
            go_wp2_with (at_builtin; refine wpList_append_own _ rfl (.tmp 26) (.tmp 32) 23 rfl w.heap.size 3 ii (.int .i64 0) 1 8 Tryd.underlying23 hi hz0 hz1 hz2 rfl (by decide) _ _ _ rfl (HOO.out.alloc _) ⟨wr.heap.size, 0, none⟩ 1 1 [.int .i64 (-9223372036854775808)] rfl rfl ?e1 ?e2 ?e3 ?e4 ?e5 ?_)
            case e1 =>
              intro q u hq
              match q, hq with
              | 0, hq => simp at hq; subst hq; simp [Addr.add]
            case e2 => intro u hu; simp at hu; subst hu; rfl
            case e3 => unfold maxLen; omega
            case e4 => omega
            case e5 => have := HBB.out.size; simp; omega
            · intro v1 w1 hown1 hgrow1 _
              have HO2 : Hid (w1.ownsRow w.heap.size 3 1 v1 (k + 1) (((zs.take (k + 1)).map negW).map (Value.int .i64)) ∧ Below w.heap.size w w1) := by
                refine ⟨by rw [HST.out]; simpa [List.map_take] using hown1, ?_⟩
                exact (HBB.out.alloc HBB.out.size _).grown hgrow1 (by have := HBB.out.size; simp; omega) (fun q hq => (HOO.out.lt q hq).1)
              clear hown1 hgrow1
              go_wp2_with fail
              go_roundw
              case rel => exact ⟨k + 1, by go_num, by omega, HO2⟩
              case measure => simp [intOf]; omega
          · rw [if_neg hx] at hneg
            rw [hneg] at HST
            clear hneg
            have hx2 : -9223372036854775808 < x := by omega
            clear hx
            go_wp2_with (at_builtin; refine wpList_append_own _ rfl (.tmp 26) (.tmp 32) 23 rfl w.heap.size 3 ii (.int .i64 0) 1 8 Tryd.underlying23 hi hz0 hz1 hz2 rfl (by decide) _ _ _ rfl (HOO.out.alloc _) ⟨wr.heap.size, 0, none⟩ 1 1 [.int .i64 (-x)] rfl rfl ?c1 ?c2 ?c3 ?c4 ?c5 ?_)
            case c1 =>
              intro q u hq
              match q, hq with
              | 0, hq => simp at hq; subst hq; simp [Addr.add]
            case c2 => intro u hu; simp at hu; subst hu; rfl
            case c3 => unfold maxLen; omega
            case c4 => omega
            case c5 => have := HBB.out.size; simp; omega
            · intro v1 w1 hown1 hgrow1 _
              have HO2 : Hid (w1.ownsRow w.heap.size 3 1 v1 (k + 1) (((zs.take (k + 1)).map negW).map (Value.int .i64)) ∧ Below w.heap.size w w1) := by
                refine ⟨by rw [HST.out]; simpa [List.map_take] using hown1, ?_⟩
                exact (HBB.out.alloc HBB.out.size _).grown hgrow1 (by have := HBB.out.size; simp; omega) (fun q hq => (HOO.out.lt q hq).1)
              clear hown1 hgrow1
              go_wp2_with fail
              go_roundw
              case rel => exact ⟨k + 1, by go_num, by omega, HO2⟩
              case measure => simp [intOf]; omega
        · obtain rfl : k = zs.length := by omega
          have hltz2 : ¬ (zs.length : Int) < (zs.length : Int) := by omega
          have HRT := Lib.hid (RefRight_any b d zs wr (HR.out.below HO.out.2) (by omega))
          have hcase : rightB zs = true ∨ rightB zs = false := by cases rightB zs <;> simp
          rcases hcase with q | q
          · have HL : Hid (Lits zs) := rightB_bd q
            have HQ := Lib.hid q
            rw [q] at HRT
            clear q
            have hO := HO.out.1
            rw [List.take_length, negW_map HL.out] at hO
            obtain ⟨b2, d2, e2, hr2, hd2⟩ : ∃ b2 d2, u6 = .slice b2 (negs zs).length d2 ∧ RowIn (Value.int .i64) wr b2 (negs zs) ∧ (b2 = none → d2 = 0) := by
              rcases hO.2 with ⟨h1, h2⟩ | ⟨g, cap, cur, h1, h2, h3, h4⟩
              · have hnil : zs = [] := List.eq_nil_of_length_eq_zero h2
                subst hnil
                exact ⟨none, 0, h1, Or.inl rfl, fun _ => rfl⟩
              · refine ⟨some ⟨g, 0, none⟩, cap, by rw [h1]; simp [negs], own_row (h1 ▸ hO) rfl (by simp [negs]), fun q => by cases q⟩
            subst e2
            have hcf := Conflict_any (((rs.map Row.zs).flatten.length) + 1) (negs zs) b2 d2 wr a c rs (HRS.out.below HO.out.2) hrl (fun r hr => ⟨rightB_bd (HALL.out r hr), HRZ.out r hr⟩) hr2 hd2 (lits_negs HL.out)
              (Nat.lt_succ_of_le (filter_le_length _ _)) (by have := HN.out; rw [show (negs zs).length = zs.length by simp [negs]]; omega)
            have hneq : (negs zs).length = zs.length := by simp [negs]
            rw [hneq] at hcf
            rw [hneq]
            have HCF := Lib.hid hcf
            have HB := Lib.hid HO.out.2
            clear hO hr2 hcf hneq HO hd2
            go_wp2_with fail
            refine HRT.out.mono ?_
            rintro e w' ⟨rfl, rfl⟩
            go_wp2_with fail
            refine HCF.out.mono ?_
            rintro e w3 ⟨r, rfl, h3, hB3⟩
            have HR3 := Lib.hid (And.intro h3 hB3)
            clear h3 hB3
            go_wp2_with fail
            go_ret
            refine ⟨r, rfl, HR3.out.1.trans ⟨fun z => ⟨fun dd hdd => ?_, HQ.out, z⟩, fun z => z.2.2⟩, HB.out.trans (HR3.out.2.mono HB.out.size)⟩
            obtain ⟨rr, hrr, rfl⟩ := List.mem_map.1 hdd
            exact HALL.out rr hrr
          · have HF : Hid (¬ Fol (rs.map Row.zs) zs) := fun h => by
              have := h.2.1
              rw [q] at this; cases this
            rw [q] at HRT
            have HB := Lib.hid HO.out.2
            clear q HO
            go_wp2_with fail
            refine HRT.out.mono ?_
            rintro e w' ⟨rfl, rfl⟩
            go_wp2_with fail
            go_ret
            exact ⟨false, rfl, ⟨fun q => by (cases q), fun q => absurd q HF.out⟩, HB.out⟩
end Go.Proofs.YthpamogomfleoaaDoor.Cl
