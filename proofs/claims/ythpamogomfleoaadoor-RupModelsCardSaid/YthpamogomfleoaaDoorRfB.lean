/- The contract of the document's own unit propagation (weirgateref03.Conflict). -/
import Derived.Test.YthpamogomfleoaaDoorRfA
import Derived.Deep.AppendLies
namespace Go.Proofs.YthpamogomfleoaaDoor.Cl
open Go Go.RowKit Go.Lib Go.Proofs.YthpamogomfleoaaDoor.Up

/-- A row through which nothing follows yet. -/
def Shut (so c : List Int) : Prop := (∃ x ∈ c, x ∈ so) ∨ ∃ x ∈ c, ∃ y ∈ c, x ≠ y ∧ Und so x ∧ Und so y

theorem take_snoc {zs : List Int} {k : Nat} (h : k < zs.length) : zs.take (k + 1) = zs.take k ++ [zs[k]!] := take_succ! h

/-- What Conflict answers. -/
def Conf (w : World) (cs : List (List Int)) (so : List Int) (e : Ending) (w' : World) : Prop := ∃ r, e = .returned (.bool r) ∧ (r = true ↔ Bad cs so) ∧ Below w.heap.size w w'

def Lits (zs : List Int) : Prop := ∀ z ∈ zs, -100000 ≤ z ∧ z ≤ 100000

set_option maxHeartbeats 8000000 in
set_option maxRecDepth 100000 in
theorem Conflict_any : ∀ (N : Nat) (so : List Int) (b : Option Addr) (d : Nat) (w : World) (a : Option Addr) (c : Nat) (rs : List Row), RowsIn w a rs → rs.length ≤ 1000000000 → (∀ r ∈ rs, Lits r.zs ∧ r.zs.length ≤ r.c) → RowIn (Value.int .i64) w b so → (b = none → d = 0) → Lits so →
    room (rs.map Row.zs) so < N → so.length + N ≤ 1000000000 →
    Calls Tryd.prog 47 #[.slice a rs.length c, .slice b so.length d] w (Conf w (rs.map Row.zs) so) := by
  intro N
  induction N with
  | zero => intro so b d w a c rs _ _ _ _ _ _ h; omega
  | succ N ih =>
    intro so b d w a c rs hrs hrl hrz hso hd hlso hroom hlen
    have IH := Lib.hid ih
    have HRS := Lib.hid hrs
    have HRZ := Lib.hid hrz
    have HSO := Lib.hid hso
    have HD := Lib.hid hd
    have HLS := Lib.hid hlso
    have HRM := Lib.hid hroom
    obtain ⟨ii, hi, hz0, hz1, hz2⟩ := info_parts info_int
    have HIN : Hid (∀ x W, Below w.heap.size w W → Calls Tryd.prog 72 #[.int .i64 x, .slice b so.length d] W fun e w' => e = .returned (.bool (inB x so)) ∧ W = w') := fun x W hB => In_any x b d so W (hso.below hB) (by omega)
    clear ih hrs hrz hso hd hlso hroom
    go_enter Tryd.func47, Tryd.ntmps47
    go_wp2_with fail
    go_loopw [5] (fun iv wr => ∃ k : Nat, iv = .int .i64 (k : Int) ∧ k ≤ so.length ∧ Hid (∀ j, j < k → -so[j]! ∉ so) ∧ w = wr) (fun iv _ => so.length - (intOf iv).toNat)
    case atStart => exact ⟨0, rfl, Nat.zero_le _, fun j hj => absurd hj (by omega), rfl⟩
    case round =>
      obtain ⟨k, rfl, hk, HA, hw⟩ := hrel
      subst hw
      by_cases hlt : k < so.length
      · have hltz : (k : Int) < (so.length : Int) := by omega
        obtain ⟨bb, off, hb, _, hc⟩ := HSO.out.pos hlt
        have ck := hc k hlt
        have hz := HLS.out _ (getElem!_mem hlt)
        have HI := Lib.hid (HIN.out (-so[k]!) w (Below.refl _ _))
        have HM : Hid (so[k]! ∈ so) := getElem!_mem hlt
        have hcase : inB (-so[k]!) so = true ∨ inB (-so[k]!) so = false := by cases inB (-so[k]!) so <;> simp
        have HE : Hid (∀ x, x = so[k]! → x = so[k]!) := fun _ h => h
        rcases hcase with q | q
        · have HB : Hid (Bad (rs.map Row.zs) so) := bad_pair HM.out ((inB_iff _ _).1 q)
          rw [q] at HI
          clear q hc
          subst hb
          generalize so[k]! = x at *
          go_wp2_with fail
          refine HI.out.mono ?_
          rintro e w' ⟨rfl, rfl⟩
          go_wp2_with fail
          go_ret
          exact ⟨true, rfl, ⟨fun _ => HB.out, fun _ => rfl⟩, Below.refl _ _⟩
        · have HA2 : Hid (∀ j, j < k + 1 → -so[j]! ∉ so) := fun j hj => by
            by_cases e : j = k
            · subst e; intro z; rw [(inB_iff _ _).2 z] at q; cases q
            · exact HA.out j (by omega)
          rw [q] at HI
          clear q hc HM HE
          subst hb
          generalize so[k]! = x at *
          go_wp2_with fail
          refine HI.out.mono ?_
          rintro e w' ⟨rfl, rfl⟩
          go_wp2_with fail
          go_roundw
          case rel => exact ⟨k + 1, by go_num, by omega, HA2, by first | rfl | trivial⟩
          case measure => simp [intOf]; omega
      · obtain rfl : k = so.length := by omega
        have hltz : ¬ (so.length : Int) < (so.length : Int) := by omega
        have HP : Hid (∀ l ∈ so, -l ∉ so) := by
          intro l hl
          obtain ⟨j, hj, rfl⟩ := List.mem_iff_getElem.1 hl
          have := HA.out j hj
          rwa [getElem!_pos so j hj] at this
        clear HA
        go_wp2_with fail
        go_loopw [6] (fun iv wr => ∃ i : Nat, iv = .int .i64 (i : Int) ∧ i ≤ rs.length ∧ Hid (∀ j, j < i → Shut so rs[j]!.zs) ∧ w = wr) (fun iv _ => rs.length - (intOf iv).toNat)
        case atStart => exact ⟨0, rfl, Nat.zero_le _, fun j hj => absurd hj (by omega), by first | rfl | trivial⟩
        case round =>
          obtain ⟨i, rfl, hi2, HS, hw⟩ := hrel
          subst hw
          by_cases hlt2 : i < rs.length
          · have hltz2 : (i : Int) < (rs.length : Int) := by omega
            obtain ⟨ab, aoff, rfl, _, hca⟩ := HRS.out.row.pos hlt2
            have ci := hca i hlt2
            have hmem : rs[i]! ∈ rs := getElem!_mem hlt2
            have HROW : Hid (RowIn (Value.int .i64) w rs[i]!.a rs[i]!.zs) := HRS.out.each _ hmem
            have HLZ : Hid (Lits rs[i]!.zs) := (HRZ.out _ hmem).1
            have hlc := (HRZ.out _ hmem).2
            have hz63 := HRS.out.small _ hmem
            have HCS : Hid (rs[i]!.zs ∈ rs.map Row.zs) := List.mem_map.2 ⟨_, hmem, rfl⟩
            have HNX : Hid (Shut so rs[i]!.zs → ∀ j, j < i + 1 → Shut so rs[j]!.zs) := by
              intro q j hj
              by_cases e : j = i
              · subst e; exact q
              · exact HS.out j (by omega)
            clear hca hmem HS
            unfold Row.val at ci
            generalize rs[i]! = R at *
            obtain ⟨ra, rc, zs⟩ := R
            simp only at ci hlc hz63 HROW HLZ HCS HNX
            go_wp2_with fail
            go_loopw [7, 8, 9, 10] (fun ov lv hv kv wr => ∃ (k op : Nat) (last : Int) (hold : Bool), ov = .int .i64 (op : Int) ∧ lv = .int .i64 last ∧ hv = .bool hold ∧ kv = .int .i64 (k : Int) ∧ k ≤ zs.length ∧ op ≤ k ∧ Hid (Opn so (zs.take k) op last ∧ (hold = true ↔ ∃ x ∈ zs.take k, x ∈ so)) ∧ w = wr) (fun _ _ _ kv _ => zs.length - (intOf kv).toNat)
            case atStart => exact ⟨0, 0, 0, false, rfl, rfl, rfl, rfl, Nat.zero_le _, Nat.le_refl _, ⟨Opn.nil so, by simp⟩, by first | rfl | trivial⟩
            case round =>
              obtain ⟨k, op, last, hold, rfl, rfl, rfl, rfl, hk2, hop, HO, hw⟩ := hrel
              subst hw
              by_cases hlt3 : k < zs.length
              · have hltz3 : (k : Int) < (zs.length : Int) := by omega
                have k0 : (0 : Int) ≤ (k : Int) := by omega
                have kc : (k : Int) ≤ (rc : Int) := by omega
                obtain ⟨rb, roff, rfl, _, hcr⟩ := HROW.out.pos hlt3
                have ck := hcr k hlt3
                have hlz := HLZ.out _ (getElem!_mem hlt3)
                have H1 := Lib.hid (HIN.out zs[k]! w (Below.refl _ _))
                have H2 := Lib.hid (HIN.out (-zs[k]!) w (Below.refl _ _))
                have h3 := In_any zs[k]! _ rc (zs.take k) w (HROW.out.take k) (by rw [List.length_take]; omega)
                rw [List.length_take, Nat.min_eq_left (by omega)] at h3
                have H3 := Lib.hid h3
                have HST : Hid (zs.take (k + 1) = zs.take k ++ [zs[k]!]) := take_snoc hlt3
                clear h3 hcr
                have c1 : inB zs[k]! so = true ∨ inB zs[k]! so = false := by cases inB zs[k]! so <;> simp
                have c2 : inB (-zs[k]!) so = true ∨ inB (-zs[k]!) so = false := by cases inB (-zs[k]!) so <;> simp
                have c3 : inB zs[k]! (zs.take k) = true ∨ inB zs[k]! (zs.take k) = false := by cases inB zs[k]! (zs.take k) <;> simp
                generalize zs[k]! = l at *
                rcases c1 with q1 | q1
                · have HO2 : Hid (Opn so (zs.take (k + 1)) op last) := by
                    rw [Hid, HST.out]; exact HO.out.1.skip (Or.inl fun q => q.1 ((inB_iff _ _).1 q1))
                  have HT : Hid (∃ x ∈ zs.take (k + 1), x ∈ so) := by
                    rw [HST.out]; exact ⟨l, by simp, (inB_iff _ _).1 q1⟩
                  rw [q1] at H1
                  clear q1 c2 c3
                  go_wp2_with fail
                  refine H1.out.mono ?_
                  rintro e w' ⟨rfl, rfl⟩
                  go_wp2_with fail
                  go_roundw
                  case rel => exact ⟨k + 1, op, last, true, rfl, rfl, rfl, by go_num, by omega, by omega, ⟨HO2.out, fun _ => HT.out, fun _ => rfl⟩, by first | rfl | trivial⟩
                  case measure => simp [intOf]; omega
                · have HN1 : Hid (l ∉ so) := fun z => by rw [(inB_iff _ _).2 z] at q1; cases q1
                  have HH : Hid (hold = true ↔ ∃ x ∈ zs.take (k + 1), x ∈ so) := by
                    rw [HST.out]
                    refine HO.out.2.trans ⟨fun ⟨x, x1, x2⟩ => ⟨x, List.mem_append_left _ x1, x2⟩, fun ⟨x, x1, x2⟩ => ?_⟩
                    rcases List.mem_append.1 x1 with z | z
                    · exact ⟨x, z, x2⟩
                    · obtain rfl := List.mem_singleton.1 z
                      exact absurd x2 HN1.out
                  rw [q1] at H1
                  clear q1
                  rcases c2 with q2 | q2
                  · have HO2 : Hid (Opn so (zs.take (k + 1)) op last) := by
                      rw [Hid, HST.out]; exact HO.out.1.skip (Or.inl fun q => q.2 ((inB_iff _ _).1 q2))
                    rw [q2] at H2
                    clear q2 c3
                    go_wp2_with fail
                    refine H1.out.mono ?_
                    rintro e w' ⟨rfl, rfl⟩
                    go_wp2_with fail
                    refine H2.out.mono ?_
                    rintro e w' ⟨rfl, rfl⟩
                    go_wp2_with fail
                    go_roundw
                    case rel => exact ⟨k + 1, op, last, hold, rfl, rfl, rfl, by go_num, by omega, by omega, ⟨HO2.out, HH.out⟩, by first | rfl | trivial⟩
                    case measure => simp [intOf]; omega
                  · have HN2 : Hid (-l ∉ so) := fun z => by rw [(inB_iff _ _).2 z] at q2; cases q2
                    rw [q2] at H2
                    clear q2
                    rcases c3 with q3 | q3
                    · have HO2 : Hid (Opn so (zs.take (k + 1)) op last) := by
                        rw [Hid, HST.out]; exact HO.out.1.skip (Or.inr ((inB_iff _ _).1 q3))
                      rw [q3] at H3
                      clear q3
                      go_wp2_with fail
                      refine H1.out.mono ?_
                      rintro e w' ⟨rfl, rfl⟩
                      go_wp2_with fail
                      refine H2.out.mono ?_
                      rintro e w' ⟨rfl, rfl⟩
                      go_wp2_with fail
                      refine H3.out.mono ?_
                      rintro e w' ⟨rfl, rfl⟩
                      go_wp2_with fail
                      go_roundw
                      case rel => exact ⟨k + 1, op, last, hold, rfl, rfl, rfl, by go_num, by omega, by omega, ⟨HO2.out, HH.out⟩, by first | rfl | trivial⟩
                      case measure => simp [intOf]; omega
                    · have HO2 : Hid (Opn so (zs.take (k + 1)) (op + 1) l) := by
                        rw [Hid, HST.out]; exact HO.out.1.take ⟨HN1.out, HN2.out⟩ (fun z => by rw [(inB_iff _ _).2 z] at q3; cases q3)
                      rw [q3] at H3
                      clear q3
                      go_wp2_with fail
                      refine H1.out.mono ?_
                      rintro e w' ⟨rfl, rfl⟩
                      go_wp2_with fail
                      refine H2.out.mono ?_
                      rintro e w' ⟨rfl, rfl⟩
                      go_wp2_with fail
                      refine H3.out.mono ?_
                      rintro e w' ⟨rfl, rfl⟩
                      go_wp2_with fail
                      go_roundw
                      case rel => exact ⟨k + 1, op + 1, l, hold, by go_num, rfl, rfl, by go_num, by omega, by omega, ⟨HO2.out, HH.out⟩, by first | rfl | trivial⟩
                      case measure => simp [intOf]; omega
              · obtain rfl : k = zs.length := by omega
                have hltz3 : ¬ (zs.length : Int) < (zs.length : Int) := by omega
                have HO3 : Hid (Opn so zs op last ∧ (hold = true ↔ ∃ x ∈ zs, x ∈ so)) := by
                  have := HO.out; rwa [List.take_length] at this
                clear HO
                have ch : hold = true ∨ (hold = false ∧ 1 < op) ∨ (hold = false ∧ op = 0) ∨ (hold = false ∧ op = 1) := by cases hold <;> simp <;> omega
                rcases ch with e | ⟨e, e2⟩ | ⟨e, e2⟩ | ⟨e, e2⟩
                · subst e
                  have HS2 := Lib.hid (HNX.out (Or.inl (HO3.out.2.1 rfl)))
                  clear HO3
                  go_wp2_with fail
                  go_roundw
                  case rel => exact ⟨i + 1, by go_num, by omega, HS2, by first | rfl | trivial⟩
                  case measure => simp [intOf]; omega
                · subst e
                  have HS2 : Hid (∀ j, j < i + 1 → Shut so rs[j]!.zs) := by
                    refine HNX.out (Or.inr ?_)
                    rcases HO3.out.1 with ⟨z, _⟩ | ⟨z, _⟩ | ⟨_, z⟩
                    · omega
                    · omega
                    · exact z
                  have e2z : (1 : Int) < (op : Int) := by omega
                  clear HO3
                  go_wp2_with fail
                  go_roundw
                  case rel => exact ⟨i + 1, by go_num, by omega, HS2, by first | rfl | trivial⟩
                  case measure => simp [intOf]; omega
                · subst e
                  subst e2
                  have HB : Hid (Bad (rs.map Row.zs) so) := by
                    refine bad_empty HCS.out fun x hx => ?_
                    rcases HO3.out.1 with ⟨_, z⟩ | ⟨z, _⟩ | ⟨z, _⟩
                    · refine und_not (z x hx) fun q => ?_
                      have := HO3.out.2.2 ⟨x, hx, q⟩
                      cases this
                    · omega
                    · omega
                  clear HO3
                  go_wp2_with fail
                  go_ret
                  exact ⟨true, rfl, ⟨fun _ => HB.out, fun _ => rfl⟩, Below.refl _ _⟩
                · subst e
                  subst e2
                  have HL : Hid (last ∈ zs ∧ Und so last ∧ ∀ x ∈ zs, x ≠ last → -x ∈ so) := by
                    rcases HO3.out.1 with ⟨z, _⟩ | ⟨_, z1, z2, z3⟩ | ⟨z, _⟩
                    · omega
                    · refine ⟨z1, z2, fun x hx hne => und_not (fun q => hne (z3 x hx q)) fun q => ?_⟩
                      have := HO3.out.2.2 ⟨x, hx, q⟩
                      cases this
                    · omega
                  have HB : Hid (Bad (rs.map Row.zs) (so ++ [last]) ↔ Bad (rs.map Row.zs) so) := bad_unit HCS.out HL.out.1 HL.out.2.2
                  have HRM2 : Hid (room (rs.map Row.zs) (so ++ [last]) < N) := by
                    have := room_lt HCS.out HL.out.1 HL.out.2.1.1
                    have := HRM.out
                    show _ < _
                    omega
                  have HLS2 : Hid (Lits (so ++ [last])) := by
                    intro z hz
                    rcases List.mem_append.1 hz with q | q
                    · exact HLS.out z q
                    · obtain rfl := List.mem_singleton.1 q
                      exact HLZ.out _ HL.out.1
                  clear HO3
                  go_wp2_with (at_builtin; refine wpList_append_row (Value.int .i64) rfl (.tmp 77) (.tmp 78) 23 rfl w.heap.size 3 ii (.int .i64 0) 8 Tryd.underlying23 hi hz0 hz1 hz2 rfl _ 0 [] rfl (World.ownsRow_made w #[] 0 (Nat.le_refl _) (Nat.zero_le _) (by simp)) b d so so.length rfl rfl (HSO.out.below ((Below.refl _ _).alloc (Nat.le_refl _) _)) HD.out (fun _ => rfl) (by unfold maxLen; omega) (by omega) (by simp) ?_)
                  · intro v1 w1 hown1 hgrow1
                    have hB1 : Below w.heap.size w w1 := ((Below.refl _ _).alloc (Nat.le_refl _) _).grown hgrow1 (by simp) (fun k hk => by simp [Value.ownBlock] at hk; omega)
                    have HB1 := Lib.hid hB1
                    have HO1 := Lib.hid hown1
                    clear hown1 hgrow1 hB1
                    go_wp2_with (at_builtin; refine wpList_append_lies _ rfl (.tmp 79) (.tmp 81) 23 rfl w.heap.size 3 ii (.int .i64 0) 1 8 Tryd.underlying23 hi hz0 hz1 hz2 rfl (by decide) _ _ _ rfl (HO1.out.alloc _) ⟨w1.heap.size, 0, none⟩ 1 1 [.int .i64 last] rfl rfl ?c1 ?c2 (by decide) ?c3 ?c4 ?c5 (w1.heap.size + 1) (by simp) ?_)
                    case c1 =>
                      intro q u hq
                      match q, hq with
                      | 0, hq => simp at hq; subst hq; simp [Addr.add]
                    case c2 => intro u hu; simp at hu; subst hu; rfl
                    case c3 => unfold maxLen; omega
                    case c4 => omega
                    case c5 => have := HB1.out.size; simp; omega
                    · intro g cap w2 hown2 hgrow2 _ _
                      have hB2 : Below w.heap.size w w2 := (HB1.out.alloc HB1.out.size _).grown hgrow2 (by have := HB1.out.size; simp; omega) (fun k hk => (HO1.out.lt k hk).1)
                      have hrow : RowIn (Value.int .i64) w2 (some ⟨g, 0, none⟩) (so ++ [last]) := own_row hown2 (by simp) (by simp)
                      have hcf := IH.out (so ++ [last]) (some ⟨g, 0, none⟩) cap w2 _ c rs (HRS.out.below hB2) hrl HRZ.out hrow (fun q => by cases q) HLS2.out HRM2.out (by simp; omega)
                      rw [List.length_append, List.length_singleton] at hcf
                      have HCF := Lib.hid hcf
                      have HB2 := Lib.hid hB2
                      clear hown2 hgrow2 hB2 hrow hcf
                      try simp only [Nat.zero_add]
                      go_wp2_with fail
                      refine HCF.out.mono ?_
                      rintro e w3 ⟨r, rfl, h3, hB3⟩
                      have HR3 := Lib.hid (And.intro h3 hB3)
                      clear h3 hB3
                      go_wp2_with fail
                      go_ret
                      exact ⟨r, rfl, HR3.out.1.trans HB.out, HB2.out.trans (HR3.out.2.mono HB2.out.size)⟩
          · obtain rfl : i = rs.length := by omega
            have hltz2 : ¬ (rs.length : Int) < (rs.length : Int) := by omega
            have HB : Hid (¬ Bad (rs.map Row.zs) so) := by
              refine bad_closed HP.out fun c hc => ?_
              obtain ⟨r, hr, rfl⟩ := List.mem_map.1 hc
              obtain ⟨j, hj, rfl⟩ := List.mem_iff_getElem.1 hr
              have := HS.out j hj
              rwa [getElem!_pos rs j hj] at this
            go_wp2_with fail
            go_ret
            exact ⟨false, rfl, ⟨fun q => by (cases q), fun q => absurd q HB.out⟩, Below.refl _ _⟩
end Go.Proofs.YthpamogomfleoaaDoor.Cl
