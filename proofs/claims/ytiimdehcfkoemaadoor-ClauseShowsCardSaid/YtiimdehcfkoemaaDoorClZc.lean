/- The contract of the document's own Parse (weirgateref01.Parse). -/
import Derived.Test.YtiimdehcfkoemaaDoorClZb
namespace Go.Proofs.YtiimdehcfkoemaaDoor.Cl
open Go Go.RowKit Go.Lib Go.Sort

set_option maxHeartbeats 8000000 in
set_option maxRecDepth 100000 in
theorem RefParse_any (s : ByteArray) (w : World) (hs : s.size ≤ 9223372036854775807) :
    Calls Tryd.prog 24 #[.string s] w (Parsed s.data.toList w) := by
  have hln : s.data.toList.length = s.size := by rw [Array.length_toList]; rfl
  by_cases hbig : s.size ≤ 100000
  · have hbz : ¬ (100000 : Int) < (s.size : Int) := by omega
    have hbd : decide ((100000 : Int) < (s.size : Int)) = false := by rw [decide_eq_false_iff_not]; exact hbz
    have HP : Hid (parseR s.data.toList = parse2 (wordsL s.data.toList)) := by show _ = _; unfold parseR; rw [if_pos (by omega)]
    have HW := Lib.hid (refWords_any s w hbig)
    have hsz := word_size_le s.data.toList
    have hcnt : (wordsL s.data.toList).length ≤ 100001 := by
      have := words_count s.data.toList (splitL s.data.toList).length
      rw [List.take_length] at this
      have e : (wordsL s.data.toList).length = ((splitL s.data.toList).flatMap lineWords).length := rfl
      omega
    obtain ⟨R, hR⟩ : ∃ R, R = parseR s.data.toList := ⟨_, rfl⟩
    unfold Parsed
    rw [← hR]
    rw [← hR] at HP
    generalize wordsL s.data.toList = L at *
    have HSZ := Lib.hid hsz
    obtain ⟨i0, hi, hz0, hz1, hz2⟩ := info_parts info_int
    obtain ⟨i1, hj, hy0, hy1, hy2⟩ := info_parts info_ints
    clear hR hsz
    go_enter Tryd.func24, Tryd.ntmps24
    go_wp2_with fail
    refine HW.out.mono ?_
    rintro e w1 ⟨a, c, ws, rfl, hrow, hwl, hcap, hb1⟩
    have HROW := Lib.hid hrow
    have HWL := Lib.hid hwl
    have hwn : ws.length = L.length := by rw [← hwl, List.length_map]
    have HSW : Hid (∀ x ∈ ws, x.size ≤ 9223372036854775807) := fun x hx => by
      have h1 := HSZ.out x.data.toList (by rw [← hwl]; exact List.mem_map_of_mem hx)
      have h2 : x.data.toList.length = x.size := by rw [Array.length_toList]; rfl
      omega
    have HWN := Lib.hid hwn
    have hwlen : ws.length ≤ 100001 := by omega
    clear hrow hwl hwn HW
    by_cases h4 : ws.length < 4
    · have hz : (ws.length : Int) < 4 := by omega
      have HR : Hid (R = ([], 11)) := by
        show _ = _
        rw [HP.out]; unfold parse2
        cases hok : (headR L).2.2 with
        | false => rfl
        | true => have := headR_long hok; have := HWN.out; omega
      clear h4
      go_wp2_with fail
      go_ret2
      exact ⟨none, 0, [], by rw [HR.out]; rfl, by rw [HR.out]; rfl, rows_nil _ _, hb1⟩
    · have hz : ¬ (ws.length : Int) < 4 := by omega
      have hzd : decide ((ws.length : Int) < 4) = false := by rw [decide_eq_false_iff_not]; exact hz
      have hz4 : (4 : Int) ≤ (ws.length : Int) := by omega
      have HL4 : Hid (∀ j, j < ws.length → L[j]! = ws[j]!.data.toList) := fun k hk => by
        rw [← HWL.out, getElem!_pos _ k (by rw [List.length_map]; exact hk), List.getElem_map, getElem!_pos ws k hk]
      obtain ⟨b, off, rfl, hb, hc⟩ := HROW.out.pos (j := 0) (by omega)
      have c0 := hc 0 (by omega)
      have c1 := hc 1 (by omega)
      have c2 := hc 2 (by omega)
      have c3 := hc 3 (by omega)
      rw [Nat.add_zero] at c0
      have s2 := HSW.out ws[2]! (getElem!_mem (by omega))
      have s3 := HSW.out ws[3]! (getElem!_mem (by omega))
      have hn2 := refNumber_any ws[2]! w1 s2
      have hn3 := refNumber_any ws[3]! w1 s3
      unfold RefNumbered at hn2 hn3
      have HHD : Hid (headR L = if ws[0]!.data.toList = [112] ∧ ws[1]!.data.toList = [99, 110, 102] then (valN ws[2]!.data.toList, valN ws[3]!.data.toList, numOk ws[2]!.data.toList && numOk ws[3]!.data.toList) else (0, 0, false)) := by
        show _ = _
        have e0 := HL4.out 0 (by omega)
        have e1 := HL4.out 1 (by omega)
        have e2 := HL4.out 2 (by omega)
        have e3 := HL4.out 3 (by omega)
        have hlen : 4 ≤ L.length := by have := HWN.out; omega
        rw [← e0, ← e1, ← e2, ← e3]
        match L, hlen with
        | p :: q :: r :: t :: rest, _ => rfl
      have HBAD : Hid ((headR L).2.2 = false → R = ([], 11)) := fun h => by rw [HP.out]; unfold parse2; rw [h]; rfl
      have t0 : ws[0]!.toList = ws[0]!.data.toList := toList_data _
      have t1 : ws[1]!.toList = ws[1]!.data.toList := toList_data _
      generalize ws[0]! = x0 at *
      generalize ws[1]! = x1 at *
      generalize ws[2]! = x2 at *
      generalize ws[3]! = x3 at *
      have HCC := Lib.hid hc
      clear h4 s2 s3 hc
      by_cases e0 : x0.data.toList = [112]
      · by_cases e1 : x1.data.toList = [99, 110, 102]
        · have HH2 : Hid (headR L = (valN x2.data.toList, valN x3.data.toList, numOk x2.data.toList && numOk x3.data.toList)) := by show _ = _; rw [HHD.out, if_pos ⟨e0, e1⟩]
          have g0 : x0.toList = [112] := t0.trans e0
          have g1 : (!x1.toList == [99, 110, 102]) = false := by rw [t1, e1]; rfl
          clear t0 t1 e0 e1 HHD
          cases k2 : numOk x2.data.toList with
          | false =>
            have HR : Hid (R = ([], 11)) := HBAD.out (by rw [HH2.out, k2]; rfl)
            cases q3 : refN x3.data.toList with
            | none =>
              rw [q3] at hn3
              simp only [Option.getD_none, Option.isSome_none] at hn3
              clear q3
              rcases refN_bad k2 with hq | ⟨v, hv0, hv1, hq⟩
              · rw [hq] at hn2
                have HN2 := Lib.hid hn2
                have HN3 := Lib.hid hn3
                simp only [Option.getD_none, Option.isSome_none] at HN2
                clear hn2 hn3 hq k2
                go_wp2_with fail
                refine HN2.out.mono ?_
                rintro e w2 ⟨rfl, rfl⟩
                go_wp2_with fail
                refine HN3.out.mono ?_
                rintro e w3 ⟨rfl, rfl⟩
                go_wp2_with fail
                go_ret2
                exact ⟨none, 0, [], by rw [HR.out]; rfl, by rw [HR.out]; rfl, rows_nil _ _, hb1⟩
              · rw [hq] at hn2
                have HN2 := Lib.hid hn2
                have HN3 := Lib.hid hn3
                simp only [Option.getD_some, Option.isSome_some] at HN2
                clear hn2 hn3 hq k2
                go_wp2_with fail
                refine HN2.out.mono ?_
                rintro e w2 ⟨rfl, rfl⟩
                go_wp2_with fail
                refine HN3.out.mono ?_
                rintro e w3 ⟨rfl, rfl⟩
                go_wp2_with fail
                go_ret2
                exact ⟨none, 0, [], by rw [HR.out]; rfl, by rw [HR.out]; rfl, rows_nil _ _, hb1⟩
            | some n3 =>
              rw [q3] at hn3
              simp only [Option.getD_some, Option.isSome_some] at hn3
              clear q3
              rcases refN_bad k2 with hq | ⟨v, hv0, hv1, hq⟩
              · rw [hq] at hn2
                have HN2 := Lib.hid hn2
                have HN3 := Lib.hid hn3
                simp only [Option.getD_none, Option.isSome_none] at HN2
                clear hn2 hn3 hq k2
                go_wp2_with fail
                refine HN2.out.mono ?_
                rintro e w2 ⟨rfl, rfl⟩
                go_wp2_with fail
                refine HN3.out.mono ?_
                rintro e w3 ⟨rfl, rfl⟩
                go_wp2_with fail
                go_ret2
                exact ⟨none, 0, [], by rw [HR.out]; rfl, by rw [HR.out]; rfl, rows_nil _ _, hb1⟩
              · rw [hq] at hn2
                have HN2 := Lib.hid hn2
                have HN3 := Lib.hid hn3
                simp only [Option.getD_some, Option.isSome_some] at HN2
                clear hn2 hn3 hq k2
                go_wp2_with fail
                refine HN2.out.mono ?_
                rintro e w2 ⟨rfl, rfl⟩
                go_wp2_with fail
                refine HN3.out.mono ?_
                rintro e w3 ⟨rfl, rfl⟩
                go_wp2_with fail
                go_ret2
                exact ⟨none, 0, [], by rw [HR.out]; rfl, by rw [HR.out]; rfl, rows_nil _ _, hb1⟩
          | true =>
            rw [refN_ok k2] at hn2
            simp only [Option.getD_some, Option.isSome_some] at hn2
            have hv2 := numV_bd k2
            cases k3 : numOk x3.data.toList with
            | false =>
              have HR : Hid (R = ([], 11)) := HBAD.out (by rw [HH2.out, k3]; simp)
              have HN2 := Lib.hid hn2
              generalize numV x2.data.toList = V at *
              have hV0 : ¬ (V : Int) < 0 := by omega
              rcases refN_bad k3 with hq | ⟨v, hv0, hv1, hq⟩
              · rw [hq] at hn3
                have HN3 := Lib.hid hn3
                simp only [Option.getD_none, Option.isSome_none] at HN3
                clear hn2 hn3 hq k3
                go_wp2_with fail
                refine HN2.out.mono ?_
                rintro e w2 ⟨rfl, rfl⟩
                go_wp2_with fail
                refine HN3.out.mono ?_
                rintro e w3 ⟨rfl, rfl⟩
                go_wp2_with fail
                go_ret2
                exact ⟨none, 0, [], by rw [HR.out]; rfl, by rw [HR.out]; rfl, rows_nil _ _, hb1⟩
              · rw [hq] at hn3
                have HN3 := Lib.hid hn3
                simp only [Option.getD_some, Option.isSome_some] at HN3
                clear hn2 hn3 hq k3
                go_wp2_with fail
                refine HN2.out.mono ?_
                rintro e w2 ⟨rfl, rfl⟩
                go_wp2_with fail
                refine HN3.out.mono ?_
                rintro e w3 ⟨rfl, rfl⟩
                go_wp2_with fail
                go_ret2
                exact ⟨none, 0, [], by rw [HR.out]; rfl, by rw [HR.out]; rfl, rows_nil _ _, hb1⟩
            | true =>
              rw [refN_ok k3] at hn3
              simp only [Option.getD_some, Option.isSome_some] at hn3
              have hv3 := numV_bd k3
              have HRR : Hid (R = parse3 (numV x3.data.toList : Int) (clausesR (numV x2.data.toList : Int) (L.drop 4))) := by
                show _ = _
                rw [HP.out]; unfold parse2
                rw [HH2.out, k2, k3]
                unfold valN
                rw [k2, k3]; rfl
              generalize numV x2.data.toList = V at *
              generalize numV x3.data.toList = N at *
              have HN2 := Lib.hid hn2
              have HN3 := Lib.hid hn3
              clear hn2 hn3 k2 k3 HH2 HBAD
              have hV0 : ¬ (V : Int) < 0 := by omega
              have hN0 : ¬ (N : Int) < 0 := by omega
              have hV0d : decide ((V : Int) < 0) = false := by rw [decide_eq_false_iff_not]; exact hV0
              have hN0d : decide ((N : Int) < 0) = false := by rw [decide_eq_false_iff_not]; exact hN0
              go_wp2_with fail
              refine HN2.out.mono ?_
              rintro e w2 ⟨rfl, rfl⟩
              go_wp2_with fail
              refine HN3.out.mono ?_
              rintro e w3 ⟨rfl, rfl⟩
              have HDG : Hid (∀ k, k + 4 < ws.length → (L.drop 4)[k]! = ws[k + 4]!.data.toList) := fun k hk => by
                have h1 : k + 4 < L.length := by have := HWN.out; omega
                rw [← HL4.out (k + 4) hk, getElem!_pos _ k (by rw [List.length_drop]; omega), getElem!_pos L (k + 4) h1, List.getElem_drop]
                congr 1; omega
              have HDL : Hid ((L.drop 4).length = ws.length - 4) := by show _ = _; rw [List.length_drop, ← HWN.out]
              clear HN2 HN3 c0 c1 c2 c3
              generalize L.drop 4 = D at *
              go_wp2_with fail
              go_loopw [9, 10, 11, 12, 13] (fun s9 s10 s11 _ _ wr => ∃ (k m : Nat) (st : PSt) (rs : List Row) (Bc : Nat), Hid (m = k + 4) ∧ m ≤ ws.length ∧ s11 = .int .i64 (m : Int) ∧ Hid (Reading V D w1.heap.size k st rs Bc s9 s10 wr) ∧ Below w1.heap.size w1 wr) (fun _ _ s11 _ _ _ => ws.length - (intOf s11).toNat)
              case atStart => exact ⟨0, 4, _, [], _, rfl, by omega, rfl, Reading.start _ _ _ w1 (Nat.le_refl _), Below.refl _ _⟩
              case round =>
                obtain ⟨k, m, st, rs, Bc, hmk, hm, rfl, HRD, hB⟩ := hrel
                obtain ⟨wo, rfl⟩ : ∃ wo : World, wo = wr := ⟨_, rfl⟩
                have hBA : Hid (Below w.heap.size w wo) := hb1.trans (hB.mono hb1.size)
                by_cases hlt : m < ws.length
                · have hltz : (m : Int) < (ws.length : Int) := by omega
                  obtain ⟨b', off', he', hb', hc⟩ := (HROW.out.below hB).pos hlt
                  cases he'
                  have c1 := hc m hlt
                  have hent := refNumber_any ws[m]! wo (HSW.out _ (getElem!_mem hlt))
                  unfold RefNumbered at hent
                  have HDK : Hid (D[k]! = ws[m]!.data.toList) := by show _ = _; have hmk := hmk.out; subst hmk; exact HDG.out k hlt
                  rw [← HDK.out] at hent
                  have HKD : Hid (k < D.length) := by show _ < _; rw [HDL.out]; have := hmk.out; omega
                  clear hc
                  generalize ws[m]! = sm at *
                  cases hev : refN D[k]! with
                  | none =>
                    have HNONE : Hid (clausesR (V : Int) D = none) := clauses_fail HKD.out HRD.out.parsed (pstep_miss hev)
                    have HR : Hid (R = ([], 11)) := by show _ = _; rw [HRR.out, HNONE.out]; rfl
                    rw [hev] at hent
                    simp only [Option.getD_none, Option.isSome_none] at hent
                    have HENT := Lib.hid hent
                    clear hent hev
                    go_wp2_with fail
                    refine HENT.out.mono ?_
                    rintro e w2 ⟨rfl, rfl⟩
                    go_wp2_with fail
                    go_ret2
                    exact ⟨none, 0, [], by rw [HR.out]; rfl, by rw [HR.out]; rfl, rows_nil _ _, hBA.out⟩
                  | some x =>
                    rw [hev] at hent
                    simp only [Option.getD_some, Option.isSome_some] at hent
                    have HENT := Lib.hid hent
                    have hxb := refN_bd hev
                    have HRE := Lib.hid hev
                    clear hent hev
                    by_cases hx0 : x = 0
                    · subst hx0
                      have HE0 : Hid (entryV D[k]! = some 0) := entry_lit HRE.out (Or.inr rfl)
                      clear HRE
                      go_wp2_with fail
                      refine HENT.out.mono ?_
                      rintro e w2 ⟨rfl, rfl⟩
                      obtain ⟨⟨ra, rc, rz⟩, hrv, hrz, hro⟩ := RowOwn.close HRD.out.own7
                      have hrz' : rz = st.c := hrz
                      subst hrz'
                      unfold Row.val at hrv
                      simp only at hrv
                      subst hrv
                      have HRO := Lib.hid hro
                      have hfew := HRD.out.few
                      have hkb : k ≤ 100001 := by have := hmk.out; omega
                      clear hrz hro
                      have hal : Below wo.heap.size wo (wo.alloc (.cells #[.slice ra st.c.length rc] 22)) := (Below.refl _ _).alloc (Nat.le_refl _) _
                      have hB3 := hB.trans (hal.mono hB.size)
                      have HRD3 := Lib.hid (HRD.out.later hal)
                      have HRO3 := Lib.hid (RowOwn.mono (HRO.out.below hal) (B' := (wo.alloc (.cells #[.slice ra st.c.length rc] 22)).heap.size) (by simp))
                      have HONE := Lib.hid (one_cell wo (.slice ra st.c.length rc) 22)
                      have HBASE : Hid (w1.heap.size ≤ (wo.alloc (.cells #[.slice ra st.c.length rc] 22)).heap.size) := hB3.size
                      go_wp2_with (at_builtin; refine wpList_append_own _ rfl (.tmp 95) (.tmp 97) 30 rfl w1.heap.size 22 i1 (.slice none 0 0) 1 24 Tryd.underlying30 hj hy0 hy1 hy2 rfl (by decide) _ rs.length (rs.map Row.val) rfl HRD3.out.own6 ⟨wo.heap.size, 0, none⟩ 1 1 [.slice ra st.c.length rc] rfl ?d1 ?d2 ?d3 ?d4 ?d5 ?d6 ?_)
                      case d1 => rfl
                      case d2 => exact HONE.out
                      case d3 => intro u hu; rw [List.mem_singleton.1 hu]; rfl
                      case d4 => unfold maxLen; omega
                      case d5 => omega
                      case d6 => exact HBASE.out
                      intro v6' w4 hown4 hgrow4 _
                      have HRD4 := Lib.hid (Reading.stop (r := ⟨ra, rc, st.c⟩) HRD3.out HKD.out HE0.out (by omega) rfl HRO3.out hown4 hgrow4)
                      have hB4 : Below w1.heap.size w1 w4 := hB3.grown hgrow4 HBASE.out (fun k' hk' => (HRD3.out.own6.lt k' hk').1)
                      clear hown4 hgrow4
                      go_wp2_with fail
                      go_roundw
                      case rel => exact ⟨k + 1, m + 1, _, _, _, by (show _ = _; have := hmk.out; omega), by omega, by go_num, HRD4, hB4⟩
                      case measure => simp [intOf]; omega
                    · have hxn : (x != 0) = true := ne_nat x hx0
                      have hxe : (x == 0) = false := by simpa using hx0
                      have HX0 := Lib.hid hx0
                      have hlit := Lib.hid (fun w2 => Literal_any x w2)
                      have habs := Lib.hid (fun w2 => Abs_any x w2 (by omega) (by omega))
                      cases hil : isLit x with
                      | false =>
                        have HNONE : Hid (clausesR (V : Int) D = none) := clauses_fail HKD.out HRD.out.parsed (pstep_bad HRE.out hx0 (Or.inl hil))
                        have HR : Hid (R = ([], 11)) := by show _ = _; rw [HRR.out, HNONE.out]; rfl
                        rw [hil] at hlit
                        clear hx0 hil habs
                        go_wp2_with fail
                        refine HENT.out.mono ?_
                        rintro e w2 ⟨rfl, rfl⟩
                        go_wp2_with fail
                        refine (hlit.out _).mono ?_
                        rintro e w2 ⟨rfl, rfl⟩
                        go_wp2_with fail
                        go_ret2
                        exact ⟨none, 0, [], by rw [HR.out]; rfl, by rw [HR.out]; rfl, rows_nil _ _, hBA.out⟩
                      | true =>
                        rw [hil] at hlit
                        have HE : Hid (entryV D[k]! = some x) := entry_lit HRE.out (Or.inl hil)
                        by_cases hv : vr x ≤ (V : Int)
                        · have hvz : ¬ (V : Int) < vr x := by omega
                          have hvd : decide ((V : Int) < vr x) = false := by rw [decide_eq_false_iff_not]; exact hvz
                          have HV2 := Lib.hid hv
                          clear hx0 hil hv HRE
                          generalize hvx : vr x = vx at habs hvz hvd
                          clear hvx
                          have hfew := HRD.out.few
                          have hkb : k ≤ 100001 := by have := hmk.out; omega
                          go_wp2_with fail
                          refine HENT.out.mono ?_
                          rintro e w2 ⟨rfl, rfl⟩
                          go_wp2_with fail
                          refine (hlit.out _).mono ?_
                          rintro e w2 ⟨rfl, rfl⟩
                          go_wp2_with fail
                          refine (habs.out _).mono ?_
                          rintro e w2 ⟨rfl, rfl⟩
                          have hal : Below wo.heap.size wo (wo.alloc (.cells #[.int .i64 x] 3)) := (Below.refl _ _).alloc (Nat.le_refl _) _
                          have hB3 := hB.trans (hal.mono hB.size)
                          have HRD3 := Lib.hid (HRD.out.later hal)
                          have HONE := Lib.hid (one_cell wo (.int .i64 x) 3)
                          have HBASE : Hid (Bc ≤ (wo.alloc (.cells #[.int .i64 x] 3)).heap.size) := HRD3.out.hi
                          have HBASE2 : Hid (w1.heap.size ≤ (wo.alloc (.cells #[.int .i64 x] 3)).heap.size) := hB3.size
                          go_wp2_with (at_builtin; refine wpList_append_own _ rfl (.tmp 99) (.tmp 101) 22 rfl Bc 3 i0 (.int .i64 0) 1 8 Tryd.underlying22 hi hz0 hz1 hz2 rfl (by decide) _ st.c.length (st.c.map (Value.int .i64)) rfl HRD3.out.own7 ⟨wo.heap.size, 0, none⟩ 1 1 [.int .i64 x] rfl ?d1 ?d2 ?d3 ?d4 ?d5 ?d6 ?_)
                          case d1 => rfl
                          case d2 => exact HONE.out
                          case d3 => intro u hu; rw [List.mem_singleton.1 hu]; rfl
                          case d4 => unfold maxLen; omega
                          case d5 => omega
                          case d6 => exact HBASE.out
                          intro v7' w4 hown4 hgrow4 _
                          have HRD4 := Lib.hid (Reading.lit HRD3.out HKD.out HE.out HV2.out HX0.out hown4 hgrow4)
                          have hB4 : Below w1.heap.size w1 w4 := hB3.grown hgrow4 HBASE2.out (fun k' hk' => Nat.le_trans HRD3.out.lo (HRD3.out.own7.lt k' hk').1)
                          clear hown4 hgrow4
                          go_wp2_with fail
                          go_roundw
                          case rel => exact ⟨k + 1, m + 1, _, _, _, by (show _ = _; have := hmk.out; omega), by omega, by go_num, HRD4, hB4⟩
                          case measure => simp [intOf]; omega
                        · have hvz : (V : Int) < vr x := by omega
                          have HNONE : Hid (clausesR (V : Int) D = none) := clauses_fail HKD.out HRD.out.parsed (pstep_bad HRE.out hx0 (Or.inr hvz))
                          have HR : Hid (R = ([], 11)) := by show _ = _; rw [HRR.out, HNONE.out]; rfl
                          clear hx0 hil hv HRE HE
                          generalize vr x = vx at *
                          go_wp2_with fail
                          refine HENT.out.mono ?_
                          rintro e w2 ⟨rfl, rfl⟩
                          go_wp2_with fail
                          refine (hlit.out _).mono ?_
                          rintro e w2 ⟨rfl, rfl⟩
                          go_wp2_with fail
                          refine (habs.out _).mono ?_
                          rintro e w2 ⟨rfl, rfl⟩
                          go_wp2_with fail
                          go_ret2
                          exact ⟨none, 0, [], by rw [HR.out]; rfl, by rw [HR.out]; rfl, rows_nil _ _, hBA.out⟩
                · have hltz : ¬ (m : Int) < (ws.length : Int) := by omega
                  have hpar : parsed (V : Int) D = some st := by have := HRD.out.parsed; rwa [List.take_of_length_le (by rw [HDL.out]; have := hmk.out; omega)] at this
                  have hop := parsed_open _ _ st rfl hpar
                  obtain ⟨a6, c6, hv6, hrow6, _⟩ := own_rows HRD.out.own6
                  subst hv6
                  obtain ⟨a7, c7, hv7, _, _⟩ := own_ints HRD.out.own7
                  subst hv7
                  by_cases hc0 : st.c = []
                  · have HSOME : Hid (clausesR (V : Int) D = some (rs.map Row.zs)) := by
                      show _ = _; unfold clausesR; rw [hpar]; show (if st.opn = true then none else some st.cs) = _; rw [hop, hc0, HRD.out.rows]; rfl
                    have hc0l : st.c.length = 0 := by rw [hc0]; rfl
                    have HRS : Hid (RowsIn wo a6 rs) := ⟨hrow6, fun r hr => (HRD.out.kept r hr).row, fun r hr => by have := HRD.out.small r hr; have := hmk.out; omega⟩
                    by_cases hN : rs.length = N
                    · have HR : Hid (R = (rs.map Row.zs, 0)) := by
                        show _ = _; rw [HRR.out, HSOME.out]; unfold parse3; simp only; rw [if_pos (by rw [List.length_map, hN])]
                      have hne : ((rs.length : Int) != (N : Int)) = false := by rw [hN]; simp
                      rw [hc0l]
                      clear hpar hrow6 hop hc0 hc0l hN
                      go_wp2
                      go_ret2
                      exact ⟨a6, c6, rs, by rw [HR.out]; rfl, by rw [HR.out], HRS.out, hBA.out⟩
                    · have HR : Hid (R = ([], 11)) := by
                        show _ = _; rw [HRR.out, HSOME.out]; unfold parse3; simp only; rw [if_neg (by rw [List.length_map]; omega)]
                      have hne : ((rs.length : Int) != (N : Int)) = true := by rw [bne_iff_ne]; omega
                      rw [hc0l]
                      clear hpar hrow6 hop hc0 hc0l hN
                      go_wp2
                      go_ret2
                      exact ⟨none, 0, [], by rw [HR.out]; rfl, by rw [HR.out]; rfl, rows_nil _ _, hBA.out⟩
                  · have HNONE : Hid (clausesR (V : Int) D = none) := by
                      show _ = _; unfold clausesR; rw [hpar]; show (if st.opn = true then none else some st.cs) = none
                      rw [hop, if_pos (by simpa using hc0)]
                    have HR : Hid (R = ([], 11)) := by show _ = _; rw [HRR.out, HNONE.out]; rfl
                    have hcl : 0 < st.c.length := List.length_pos_iff.2 hc0
                    have hclz : (0 : Int) < (st.c.length : Int) := by omega
                    generalize st.c.length = n7 at *
                    clear hpar hrow6 hop hc0
                    go_wp2
                    go_ret2
                    exact ⟨none, 0, [], by rw [HR.out]; rfl, by rw [HR.out]; rfl, rows_nil _ _, hBA.out⟩
        · have HR : Hid (R = ([], 11)) := HBAD.out (by rw [HHD.out, if_neg (fun h => e1 h.2)])
          have g0 : x0.toList = [112] := t0.trans e0
          have g1 : (!x1.toList == [99, 110, 102]) = true := by rw [t1]; simpa using e1
          clear t0 t1 e0 e1 HHD hn2 hn3
          go_wp2_with fail
          go_ret2
          exact ⟨none, 0, [], by rw [HR.out]; rfl, by rw [HR.out]; rfl, rows_nil _ _, hb1⟩
      · have HR : Hid (R = ([], 11)) := HBAD.out (by rw [HHD.out, if_neg (fun h => e0 h.1)])
        have g0 : ¬ x0.toList = [112] := by rw [t0]; exact e0
        clear t0 t1 e0 HHD hn2 hn3
        go_wp2_with fail
        go_ret2
        exact ⟨none, 0, [], by rw [HR.out]; rfl, by rw [HR.out]; rfl, rows_nil _ _, hb1⟩
  · have hbz : (100000 : Int) < (s.size : Int) := by omega
    have HR : Hid (parseR s.data.toList = ([], 12)) := by show _ = _; unfold parseR; rw [if_neg (by omega)]
    unfold Parsed
    clear hln hbig
    go_enter Tryd.func24, Tryd.ntmps24
    go_wp2_with fail
    go_ret2
    exact ⟨none, 0, [], by rw [HR.out]; rfl, by rw [HR.out]; rfl, rows_nil _ _, Below.refl _ _⟩
end Go.Proofs.YtiimdehcfkoemaaDoor.Cl
