/- The document's own Show. -/
import Derived.Test.YtiimdehcfkoemaaDoorClZf
namespace Go.Proofs.YtiimdehcfkoemaaDoor.Cl
open Go Go.RowKit Go.Lib Go.Sort

theorem show_not {cs : List (List Int)} {k : Nat} (hk : k < cs.length) (h : rightB cs[k]! = false) : showText cs = [] := by
  unfold showText
  rw [if_neg]
  intro hall
  have := List.all_eq_true.1 hall cs[k]! (getElem!_mem hk)
  rw [h] at this; cases this
theorem all_succ {cs : List (List Int)} {k : Nat} (hk : k < cs.length) (h : (cs.take k).all rightB = true) (hr : rightB cs[k]! = true) : (cs.take (k + 1)).all rightB = true := by
  rw [take_succ! hk, List.all_append, h, List.all_cons, List.all_nil, hr]; rfl
theorem append3 (o s t : ByteArray) : (o ++ s ++ t).data.toList = o.data.toList ++ (s.data.toList ++ t.data.toList) := by
  rw [ByteArray.data_append, Array.toList_append, ByteArray.data_append, Array.toList_append, List.append_assoc]
theorem of_data (s : ByteArray) (l : List UInt8) (h : s.data.toList = l) : s = ⟨l.toArray⟩ := by
  subst h; simp

set_option maxHeartbeats 8000000 in
set_option maxRecDepth 100000 in
theorem RefShow_any (a : Option Addr) (c : Nat) (rs : List Row) (w : World) (hr : RowsIn w a rs) (hl : rs.length ≤ 1000) (hl2 : ∀ r ∈ rs, r.zs.length ≤ 1000) :
    Calls Tryd.prog 19 #[.slice a rs.length c] w fun e w' => e = .returned (.string ⟨(showText (rs.map Row.zs)).toArray⟩) ∧ Below w.heap.size w w' := by
  have HR := Lib.hid hr
  have HL2 := Lib.hid hl2
  have HG := Lib.hid (RefGreatest_any a c rs w hr (by omega))
  have hg := greatest_bd (rs.map Row.zs)
  obtain ⟨g, hgg⟩ : ∃ g, g = greatest (rs.map Row.zs) := ⟨_, rfl⟩
  rw [← hgg] at hg HG
  have HGG := Lib.hid hgg
  clear hr hl2 hgg
  go_enter Tryd.func19, Tryd.ntmps19
  go_wp2_with fail
  refine HG.out.mono ?_
  rintro e w1 ⟨rfl, rfl⟩
  go_wp2_with fail
  refine (RefDigits_any g (by omega) (by omega) _).mono ?_
  rintro e w2 ⟨s1, rfl, hs1, hl1, hb2⟩
  go_wp2_with fail
  refine (RefDigits_any (rs.length : Int) (by omega) (by omega) _).mono ?_
  rintro e w3 ⟨s2, rfl, hs2, hl2, hb3⟩
  have hb3 := hb2.trans (hb3.mono hb2.size)
  go_wp2_with fail
  have hsz4 := head_size s1 s2 hl1 hl2
  have hdata := head_data s1 s2 g (rs.length : Int) hs1.out hs2.out
  generalize (({ data := #[112, 32, 99, 110, 102, 32] } : ByteArray) ++ s1 ++ { data := #[32] } ++ s2 ++ { data := #[10] }) = hd at *
  have HD := Lib.hid hdata
  clear hdata hs1 hs2 HG
  go_loopw [3, 4, 5] (fun o i _ wr => ∃ (k : Nat) (s : ByteArray), k ≤ rs.length ∧ i = .int .i64 k ∧ o = .string s ∧ Hid (s.data.toList = headText g (rs.length : Int) ++ rowsText ((rs.map Row.zs).take k)) ∧ Hid (((rs.map Row.zs).take k).all rightB = true) ∧ Below w.heap.size w wr) (fun _ i _ _ => rs.length - (intOf i).toNat)
  case atStart => exact ⟨0, hd, Nat.zero_le _, rfl, rfl, by show _ = _; rw [HD.out]; simp [rowsText], rfl, hb3⟩
  case round =>
    obtain ⟨k, s, hk, rfl, rfl, HS, HALL, hB⟩ := hrel
    obtain ⟨wo, rfl⟩ : ∃ wo : World, wo = wr := ⟨_, rfl⟩
    clear hb2 hb3 HD
    have hhl : (headText g (rs.length : Int)).length ≤ 100 := by
      have h1 := Lib.itoa_length_le g (by omega) (by omega)
      have h2 := Lib.itoa_length_le (rs.length : Int) (by omega) (by omega)
      unfold headText
      simp only [List.length_append, List.length_cons, List.length_nil]; omega
    by_cases hlt : k < rs.length
    · have hltz : (k : Int) < (rs.length : Int) := by omega
      have hR := HR.out.below hB
      obtain ⟨b, off, rfl, hb, hc⟩ := hR.row.pos hlt
      have HC1 : Hid (∀ wi, Below w.heap.size w wi → wi.cell? ⟨b, off + k, none⟩ = some (.slice rs[k]!.a rs[k]!.zs.length rs[k]!.c)) := fun wi h => by
        obtain ⟨b', off', he, _, hc'⟩ := (HR.out.below h).row.pos hlt
        cases he
        exact hc' k hlt
      have c1 := HC1.out wo hB
      have hrow := HR.out.each rs[k]! (getElem!_mem hlt)
      have hll := HL2.out rs[k]! (getElem!_mem hlt)
      have hright := RefRight_any rs[k]!.a rs[k]!.c rs[k]!.zs wo (hrow.below hB) (by omega)
      have hkm : k < (rs.map Row.zs).length := by simpa using hlt
      have HKM := Lib.hid hkm
      have HZ : Hid ((rs.map Row.zs)[k]! = rs[k]!.zs) := map_get! rs hlt
      have HSN : Hid (rowsText ((rs.map Row.zs).take (k + 1)) = rowsText ((rs.map Row.zs).take k) ++ (rowText rs[k]!.zs ++ [48, 10])) := by
        show _ = _
        rw [take_succ! hkm, rowsText_snoc, map_get! rs hlt]
      have hlen : (rowsText ((rs.map Row.zs).take k)).length ≤ 22002 * 1000 := by
        have := rowsText_length HALL.out (fun c hc => by
          obtain ⟨r, hr, rfl⟩ := List.mem_map.1 (List.mem_of_mem_take hc); exact HL2.out r hr)
        rw [List.length_take, List.length_map] at this; omega
      clear hR hc hkm
      generalize rowsText ((rs.map Row.zs).take k) = T at *
      generalize rs[k]!.zs = zs at *
      generalize rs[k]!.a = ra at *
      generalize rs[k]!.c = rc at *
      cases hrt : rightB zs with
      | false =>
        have HNO : Hid (showText (rs.map Row.zs) = []) := show_not HKM.out (by rw [HZ.out]; exact hrt)
        rw [hrt] at hright
        have HRT := Lib.hid hright
        clear hrt hright
        go_wp2_with fail
        refine HRT.out.mono ?_
        rintro e w4 ⟨rfl, rfl⟩
        go_wp2_with fail
        go_ret
        exact ⟨by rw [HNO.out]; rfl, hB⟩
      | true =>
        rw [hrt] at hright
        have HRI := Lib.hid hright
        have HRT := Lib.hid hrt
        have HALL2 : Hid (((rs.map Row.zs).take (k + 1)).all rightB = true) := all_succ HKM.out HALL.out (by rw [HZ.out]; exact hrt)
        clear hrt hright HALL
        go_wp2_with fail
        refine HRI.out.mono ?_
        rintro e w4 ⟨rfl, rfl⟩
        go_wp2_with fail
        clear HRI c1
        go_loopw [3, 5] (fun o i wr => ∃ (j : Nat) (t : ByteArray), j ≤ zs.length ∧ i = .int .i64 j ∧ o = .string t ∧ Hid (t.data.toList = headText g (rs.length : Int) ++ T ++ rowText (zs.take j)) ∧ Below w.heap.size w wr) (fun _ i _ => zs.length - (intOf i).toNat)
        case atStart => exact ⟨0, s, Nat.zero_le _, rfl, rfl, by show _ = _; rw [HS.out]; simp [rowText], hB⟩
        case round =>
          clear hB
          obtain ⟨j, t, hj, rfl, rfl, HT, hB⟩ := hrel
          obtain ⟨wi, rfl⟩ : ∃ wi : World, wi = wr := ⟨_, rfl⟩
          have c1 := HC1.out wi hB
          have hrt := rowText_length (take_right HRT.out j)
          rw [List.length_take] at hrt
          have hrt : (rowText (zs.take j)).length ≤ 22000 := by omega
          have htl : t.size ≤ 30000000 := by
            rw [size_data, HT.out]; simp only [List.length_append]; omega
          by_cases hjlt : j < zs.length
          · have hjz : (j : Int) < (zs.length : Int) := by omega
            obtain ⟨b', off', rfl, hb', hc'⟩ := (hrow.below hB).pos hjlt
            have c2 := hc' j hjlt
            have hxb := rightB_bd HRT.out zs[j]! (getElem!_mem hjlt)
            have HS2 : Hid (rowText (zs.take (j + 1)) = rowText (zs.take j) ++ (Lib.itoa zs[j]! ++ [32])) := by show _ = _; rw [take_succ! hjlt, rowText_snoc]
            clear hc' hrow
            generalize zs[j]! = x at *
            generalize rowText (zs.take j) = U at *
            go_wp2_with fail
            refine (RefDigits_any x (by omega) (by omega) _).mono ?_
            rintro e w6 ⟨sd, rfl, hs, hsl, hb6⟩
            have hB6 := hB.trans (hb6.mono hB.size)
            have HN : Hid ((t ++ sd ++ { data := #[32] } : ByteArray).data.toList = headText g (rs.length : Int) ++ T ++ rowText (zs.take (j + 1))) := by
              show _ = _
              rw [append3, HT.out, hs.out, HS2.out]; simp only [List.append_assoc]
            go_wp2_with fail
            go_roundw
            case rel => exact ⟨j + 1, _, by omega, by go_num, rfl, HN, hB6⟩
            case measure => simp [intOf]; omega
          · have hjz : ¬ (j : Int) < (zs.length : Int) := by omega
            have e : j = zs.length := by omega
            have HN : Hid ((t ++ { data := #[48, 10] } : ByteArray).data.toList = headText g (rs.length : Int) ++ rowsText ((rs.map Row.zs).take (k + 1))) := by
              show _ = _
              rw [ByteArray.data_append, Array.toList_append, HT.out, HSN.out, e, List.take_length]; simp only [List.append_assoc]
            clear e
            go_wp2_with fail
            go_roundw
            case rel => exact ⟨k + 1, _, by omega, by go_num, rfl, HN, HALL2, hB⟩
            case measure => simp [intOf]; omega
    · have hltz : ¬ (k : Int) < (rs.length : Int) := by omega
      have HF : Hid (s = ⟨(showText (rs.map Row.zs)).toArray⟩) := by
        show _ = _
        have e : (rs.map Row.zs).take k = rs.map Row.zs := List.take_of_length_le (by simp; omega)
        have h1 := HS.out
        have h2 := HALL.out
        rw [e] at h1 h2
        refine of_data _ _ ?_
        rw [h1]; unfold showText; rw [if_pos h2, ← HGG.out, List.length_map]
      go_wp2_with fail
      go_ret
      exact ⟨by rw [HF.out]; rfl, hB⟩
end Go.Proofs.YtiimdehcfkoemaaDoor.Cl
