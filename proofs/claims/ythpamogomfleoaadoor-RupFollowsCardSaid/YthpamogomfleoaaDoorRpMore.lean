/- The law RupMore as a contract. -/
import Derived.Test.YthpamogomfleoaaDoorRpA
namespace Go.Proofs.YthpamogomfleoaaDoor.Cl
open Go Go.RowKit Go.Lib Go.Sort Go.Proofs.YthpamogomfleoaaDoor.Up

theorem small_sizes {rs : List Row} {n : Nat} {v : Int} (h : smallB (rs.map Row.zs) n v = true) : rs.length ≤ n ∧ ∀ r ∈ rs, r.zs.length ≤ 30 := by
  unfold smallB at h
  rw [Bool.and_eq_true, decide_eq_true_eq, List.length_map, List.all_map] at h
  refine ⟨by omega, fun r hr => ?_⟩
  have := List.all_eq_true.1 h.2 r hr
  simp only [Function.comp_apply, okB, Bool.and_eq_true, decide_eq_true_eq] at this
  omega

theorem Fol.more {cs cs' : List (List Int)} {c : List Int} (h : Fol cs c) (hr : ∀ d ∈ cs', rightB d = true) : Fol (cs ++ cs') c :=
  ⟨fun d hd => (List.mem_append.1 hd).elim (h.1 d) (hr d), h.2.1, h.2.2.more fun _ hd => List.mem_append_left _ hd⟩
theorem Fol.there {cs : List (List Int)} {c : List Int} (hr : ∀ d ∈ cs, rightB d = true) (hc : c ∈ cs) : Fol cs c :=
  ⟨hr, hr c hc, bad_empty hc fun x hx => List.mem_map.2 ⟨x, hx, rfl⟩⟩

set_option maxHeartbeats 4000000 in
set_option maxRecDepth 100000 in
theorem RupMore_main (rs : List Row) (a : Option Addr) (c : Nat) (more : List Int) (b : Option Addr) (d : Nat) (zs : List Int) (f : Option Addr) (g : Nat) (w : World)
    (ht : Tab w) (hrs : RowsIn w a rs) (ha : a = none → c = 0) (hlc : rs.length ≤ c) (hcm : c ≤ 9223372036854775807) (hrz : ∀ r ∈ rs, r.zs.length ≤ r.c) (hs : smallB (rs.map Row.zs) 30 100000 = true)
    (hm : RowIn (Value.int .i64) w b more) (_ : more.length ≤ d) (hm12 : more.length ≤ 12) (hmr : rightB more = true)
    (hz : RowIn (Value.int .i64) w f zs) (hz12 : zs.length ≤ 12) (hzr : ∀ z ∈ zs, -9223372036854775808 ≤ z ∧ z ≤ 9223372036854775807) :
    Calls Tryd.prog 5 #[.slice a rs.length c, .slice b more.length d, .slice f zs.length g] w fun e w' => e = .returned (.bool true) ∧ Below w.heap.size w w' := by
  have hsz := small_sizes (n := 30) hs
  have HS : Hid (∀ w2, Below w.heap.size w w2 → Calls Tryd.prog 8 #[.slice a rs.length c, .int .i64 30, .int .i64 100000] w2 fun e w' => e = .returned (.bool true) ∧ w2 = w') := fun w2 h => by
    have := Small_any a c rs 30 100000 w2 (hrs.below h) hlc hcm
    rwa [hs] at this
  have HM : Hid (∀ w2, Below w.heap.size w w2 → Calls Tryd.prog 13 #[.slice b more.length d] w2 fun e w' => e = .returned (.bool true) ∧ w2 = w') := fun w2 h => by
    have := RefRight_any b d more w2 (hm.below h) (by omega)
    rwa [hmr] at this
  have hfl := flat_le (T := rs) (K := 30) hsz.2
  have HF : Hid (∀ w2, Below w.heap.size w w2 → Calls Tryd.prog 9 #[.slice a rs.length c, .slice f zs.length g] w2 (FolE w2 (rs.map Row.zs) zs)) := fun w2 h =>
    RupFollows_any rs f g zs w2 a c (ht.below h) (hrs.below h) (by omega) (fun r q => Nat.le_trans (hsz.2 r q) (by omega)) (hz.below h) (by omega)
  have hd1 : decide ((12 : Int) < (more.length : Int)) = false := by rw [decide_eq_false_iff_not]; omega
  have hd2 : decide ((12 : Int) < (zs.length : Int)) = false := by rw [decide_eq_false_iff_not]; omega
  have HRS := Lib.hid hrs
  have HA := Lib.hid ha
  have HRZ := Lib.hid hrz
  have HMI := Lib.hid hm
  have HMR := Lib.hid hmr
  have HZI := Lib.hid hz
  have HZR := Lib.hid hzr
  have HSZ := Lib.hid hsz
  have HFL := Lib.hid hfl
  obtain ⟨ji, ji0, jz0, jz1, jz2⟩ := info_parts info_rows
  have hl30 := hsz.1
  have HT := Lib.hid ht
  clear ht hrs ha hrz hs hm hmr hz hzr hsz hfl
  go_enter Tryd.func5, Tryd.ntmps5
  go_wp2_with fail
  refine (rup_awake w HT.out).mono ?_
  rintro e w1 ⟨rfl, hb1⟩
  go_wp2_with fail
  refine (HS.out _ hb1).mono ?_
  rintro e w2 ⟨rfl, rfl⟩
  go_wp2_with fail
  refine (HM.out _ hb1).mono ?_
  rintro e w2 ⟨rfl, rfl⟩
  have HB1 := Lib.hid hb1
  clear hb1
  go_wp2_with (at_builtin; refine wpList_append_row Row.val rfl (.tmp 32) (.tmp 33) 22 rfl w.heap.size 23 ji (.slice none 0 0) 24 Tryd.underlying22 ji0 jz0 jz1 jz2 rfl _ 0 [] rfl (World.ownsRow_made w1 #[] 0 HB1.out.size (Nat.zero_le _) (by simp)) a c rs rs.length rfl rfl (HRS.out.row.below (HB1.out.alloc HB1.out.size _)) HA.out (fun _ => rfl) (by unfold maxLen; omega) (by omega) (by have := HB1.out.size; simp; omega) ?_)
  intro v0 w3 hown0 hgrow0
  have HO0 : Hid (w3.ownsRow w.heap.size 23 1 v0 rs.length (rs.map Row.val) ∧ Below w.heap.size w w3) := by
    refine ⟨by simpa using hown0, (HB1.out.alloc HB1.out.size _).grown hgrow0 (by have := HB1.out.size; simp; omega) (fun k hk => by have := HB1.out.size; simp [Value.ownBlock] at hk; omega)⟩
  clear hown0 hgrow0
  go_wp2_with (at_builtin; refine wpList_append_own _ rfl (.tmp 34) (.tmp 36) 22 rfl w.heap.size 23 ji (.slice none 0 0) 1 24 Tryd.underlying22 ji0 jz0 jz1 jz2 rfl (by decide) _ _ _ rfl (HO0.out.1.alloc _) ⟨w3.heap.size, 0, none⟩ 1 1 [.slice b more.length d] rfl rfl ?c1 ?c2 ?c3 ?c4 ?c5 ?_)
  case c1 =>
    intro q u hq
    match q, hq with
    | 0, hq => simp at hq; subst hq; simp [Addr.add]
  case c2 => intro u hu; simp at hu; subst hu; rfl
  case c3 => unfold maxLen; omega
  case c4 => omega
  case c5 => have := HO0.out.2.size; simp; omega
  intro v1 w4 hown1 hgrow1 _
  have HALL : Hid (∃ g4 c4, v1 = .slice (some ⟨g4, 0, none⟩) (rs.length + 1) c4 ∧ RowsIn w4 (some ⟨g4, 0, none⟩) (rs ++ [(⟨b, d, more⟩ : Row)]) ∧ Below w.heap.size w w4) := by
    have hb4 : Below w.heap.size w w4 := (HO0.out.2.alloc HO0.out.2.size _).grown hgrow1 (by have := HO0.out.2.size; simp; omega) (fun q hq => (HO0.out.1.lt q hq).1)
    have hown2 : w4.ownsRow w.heap.size 23 1 v1 (rs ++ [(⟨b, d, more⟩ : Row)]).length ((rs ++ [(⟨b, d, more⟩ : Row)]).map Row.val) := by
      rw [List.length_append, List.map_append]; exact hown1
    obtain ⟨a2, c2, h1, h2, h3, h4, h5, h6⟩ := own_val hown2
    rw [List.length_append] at h1
    have hrow : RowsIn w4 a2 (rs ++ [(⟨b, d, more⟩ : Row)]) := ⟨h2, fun r hr => by
      rcases List.mem_append.1 hr with hr | hr
      · exact (HRS.out.each r hr).below hb4
      · rw [List.mem_singleton.1 hr]; exact HMI.out.below hb4, fun r hr => by
      rcases List.mem_append.1 hr with hr | hr
      · exact HRS.out.small r hr
      · rw [List.mem_singleton.1 hr]; show more.length ≤ _; omega⟩
    cases a2 with
    | none =>
      exfalso
      have := h3 rfl
      rw [List.length_append] at h4
      simp at h4
      omega
    | some x =>
      obtain ⟨g4, rfl⟩ := h6 x rfl
      exact ⟨g4, c2, h1, hrow, hb4⟩
  clear hown1 hgrow1
  obtain ⟨g4, c4, rfl, HW⟩ : ∃ g4 c4, v1 = .slice (some ⟨g4, 0, none⟩) (rs.length + 1) c4 ∧ Hid (RowsIn w4 (some ⟨g4, 0, none⟩) (rs ++ [(⟨b, d, more⟩ : Row)]) ∧ Below w.heap.size w w4) := by
    obtain ⟨g4, c4, h1, h2⟩ := HALL.out
    exact ⟨g4, c4, h1, h2⟩
  clear HALL
  have HFA : Hid (∀ w2, Below w4.heap.size w4 w2 → ∀ (f : Option Addr) (g : Nat) (zs : List Int), RowIn (Value.int .i64) w2 f zs → zs.length ≤ 12 → (∀ z ∈ zs, -9223372036854775808 ≤ z ∧ z ≤ 9223372036854775807) → Calls Tryd.prog 9 #[.slice (some ⟨g4, 0, none⟩) (rs.length + 1) c4, .slice f zs.length g] w2 (FolE w2 (rs.map Row.zs ++ [more]) zs)) := by
    intro w2 h f g zs hf hl hr
    have h0 := RupFollows_any (rs ++ [(⟨b, d, more⟩ : Row)]) f g zs w2 (some ⟨g4, 0, none⟩) c4 (HT.out.below (HW.out.2.trans (h.mono HW.out.2.size))) (HW.out.1.below h) (by simp; omega) (fun r hr => by
      rcases List.mem_append.1 hr with hr | hr
      · have := HSZ.out.2 r hr
        omega
      · rw [List.mem_singleton.1 hr]; show more.length ≤ 1000; omega) hf (by omega)
    rw [List.length_append, List.map_append] at h0
    exact h0
  have HLAST : Hid (∀ w2, Below w4.heap.size w4 w2 → (∀ j, j < rs.length → rightB rs[j]!.zs = true) → Calls Tryd.prog 9 #[.slice (some ⟨g4, 0, none⟩) (rs.length + 1) c4, .slice b more.length d] w2 fun e w' => e = .returned (.bool true) ∧ Below w2.heap.size w2 w') := by
    intro w2 h hall
    refine (HFA.out w2 h b d more (HMI.out.below (HW.out.2.trans (h.mono HW.out.2.size))) hm12 (fun z hz => by have := (isLit_iff z).1 (List.all_eq_true.1 HMR.out z hz); omega)).mono ?_
    rintro e w' ⟨r, rfl, h1, h2⟩
    have : r = true := h1.2 (Fol.there (fun x hx => by
      rcases List.mem_append.1 hx with hx | hx
      · obtain ⟨r, hr, rfl⟩ := List.mem_map.1 hx
        obtain ⟨j, hj, rfl⟩ := List.getElem_of_mem hr
        have := hall j hj
        rwa [getElem!_pos rs j hj] at this
      · rw [List.mem_singleton.1 hx]; exact HMR.out) (by simp))
    subst this
    exact ⟨rfl, h2⟩
  have HSEC : Hid (∀ w2, Below w4.heap.size w4 w2 → Fol (rs.map Row.zs) zs → Calls Tryd.prog 9 #[.slice (some ⟨g4, 0, none⟩) (rs.length + 1) c4, .slice f zs.length g] w2 fun e w' => e = .returned (.bool true) ∧ Below w2.heap.size w2 w') := by
    intro w2 h hf
    refine (HFA.out w2 h f g zs (HZI.out.below (HW.out.2.trans (h.mono HW.out.2.size))) hz12 HZR.out).mono ?_
    rintro e w' ⟨r, rfl, h1, h2⟩
    have : r = true := h1.2 (hf.more fun x hx => by rw [List.mem_singleton.1 hx]; exact HMR.out)
    subst this
    exact ⟨rfl, h2⟩
  have HB4 : Hid (Below w.heap.size w w4) := HW.out.2
  have HRG : Hid (∀ w2 k, Below w4.heap.size w4 w2 → k < rs.length → Calls Tryd.prog 13 #[.slice rs[k]!.a rs[k]!.zs.length rs[k]!.c] w2 fun e w' => e = .returned (.bool (rightB rs[k]!.zs)) ∧ w2 = w') := fun w2 k h hk =>
    RefRight_any rs[k]!.a rs[k]!.c rs[k]!.zs w2 ((HRS.out.each _ (getElem!_mem hk)).below (HB4.out.trans (h.mono HB4.out.size))) (HRS.out.small _ (getElem!_mem hk))
  have HLD : Hid (∀ w2 k, Below w4.heap.size w4 w2 → k < rs.length → ∃ ab aoff, a = some ⟨ab, aoff, none⟩ ∧ w2.cell? ⟨ab, aoff + k, none⟩ = some (.slice rs[k]!.a rs[k]!.zs.length rs[k]!.c)) := by
    intro w2 k h hk
    obtain ⟨ab, aoff, h1, _, h2⟩ := (HRS.out.row.below (HB4.out.trans (h.mono HB4.out.size))).pos hk
    exact ⟨ab, aoff, h1, h2 k hk⟩
  clear HFA HRS HMI HZI HZR HMR HW HA HRZ
  go_wp2_with fail
  refine (HF.out _ HB4.out).mono ?_
  rintro e w5 ⟨r1, rfl, hr1, hb5⟩
  have hcase : r1 = true ∨ r1 = false := by cases r1 <;> simp
  rcases hcase with rfl | rfl
  · have HFo := Lib.hid (hr1.1 rfl)
    have HB5 := Lib.hid hb5
    clear hr1 hb5
    go_wp2_with fail
    refine (HSEC.out _ HB5.out HFo.out).mono ?_
    rintro e w6 ⟨rfl, hb6⟩
    have HB6 := Lib.hid (HB5.out.trans (hb6.mono HB5.out.size))
    clear hb6 HB5
    go_wp2_with fail
    go_loopw [8] (fun iv wr => ∃ k : Nat, iv = .int .i64 (k : Int) ∧ k ≤ rs.length ∧ Hid ((∀ j, j < k → rightB rs[j]!.zs = true) ∧ Below w4.heap.size w4 wr)) (fun iv _ => rs.length - (intOf iv).toNat)
    case atStart => exact ⟨0, rfl, Nat.zero_le _, fun j hj => absurd hj (by omega), HB6.out⟩
    case round =>
      obtain ⟨k, rfl, hk, HO⟩ := hrel
      by_cases hlt : k < rs.length
      · have hltz : (k : Int) < (rs.length : Int) := by omega
        obtain ⟨ab, aoff, rfl, ci⟩ := HLD.out wr k HO.out.2 hlt
        have HRT := Lib.hid (HRG.out wr k HO.out.2 hlt)
        have HNX : Hid (rightB rs[k]!.zs = true → ∀ j, j < k + 1 → rightB rs[j]!.zs = true) := fun q j hj => by
          by_cases e : j = k
          · subst e; exact q
          · exact HO.out.1 j (by omega)
        have hq : rightB rs[k]!.zs = true ∨ rightB rs[k]!.zs = false := by cases rightB rs[k]!.zs <;> simp
        generalize rightB rs[k]!.zs = R at *
        generalize rs[k]! = x at *
        rcases hq with rfl | rfl
        · go_wp2_with (go_at_call 13; refine HRT.out.mono ?_; rintro e w7 ⟨rfl, rfl⟩)
          have HO2 := Lib.hid (And.intro (HNX.out trivial) HO.out.2)
          go_roundw
          case rel => exact ⟨k + 1, by go_num, by omega, HO2⟩
          case measure => simp [intOf]; omega
        · go_wp2_with (go_at_call 13; refine HRT.out.mono ?_; rintro e w7 ⟨rfl, rfl⟩)
          go_ret
          exact ⟨rfl, HB4.out.trans (HO.out.2.mono HB4.out.size)⟩
      · obtain rfl : k = rs.length := by omega
        have hltz : ¬ (rs.length : Int) < (rs.length : Int) := by omega
        have HLA := Lib.hid (HLAST.out wr HO.out.2 HO.out.1)
        have HBO := Lib.hid (HB4.out.trans (HO.out.2.mono HB4.out.size))
        clear HO
        go_wp2_with fail
        refine HLA.out.mono ?_
        rintro e w7 ⟨rfl, hb7⟩
        go_wp2_with fail
        go_ret
        exact ⟨rfl, HBO.out.trans (hb7.mono HBO.out.size)⟩
  · have HB6 := Lib.hid hb5
    clear hr1 hb5
    go_wp2_with fail
    go_loopw [8] (fun iv wr => ∃ k : Nat, iv = .int .i64 (k : Int) ∧ k ≤ rs.length ∧ Hid ((∀ j, j < k → rightB rs[j]!.zs = true) ∧ Below w4.heap.size w4 wr)) (fun iv _ => rs.length - (intOf iv).toNat)
    case atStart => exact ⟨0, rfl, Nat.zero_le _, fun j hj => absurd hj (by omega), HB6.out⟩
    case round =>
      obtain ⟨k, rfl, hk, HO⟩ := hrel
      by_cases hlt : k < rs.length
      · have hltz : (k : Int) < (rs.length : Int) := by omega
        obtain ⟨ab, aoff, rfl, ci⟩ := HLD.out wr k HO.out.2 hlt
        have HRT := Lib.hid (HRG.out wr k HO.out.2 hlt)
        have HNX : Hid (rightB rs[k]!.zs = true → ∀ j, j < k + 1 → rightB rs[j]!.zs = true) := fun q j hj => by
          by_cases e : j = k
          · subst e; exact q
          · exact HO.out.1 j (by omega)
        have hq : rightB rs[k]!.zs = true ∨ rightB rs[k]!.zs = false := by cases rightB rs[k]!.zs <;> simp
        generalize rightB rs[k]!.zs = R at *
        generalize rs[k]! = x at *
        rcases hq with rfl | rfl
        · go_wp2_with (go_at_call 13; refine HRT.out.mono ?_; rintro e w7 ⟨rfl, rfl⟩)
          have HO2 := Lib.hid (And.intro (HNX.out trivial) HO.out.2)
          go_roundw
          case rel => exact ⟨k + 1, by go_num, by omega, HO2⟩
          case measure => simp [intOf]; omega
        · go_wp2_with (go_at_call 13; refine HRT.out.mono ?_; rintro e w7 ⟨rfl, rfl⟩)
          go_ret
          exact ⟨rfl, HB4.out.trans (HO.out.2.mono HB4.out.size)⟩
      · obtain rfl : k = rs.length := by omega
        have hltz : ¬ (rs.length : Int) < (rs.length : Int) := by omega
        have HLA := Lib.hid (HLAST.out wr HO.out.2 HO.out.1)
        have HBO := Lib.hid (HB4.out.trans (HO.out.2.mono HB4.out.size))
        clear HO
        go_wp2_with fail
        refine HLA.out.mono ?_
        rintro e w7 ⟨rfl, hb7⟩
        go_wp2_with fail
        go_ret
        exact ⟨rfl, HBO.out.trans (hb7.mono HBO.out.size)⟩
set_option maxHeartbeats 4000000 in
set_option maxRecDepth 100000 in
theorem RupMore_law (rs : List Row) (a : Option Addr) (c : Nat) (more : List Int) (b : Option Addr) (d : Nat) (zs : List Int) (f : Option Addr) (g : Nat) (w : World)
    (ht : Tab w) (hrs : RowsIn w a rs) (ha : a = none → c = 0) (hlc : rs.length ≤ c) (hcm : c ≤ 9223372036854775807) (hrz : ∀ r ∈ rs, r.zs.length ≤ r.c)
    (hm : RowIn (Value.int .i64) w b more) (hmd : more.length ≤ d) (hml : more.length ≤ 9223372036854775807)
    (hz : RowIn (Value.int .i64) w f zs) (hzl : zs.length ≤ 9223372036854775807) (hzr : ∀ z ∈ zs, -9223372036854775808 ≤ z ∧ z ≤ 9223372036854775807) :
    Calls Tryd.prog 5 #[.slice a rs.length c, .slice b more.length d, .slice f zs.length g] w fun e w' => e = .returned (.bool true) ∧ Below w.heap.size w w' := by
  by_cases hs : smallB (rs.map Row.zs) 30 100000 = true
  · by_cases hm12 : more.length ≤ 12
    · by_cases hz12 : zs.length ≤ 12
      · by_cases hmr : rightB more = true
        · exact RupMore_main rs a c more b d zs f g w ht hrs ha hlc hcm hrz hs hm hmd hm12 hmr hz hz12 hzr
        · have hmr2 : rightB more = false := Bool.not_eq_true _ ▸ hmr
          have hd1 : decide ((12 : Int) < (more.length : Int)) = false := by rw [decide_eq_false_iff_not]; omega
          have hd2 : decide ((12 : Int) < (zs.length : Int)) = false := by rw [decide_eq_false_iff_not]; omega
          have HS : Hid (∀ w2, Below w.heap.size w w2 → Calls Tryd.prog 8 #[.slice a rs.length c, .int .i64 30, .int .i64 100000] w2 fun e w' => e = .returned (.bool true) ∧ w2 = w') := fun w2 h => by
            have := Small_any a c rs 30 100000 w2 (hrs.below h) hlc hcm
            rwa [hs] at this
          have HM : Hid (∀ w2, Below w.heap.size w w2 → Calls Tryd.prog 13 #[.slice b more.length d] w2 fun e w' => e = .returned (.bool false) ∧ w2 = w') := fun w2 h => by
            have := RefRight_any b d more w2 (hm.below h) (by omega)
            rwa [hmr2] at this
          have HT := Lib.hid ht
          clear ht hrs ha hrz hm hz hzr
          go_enter Tryd.func5, Tryd.ntmps5
          go_wp2_with fail
          refine (rup_awake w HT.out).mono ?_
          rintro e w1 ⟨rfl, hb1⟩
          go_wp2_with fail
          refine (HS.out _ hb1).mono ?_
          rintro e w2 ⟨rfl, rfl⟩
          go_wp2_with fail
          refine (HM.out _ hb1).mono ?_
          rintro e w2 ⟨rfl, rfl⟩
          go_wp2_with fail
          refine (rup_awake w1 (HT.out.below hb1)).mono ?_
          rintro e w3 ⟨rfl, hb3⟩
          go_wp2_with fail
          go_ret
          exact ⟨rfl, hb1.trans (hb3.mono hb1.size)⟩
      · have hd1 : decide ((12 : Int) < (more.length : Int)) = false := by rw [decide_eq_false_iff_not]; omega
        have hd2 : (12 : Int) < (zs.length : Int) := by omega
        have HS : Hid (∀ w2, Below w.heap.size w w2 → Calls Tryd.prog 8 #[.slice a rs.length c, .int .i64 30, .int .i64 100000] w2 fun e w' => e = .returned (.bool true) ∧ w2 = w') := fun w2 h => by
          have := Small_any a c rs 30 100000 w2 (hrs.below h) hlc hcm
          rwa [hs] at this
        have HT := Lib.hid ht
        clear ht hrs ha hrz hm hz hzr
        go_enter Tryd.func5, Tryd.ntmps5
        go_wp2_with fail
        refine (rup_awake w HT.out).mono ?_
        rintro e w1 ⟨rfl, hb1⟩
        go_wp2_with fail
        refine (HS.out _ hb1).mono ?_
        rintro e w2 ⟨rfl, rfl⟩
        go_wp2_with fail
        refine (rup_awake w1 (HT.out.below hb1)).mono ?_
        rintro e w3 ⟨rfl, hb3⟩
        go_wp2_with fail
        go_ret
        exact ⟨rfl, hb1.trans (hb3.mono hb1.size)⟩
    · have hd1 : (12 : Int) < (more.length : Int) := by omega
      have HS : Hid (∀ w2, Below w.heap.size w w2 → Calls Tryd.prog 8 #[.slice a rs.length c, .int .i64 30, .int .i64 100000] w2 fun e w' => e = .returned (.bool true) ∧ w2 = w') := fun w2 h => by
        have := Small_any a c rs 30 100000 w2 (hrs.below h) hlc hcm
        rwa [hs] at this
      have HT := Lib.hid ht
      clear ht hrs ha hrz hm hz hzr
      go_enter Tryd.func5, Tryd.ntmps5
      go_wp2_with fail
      refine (rup_awake w HT.out).mono ?_
      rintro e w1 ⟨rfl, hb1⟩
      go_wp2_with fail
      refine (HS.out _ hb1).mono ?_
      rintro e w2 ⟨rfl, rfl⟩
      go_wp2_with fail
      refine (rup_awake w1 (HT.out.below hb1)).mono ?_
      rintro e w3 ⟨rfl, hb3⟩
      go_wp2_with fail
      go_ret
      exact ⟨rfl, hb1.trans (hb3.mono hb1.size)⟩
  · have hs2 : smallB (rs.map Row.zs) 30 100000 = false := Bool.not_eq_true _ ▸ hs
    have HS : Hid (∀ w2, Below w.heap.size w w2 → Calls Tryd.prog 8 #[.slice a rs.length c, .int .i64 30, .int .i64 100000] w2 fun e w' => e = .returned (.bool false) ∧ w2 = w') := fun w2 h => by
      have := Small_any a c rs 30 100000 w2 (hrs.below h) hlc hcm
      rwa [hs2] at this
    have HT := Lib.hid ht
    clear ht hrs ha hrz hm hz hzr
    go_enter Tryd.func5, Tryd.ntmps5
    go_wp2_with fail
    refine (rup_awake w HT.out).mono ?_
    rintro e w1 ⟨rfl, hb1⟩
    go_wp2_with fail
    refine (HS.out _ hb1).mono ?_
    rintro e w2 ⟨rfl, rfl⟩
    go_wp2_with fail
    refine (rup_awake w1 (HT.out.below hb1)).mono ?_
    rintro e w3 ⟨rfl, hb3⟩
    go_wp2_with fail
    go_ret
    exact ⟨rfl, hb1.trans (hb3.mono hb1.size)⟩
end Go.Proofs.YthpamogomfleoaaDoor.Cl
