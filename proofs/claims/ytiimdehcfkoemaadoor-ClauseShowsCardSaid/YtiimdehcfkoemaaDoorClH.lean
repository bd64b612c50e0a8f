/- clause.Show. -/
import Derived.Test.YtiimdehcfkoemaaDoorClG
import Derived.Test.YtiimdehcfkoemaaDoorBld
import Derived.Lib.SmallJoins
import Derived.Lib.ItoaLen
namespace Go.Proofs.YtiimdehcfkoemaaDoor.Cl
open Go Go.RowKit Go.Lib Go.Sort

theorem gPow : Tryd.prog.globalNamed "internal/strconv.uint64pow10" = some 0 := by kernel_rfl
/-- Go's own table of powers of ten is in memory. -/
def Tab (w : World) : Prop := Lib.TabIs Tryd.prog w "internal/strconv.uint64pow10" .u64 Lib.pow10Tab
theorem Tab.below {w w' : World} (h : Tab w) (hb : Below w.heap.size w w') : Tab w' := Joins.tab_stays gPow h hb (Nat.le_refl _)

/-- What Itoa answers: a short string, in a world with more memory. -/
def Itoad (n : Int) (w : World) (e : Ending) (w' : World) : Prop :=
  ∃ s : ByteArray, e = .returned (.string s) ∧ Hid (s.data.toList = Lib.itoa n) ∧ s.size ≤ 21 ∧ Below w.heap.size w w'
theorem Itoa_any (n : Int) (h0 : -9223372036854775808 ≤ n) (h1 : n ≤ 9223372036854775807) (w : World) (ht : Tab w) :
    Calls Tryd.prog 46 #[.int .i64 n] w (Itoad n w) := by
  refine (Tryd.strconv_Itoa n h0 h1 w ht).mono ?_
  rintro e w' ⟨rfl, k, os, rfl⟩
  refine ⟨_, rfl, rfl, ?_, below_grow _ _ (Nat.le_refl _) k os⟩
  have := Lib.itoa_length_le n h0 h1
  simpa [ByteArray.size] using this

theorem itoa_space (s t : ByteArray) (n : Int) (hs : Hid (s.data.toList = Lib.itoa n)) (ht : t.data.toList = [32]) : Lib.strCells (s ++ t) = Lib.byteCells (Lib.itoa n ++ [32]) := by
  unfold Lib.strCells Lib.byteCells
  rw [ByteArray.data_append, Array.toList_append, hs.out, ht]
theorem byteCells_append (a b : List UInt8) : Lib.byteCells a ++ Lib.byteCells b = Lib.byteCells (a ++ b) := by simp [Lib.byteCells]

theorem size_data (s : ByteArray) : s.size = s.data.toList.length := by rw [Array.length_toList]; rfl
theorem head_size (s1 s2 : ByteArray) (h1 : s1.size ≤ 21) (h2 : s2.size ≤ 21) : (({ data := #[112, 32, 99, 110, 102, 32] } : ByteArray) ++ s1 ++ { data := #[32] } ++ s2 ++ { data := #[10] }).size ≤ 100 := by
  rw [size_data] at *
  simp only [ByteArray.data_append, Array.toList_append, List.length_append, List.length_cons, List.length_nil]
  omega
theorem head_data (s1 s2 : ByteArray) (g n : Int) (h1 : s1.data.toList = Lib.itoa g) (h2 : s2.data.toList = Lib.itoa n) : (({ data := #[112, 32, 99, 110, 102, 32] } : ByteArray) ++ s1 ++ { data := #[32] } ++ s2 ++ { data := #[10] }).data.toList = headText g n := by
  simp only [ByteArray.data_append, Array.toList_append, h1, h2]; rfl
theorem word_data (s : ByteArray) (n : Int) (h : s.data.toList = Lib.itoa n) : (s ++ { data := #[32] } : ByteArray).data.toList = Lib.itoa n ++ [32] := by
  simp only [ByteArray.data_append, Array.toList_append, h]
theorem word_size (s : ByteArray) (h : s.size ≤ 21) : (s ++ { data := #[32] } : ByteArray).size ≤ 22 := by
  rw [size_data] at *
  simp only [ByteArray.data_append, Array.toList_append, List.length_append, List.length_cons, List.length_nil]
  omega
theorem take_all {cs : List (List Int)} (h : cs.all rightB = true) (k : Nat) : (cs.take k).all rightB = true := by
  rw [List.all_eq_true] at *; exact fun x hx => h x (List.mem_of_mem_take hx)
theorem take_right {zs : List Int} (h : rightB zs = true) (k : Nat) : rightB (zs.take k) = true := by
  unfold rightB at *; rw [List.all_eq_true] at *; exact fun x hx => h x (List.mem_of_mem_take hx)

/-- The builder in block b holds the text l. -/
def Holding (b : Nat) (l : List UInt8) (w : World) : Prop := Lib.BuilderAt 56 5 b b (.pointer (some ⟨b, 0, none⟩)) (Lib.byteCells l) w
/-- A write to it. -/
def Written (b : Nat) (l : List UInt8) (s : ByteArray) (w : World) (e : Ending) (w' : World) : Prop := e = .returned (.tuple #[.int .i64 s.size, .nilIface]) ∧ Holding b (l ++ s.data.toList) w' ∧ Below b w w'
theorem Write_any (b : Nat) (l : List UInt8) (s : ByteArray) (w : World) (h : Lib.IsBuilder 56 5 b b (Lib.byteCells l) w) (hlen : l.length + s.size ≤ 140737488355328) (hBw : b ≤ w.heap.size) :
    Calls Tryd.prog 45 #[.pointer (some ⟨b, 0, none⟩), .string s] w (Written b l s w) := by
  refine (Bld.WriteString_any b b _ s w h (by rw [Lib.byteCells_length]; exact hlen) hBw).mono ?_
  rintro e w' ⟨rfl, h1, h2⟩
  refine ⟨rfl, ?_, h2⟩
  unfold Holding
  rw [← byteCells_append]
  exact h1

set_option maxHeartbeats 4000000 in
theorem Show_yes (a : Option Addr) (c : Nat) (rs : List Row) (w : World) (ht : Tab w) (hr : RowsIn w a rs) (hl : rs.length ≤ 1000) (hl2 : ∀ r ∈ rs, r.zs.length ≤ 1000) (hok : (rs.map Row.zs).all rightB = true) :
    Calls Tryd.prog 18 #[.slice a rs.length c] w fun e w' => e = .returned (.string ⟨(showText (rs.map Row.zs)).toArray⟩) ∧ Below w.heap.size w w' := by
  have hany : (rs.any fun r => !rightB r.zs) = false := by
    rw [List.any_eq_false]; intro r h; have := List.all_eq_true.1 hok r.zs (List.mem_map_of_mem h); simp [this]
  have HC := Lib.hid (ContainsFunc_rows 44 #[] enters_show a c (fun r => !rightB r.zs) rs w hr.row (by omega) (show_pred rs w hr.each hr.small))
  rw [hany] at HC
  have HG : Hid (∀ w', Below w.heap.size w w' → Calls Tryd.prog 20 #[.slice a rs.length c] w' fun e w'' => e = .returned (.int .i64 (greatest (rs.map Row.zs))) ∧ w' = w'') := fun w' hb => Greatest_any a c rs w' (hr.below hb) (by omega)
  have hg := greatest_bd (rs.map Row.zs)
  have HTXT : Hid (∀ g : Int, g = greatest (rs.map Row.zs) → showText (rs.map Row.zs) = headText g (rs.length : Int) ++ rowsText (rs.map Row.zs)) := by
    intro g e; unfold showText; rw [if_pos hok, e, List.length_map]
  have HOK := Lib.hid hok
  have HL2 := Lib.hid hl2
  obtain ⟨g, hgg⟩ : ∃ g, g = greatest (rs.map Row.zs) := ⟨_, rfl⟩
  rw [← hgg] at hg HG
  have HTX := Lib.hid (HTXT.out g hgg)
  have HR := Lib.hid hr
  have HT := Lib.hid ht
  clear hok hr ht hany hgg HTXT hl2
  go_enter Tryd.func18, Tryd.ntmps18
  go_wp2_with fail
  refine HC.out.mono ?_
  rintro e w1 ⟨rfl, hb1⟩
  clear HC
  go_wp2_with fail
  refine (HG.out _ (hb1.alloc hb1.size _)).mono ?_
  rintro e w2 ⟨rfl, rfl⟩
  clear HG
  have hle := hb1.size
  have hA : Below w1.heap.size w1 (w1.alloc (.cells #[.pointer none, .slice none 0 0] 56)) := (Below.refl _ _).alloc (Nat.le_refl _) _
  go_wp2_with fail
  refine (Itoa_any _ (by omega) (by omega) _ (HT.out.below (hb1.trans (hA.mono hle)))).mono ?_
  rintro e w3 ⟨s1, rfl, hs1, hl1, hb3⟩
  have hA3 : Below w1.heap.size w1 w3 := hA.trans (hb3.mono (by simp))
  go_wp2_with fail
  refine (Itoa_any _ (by omega) (by omega) _ (HT.out.below (hb1.trans (hA3.mono hle)))).mono ?_
  rintro e w4 ⟨s2, rfl, hs2, hl2, hb4⟩
  have hA4 : Below w1.heap.size w1 w4 := hA3.trans (hb4.mono hA3.size)
  have hfresh : Lib.IsBuilder 56 5 w1.heap.size w1.heap.size (Lib.byteCells []) w4 := by
    rcases Lib.fresh_isBuilder 56 5 w1 with h | h
    · exact Or.inl (Bld.builder_below (Bld.builder_below h hb3) hb4)
    · exact Or.inr (Bld.builder_below (Bld.builder_below h hb3) hb4)
  have HB := Lib.hid hfresh
  clear hfresh
  go_wp2_with fail
  have hsz4 := head_size s1 s2 hl1 hl2
  have hdata := head_data s1 s2 g (rs.length : Int) hs1.out hs2.out
  generalize (({ data := #[112, 32, 99, 110, 102, 32] } : ByteArray) ++ s1 ++ { data := #[32] } ++ s2 ++ { data := #[10] }) = hd at *
  have HD := Lib.hid hdata
  clear hdata
  refine (Write_any w1.heap.size [] hd w4 HB.out (by simp; omega) hA4.size).mono ?_
  rintro e w5 ⟨rfl, hH5, hB5⟩
  have hhl : (headText g (rs.length : Int)).length ≤ 100 := by rw [← HD.out, ← size_data]; exact hsz4
  rw [List.nil_append, HD.out] at hH5
  have hB5 : Below w1.heap.size w1 w5 := hA4.trans hB5
  clear HB hs1 hs2 HD
  generalize headText g (rs.length : Int) = ht at *
  go_wp2
  go_loopw [5, 23] (fun _ i wr => ∃ k : Nat, k ≤ rs.length ∧ i = .int .i64 k ∧ Below w1.heap.size w1 wr ∧ Hid (Holding w1.heap.size (ht ++ rowsText ((rs.map Row.zs).take k)) wr)) (fun _ i _ => rs.length - (intOf i).toNat)
  case atStart => exact ⟨0, Nat.zero_le _, rfl, hB5, by show Holding _ _ _; simpa [rowsText] using hH5⟩
  case round =>
    obtain ⟨k, hk, rfl, hBr, HH⟩ := hrel
    obtain ⟨wo, rfl⟩ : ∃ wo : World, wo = wr := ⟨_, rfl⟩
    clear hH5 hB5
    by_cases hlt : k < rs.length
    · have hltz : (k : Int) < (rs.length : Int) := by omega
      have hBw := hb1.trans (hBr.mono hle)
      have hR := HR.out.below hBw
      obtain ⟨b, off, rfl, hb, hc⟩ := hR.row.pos hlt
      have c1 : wo.cell? ⟨b, off + k, none⟩ = some (.slice rs[k]!.a rs[k]!.zs.length rs[k]!.c) := hc k hlt
      have hrow := HR.out.each rs[k]! (getElem!_mem hlt)
      have hll := HL2.out rs[k]! (getElem!_mem hlt)
      have hrt : rightB rs[k]!.zs = true := List.all_eq_true.1 HOK.out _ (List.mem_map_of_mem (getElem!_mem hlt))
      have HS : Hid (rowsText ((rs.map Row.zs).take (k + 1)) = rowsText ((rs.map Row.zs).take k) ++ (rowText rs[k]!.zs ++ [48, 10])) := by
        show _ = _
        rw [take_succ! (by simpa using hlt), rowsText_snoc, map_get! rs hlt]
      have hlen : (rowsText ((rs.map Row.zs).take k)).length ≤ 22002 * 1000 := by
        have := rowsText_length (take_all HOK.out k) (fun c hc => by
          obtain ⟨r, hr, rfl⟩ := List.mem_map.1 (List.mem_of_mem_take hc); exact HL2.out r hr)
        rw [List.length_take, List.length_map] at this; omega
      clear hR hc
      generalize rowsText ((rs.map Row.zs).take k) = T at *
      generalize rs[k]!.zs = zs at *
      generalize rs[k]!.a = ra at *
      generalize rs[k]!.c = rc at *
      have HRT := Lib.hid hrt
      clear hrt
      go_wp2
      go_loopw [7, 29] (fun _ i wr => ∃ j : Nat, j ≤ zs.length ∧ i = .int .i64 j ∧ Below w1.heap.size w1 wr ∧ Hid (Holding w1.heap.size (ht ++ T ++ rowText (zs.take j)) wr)) (fun _ i _ => zs.length - (intOf i).toNat)
      case atStart => exact ⟨0, Nat.zero_le _, rfl, hBr, by show Holding _ _ _; simpa [rowText] using HH.out⟩
      case round =>
        clear c1 hBw hBr HH
        obtain ⟨j, hj, rfl, hBr, HH⟩ := hrel
        obtain ⟨wi, rfl⟩ : ∃ wi : World, wi = wr := ⟨_, rfl⟩
        have hBw := hb1.trans (hBr.mono hle)
        have hrt := rowText_length (take_right HRT.out j)
        rw [List.length_take] at hrt
        have hrt : (rowText (zs.take j)).length ≤ 22000 := by omega
        by_cases hjlt : j < zs.length
        · have hjz : (j : Int) < (zs.length : Int) := by omega
          obtain ⟨b', off', rfl, hb', hc'⟩ := (hrow.below hBw).pos hjlt
          have c2 := hc' j hjlt
          have hxb := rightB_bd HRT.out zs[j]! (getElem!_mem hjlt)
          have HS2 : Hid (rowText (zs.take (j + 1)) = rowText (zs.take j) ++ (Lib.itoa zs[j]! ++ [32])) := by show _ = _; rw [take_succ! hjlt, rowText_snoc]
          clear hc' hrow
          generalize zs[j]! = x at *
          generalize rowText (zs.take j) = U at *
          go_wp2_with fail
          refine (Itoa_any _ (by omega) (by omega) _ (HT.out.below hBw)).mono ?_
          rintro e w6 ⟨s, rfl, hs, hsl, hb6⟩
          have hB6 : Below w1.heap.size w1 w6 := hBr.trans (hb6.mono hBr.size)
          have HH6 : Hid (Holding w1.heap.size (ht ++ T ++ U) w6) := Bld.builder_below HH.out hb6
          go_wp2_with fail
          have hwd := word_data s x hs.out
          have hws := word_size s hsl
          generalize (s ++ { data := #[32] } : ByteArray) = sp at *
          have HWD := Lib.hid hwd
          clear hwd hs HH
          refine (Write_any w1.heap.size (ht ++ T ++ U) sp w6 (Or.inr HH6.out) (by simp only [List.length_append]; omega) hB6.size).mono ?_
          rintro e w7 ⟨rfl, hH7, hB7⟩
          rw [HWD.out] at hH7
          have HH7 := Lib.hid hH7
          clear hH7
          go_wp2_with fail
          go_roundw
          case rel => exact ⟨j + 1, by omega, by go_num, hB6.trans hB7, by show Holding _ _ _; rw [HS2.out, ← List.append_assoc]; exact HH7.out⟩
          case measure => simp [intOf]; omega
        · have hjz : ¬ (j : Int) < (zs.length : Int) := by omega
          have e : j = zs.length := by omega
          have HH2 : Hid (Holding w1.heap.size (ht ++ T ++ rowText zs) wi) := by
            have := HH.out; rw [e, List.take_length] at this; exact this
          have hrt : (rowText zs).length ≤ 22000 := by rw [e, List.take_length] at hrt; exact hrt
          clear HH e
          go_wp2_with fail
          refine (Write_any w1.heap.size (ht ++ T ++ rowText zs) { data := #[48, 10] } wi (Or.inr HH2.out) (by simp only [List.length_append, size_data, List.length_cons, List.length_nil]; omega) hBr.size).mono ?_
          rintro e w7 ⟨rfl, hH7, hB7⟩
          have HH7 := Lib.hid hH7
          clear hH7
          go_wp2_with fail
          go_roundw
          case rel => exact ⟨k + 1, by omega, by go_num, hBr.trans hB7, by show Holding _ _ _; rw [HS.out]; simpa only [List.append_assoc] using HH7.out⟩
          case measure => simp [intOf]; omega
    · have hltz : ¬ (k : Int) < (rs.length : Int) := by omega
      have HF : Hid (Holding w1.heap.size (showText (rs.map Row.zs)) wo) := by
        show Holding _ _ _
        have := HH.out
        rw [List.take_of_length_le (by simp; omega), ← HTX.out] at this
        exact this
      obtain ⟨TT, hTT⟩ : ∃ TT, TT = showText (rs.map Row.zs) := ⟨_, rfl⟩
      rw [← hTT] at HF
      have HE := Lib.hid hTT
      clear HH HTX hTT
      have HBr := Lib.hid hBr
      go_wp2_with fail
      refine (Tryd.Builder_String_any w1.heap.size w1.heap.size TT wo (Or.inr HF.out) hBr.size).mono ?_
      rintro e w6 ⟨rfl, hb6⟩
      go_wp2_with fail
      go_ret
      exact ⟨by rw [← HE.out]; rfl, (hb1.trans (hBr.mono hle)).trans (hb6.mono hle)⟩

set_option maxHeartbeats 1000000 in
theorem Show_no (a : Option Addr) (c : Nat) (rs : List Row) (w : World) (hr : RowsIn w a rs) (hl : rs.length ≤ 1000) (hok : (rs.map Row.zs).all rightB = false) :
    Calls Tryd.prog 18 #[.slice a rs.length c] w fun e w' => e = .returned (.string ⟨(showText (rs.map Row.zs)).toArray⟩) ∧ Below w.heap.size w w' := by
  have hany : (rs.any fun r => !rightB r.zs) = true := by
    rw [List.all_eq_false] at hok
    obtain ⟨c, hc, h⟩ := hok
    obtain ⟨r, hr, rfl⟩ := List.mem_map.1 hc
    exact List.any_eq_true.2 ⟨r, hr, by simp [h]⟩
  have HC := Lib.hid (ContainsFunc_rows 44 #[] enters_show a c (fun r => !rightB r.zs) rs w hr.row (by omega) (show_pred rs w hr.each hr.small))
  rw [hany] at HC
  rw [show showText (rs.map Row.zs) = [] by unfold showText; rw [if_neg (by rw [hok]; simp)]]
  clear hok hany hr
  go_enter Tryd.func18, Tryd.ntmps18
  go_wp2_with fail
  refine HC.out.mono ?_
  rintro e w1 ⟨rfl, hb1⟩
  go_wp2_with fail
  go_ret
  exact ⟨rfl, hb1⟩

theorem Show_any (a : Option Addr) (c : Nat) (rs : List Row) (w : World) (ht : Tab w) (hr : RowsIn w a rs) (hl : rs.length ≤ 1000) (hl2 : ∀ r ∈ rs, r.zs.length ≤ 1000) :
    Calls Tryd.prog 18 #[.slice a rs.length c] w fun e w' => e = .returned (.string ⟨(showText (rs.map Row.zs)).toArray⟩) ∧ Below w.heap.size w w' := by
  cases h : (rs.map Row.zs).all rightB with
  | true => exact Show_yes a c rs w ht hr hl hl2 h
  | false => exact Show_no a c rs w hr hl h
end Go.Proofs.YtiimdehcfkoemaaDoor.Cl
