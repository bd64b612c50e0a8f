/- The contract of the document's own words (weirgateref01.words). -/
import Derived.Test.YtiimdehcfkoemaaDoorClY
import Derived.Laws.IdiomStrings
namespace Go.Proofs.YtiimdehcfkoemaaDoor.Cl
open Go Go.RowKit Go.Lib Go.Sort

def stAt (l : List UInt8) (k : Nat) : WSt := ((l ++ [10]).take k).foldl wstep ⟨true, false, [], []⟩
theorem stAt_succ {l : List UInt8} {k : Nat} {c : UInt8} (h : (l ++ [10])[k]? = some c) : stAt l (k + 1) = wstep (stAt l k) c := by
  obtain ⟨hk, e⟩ := List.getElem?_eq_some_iff.1 h
  unfold stAt
  rw [List.take_succ_eq_append_getElem hk, List.foldl_append, e]; rfl
theorem wstep_sep {st : WSt} {c : UInt8} (h : isSep c = true) : wstep st c = ⟨c == 10, (if st.begin_ then c == 99 else st.skip), [], if st.word = [] then st.out else st.out ++ [st.word]⟩ := by unfold wstep; rw [h]; rfl
theorem wstep_non {st : WSt} {c : UInt8} (h : isSep c = false) : wstep st c = ⟨c == 10, (if st.begin_ then c == 99 else st.skip), (if (if st.begin_ then c == 99 else st.skip) then st.word else st.word ++ [c]), st.out⟩ := by unfold wstep; rw [h]; rfl

/-- How the words are held. -/
structure WHeld (l : List UInt8) (k : Nat) (B : Nat) (v3 v4 v5 v6 : Value) (wr : World) : Prop where
  ex : ∃ (O : List ByteArray) (wd : ByteArray), v4 = .string wd ∧ wd.data.toList = (stAt l k).word ∧ O.map (·.data.toList) = (stAt l k).out ∧ wr.ownsRow B 9 1 v3 O.length (O.map Value.string)
  b5 : v5 = .bool (stAt l k).begin_
  b6 : v6 = .bool (stAt l k).skip

theorem WHeld.sepEmpty {l : List UInt8} {k B : Nat} {v3 : Value} {wr : World} {c : UInt8} {O : List ByteArray} (hc : (l ++ [10])[k]? = some c) (hs : isSep c = true) (hw : (stAt l k).word = []) (hO : O.map (·.data.toList) = (stAt l k).out) (hown : wr.ownsRow B 9 1 v3 O.length (O.map Value.string)) {b q : Bool} (hb : b = (c == 10)) (hq : q = if (stAt l k).begin_ then c == 99 else (stAt l k).skip) :
    WHeld l (k + 1) B v3 (.string ⟨#[]⟩) (.bool b) (.bool q) wr := by
  have e := stAt_succ hc
  rw [wstep_sep hs] at e
  exact ⟨⟨O, ⟨#[]⟩, rfl, by rw [e], by rw [e, if_pos hw]; exact hO, hown⟩, by rw [e, hb], by rw [e, hq]⟩
theorem WHeld.sepPush {l : List UInt8} {k B : Nat} {v3 : Value} {wr : World} {c : UInt8} {O : List ByteArray} {wd : ByteArray} (hc : (l ++ [10])[k]? = some c) (hs : isSep c = true) (hwd : wd.data.toList = (stAt l k).word) (hw : (stAt l k).word ≠ []) (hO : O.map (·.data.toList) = (stAt l k).out) (hown : wr.ownsRow B 9 1 v3 (O.length + 1) (O.map Value.string ++ [.string wd])) {b q : Bool} (hb : b = (c == 10)) (hq : q = if (stAt l k).begin_ then c == 99 else (stAt l k).skip) :
    WHeld l (k + 1) B v3 (.string ⟨#[]⟩) (.bool b) (.bool q) wr := by
  have e := stAt_succ hc
  rw [wstep_sep hs] at e
  refine ⟨⟨O ++ [wd], ⟨#[]⟩, rfl, by rw [e], ?_, ?_⟩, by rw [e, hb], by rw [e, hq]⟩
  · rw [e, if_neg hw, List.map_append, hO, List.map_cons, List.map_nil, hwd]
  · rw [List.length_append, List.map_append]; exact hown
theorem WHeld.nonSkip {l : List UInt8} {k B : Nat} {v3 : Value} {wr : World} {c : UInt8} {O : List ByteArray} {wd : ByteArray} (hc : (l ++ [10])[k]? = some c) (hs : isSep c = false) (hwd : wd.data.toList = (stAt l k).word) (hO : O.map (·.data.toList) = (stAt l k).out) (hown : wr.ownsRow B 9 1 v3 O.length (O.map Value.string)) {b : Bool} (hb : b = (c == 10)) (hq : (if (stAt l k).begin_ then c == 99 else (stAt l k).skip) = true) :
    WHeld l (k + 1) B v3 (.string wd) (.bool b) (.bool true) wr := by
  have e := stAt_succ hc
  rw [wstep_non hs] at e
  exact ⟨⟨O, wd, rfl, by rw [e, if_pos hq]; exact hwd, by rw [e]; exact hO, hown⟩, by rw [e, hb], by rw [e, hq]⟩
theorem WHeld.nonAdd {l : List UInt8} {k B : Nat} {v3 : Value} {wr : World} {c : UInt8} {O : List ByteArray} {wd : ByteArray} (hc : (l ++ [10])[k]? = some c) (hs : isSep c = false) (hwd : wd.data.toList = (stAt l k).word) (hO : O.map (·.data.toList) = (stAt l k).out) (hown : wr.ownsRow B 9 1 v3 O.length (O.map Value.string)) {b : Bool} (hb : b = (c == 10)) (hq : (if (stAt l k).begin_ then c == 99 else (stAt l k).skip) = false) :
    WHeld l (k + 1) B v3 (.string (wd ++ ⟨#[c]⟩)) (.bool b) (.bool false) wr := by
  have e := stAt_succ hc
  rw [wstep_non hs] at e
  refine ⟨⟨O, wd ++ ⟨#[c]⟩, rfl, ?_, by rw [e]; exact hO, hown⟩, by rw [e, hb], by rw [e, hq]⟩
  rw [e, hq, ByteArray.data_append, Array.toList_append, hwd]; rfl
theorem stAt_short : ∀ (l : List UInt8) (k : Nat), (stAt l k).word.length ≤ k ∧ (stAt l k).out.length ≤ k
  | l, 0 => by simp [stAt]
  | l, k + 1 => by
    have ih := stAt_short l k
    cases hc : (l ++ [10])[k]? with
    | none =>
      have hk : (l ++ [10]).length ≤ k := by simpa using hc
      have e : stAt l (k + 1) = stAt l k := by unfold stAt; rw [List.take_of_length_le (by omega), List.take_of_length_le hk]
      rw [e]; omega
    | some c =>
      rw [stAt_succ hc]
      unfold wstep
      split
      · simp only [List.length_nil]
        refine ⟨by omega, ?_⟩
        split
        · omega
        · simp; omega
      · have hlen : ∀ p : Bool, (if p then (stAt l k).word else (stAt l k).word ++ [c]).length ≤ (stAt l k).word.length + 1 := by intro p; cases p <;> simp
        exact ⟨Nat.le_trans (hlen _) (by omega), by simp only; omega⟩
theorem byte_eq {c : UInt8} {n : Nat} (h : c.toNat = n) (m : Nat) : ((c.toNat : Int) == (m : Int)) = decide (n = m) := by
  rw [h, Bool.eq_iff_iff, beq_iff_eq, decide_eq_true_eq]; omega

set_option maxHeartbeats 4000000 in
set_option maxRecDepth 100000 in
theorem refWords_any (s : ByteArray) (w : World) (hs : s.size ≤ 100000) :
    Calls Tryd.prog 52 #[.string s] w (Worded w (wordsL s.data.toList)) := by
  have hl : s.data.toList.length = s.size := by rw [Array.length_toList]; rfl
  obtain ⟨i0, hi, hz0, hz1, hz2⟩ := info_parts info_string
  go_enter Tryd.func52, Tryd.ntmps52
  go_wp2
  go_loopw [3, 4, 5, 6, 7, 8] (fun s3 s4 s5 s6 s7 _ wr => ∃ k : Nat, k ≤ s.size + 1 ∧ s7 = .int .i64 k ∧ Hid (WHeld s.data.toList k w.heap.size s3 s4 s5 s6 wr) ∧ Below w.heap.size w wr) (fun _ _ _ _ s7 _ _ => s.size + 1 - (intOf s7).toNat)
  case atStart => exact ⟨0, Nat.zero_le _, rfl, ⟨⟨[], ⟨#[]⟩, rfl, rfl, rfl, World.ownsRow_nil _ _ _ _⟩, rfl, rfl⟩, Below.refl _ _⟩
  case round =>
    obtain ⟨k, hk, rfl, HW, hB⟩ := hrel
    obtain ⟨wo, rfl⟩ : ∃ wo : World, wo = wr := ⟨_, rfl⟩
    obtain ⟨⟨O, wd, rfl, hwd, hO, hown⟩, rfl, rfl⟩ := HW.out
    have HWD := Lib.hid hwd
    have HO := Lib.hid hO
    have HOWN := Lib.hid hown
    have hsh := stAt_short s.data.toList k
    have hol : O.length ≤ 100002 := by
      have h1 : O.length = (stAt s.data.toList k).out.length := by rw [← hO, List.length_map]
      omega
    have hwl : wd.size ≤ 100002 := by
      have h1 : wd.data.toList.length = wd.size := by rw [Array.length_toList]; rfl
      rw [hwd] at h1
      omega
    have hwt : wd.toList = wd.data.toList := toList_data wd
    rw [hwd] at hwt
    clear hwd hO hown HW hsh
    by_cases hlt : k < s.size
    · have hkz : (k : Int) ≤ (s.size : Int) := by omega
      have hltz : (k : Int) < (s.size : Int) := by omega
      have HC : Hid ((s.data.toList ++ [10])[k]? = some (s[k]'hlt)) := by
        show _ = _
        rw [List.getElem?_append_left (by omega), List.getElem?_eq_getElem (by omega)]; rfl
      have HCT : Hid ((s[k]'hlt).toNat < 256) := (s[k]'hlt).toNat_lt
      by_cases hsep : isSep (s[k]'hlt) = true
      · have HSEP := Lib.hid hsep
        have hval : (s[k]'hlt).toNat = 32 ∨ (s[k]'hlt).toNat = 9 ∨ (s[k]'hlt).toNat = 13 ∨ (s[k]'hlt).toNat = 10 := by
          rw [← sepN_byte] at hsep
          unfold sepN at hsep
          simp only [Bool.or_eq_true, beq_iff_eq] at hsep
          omega
        clear hsep
        rcases hval with hv | hv | hv | hv
        · have n1 : (((s[k]'hlt).toNat : Int) == 32) = true := by rw [hv]; rfl
          have n2 : (((s[k]'hlt).toNat : Int) == 9) = false := by rw [hv]; rfl
          have n3 : (((s[k]'hlt).toNat : Int) == 13) = false := by rw [hv]; rfl
          have n4 : (((s[k]'hlt).toNat : Int) == 10) = false := by rw [hv]; rfl
          have n5 : (((s[k]'hlt).toNat : Int) == 99) = false := by rw [hv]; rfl
          have HV : Hid (s[k]'hlt = 32) := UInt8.toNat_inj.1 hv
          clear hv
          generalize hbg : (stAt s.data.toList k).begin_ = bg
          have HBGE := Lib.hid hbg
          clear hbg
          cases bg
          · by_cases hw : (stAt s.data.toList k).word = []
            · have e1 : wd.toList = [] := hwt.trans hw
              have e2 : wd.toList.isEmpty = true := by rw [e1]; rfl
              have HWE := Lib.hid hw
              clear hw hwt
              go_wp2_with fail
              go_roundw
              case rel => exact ⟨k + 1, by omega, by go_num, WHeld.sepEmpty HC.out HSEP.out HWE.out HO.out HOWN.out (by rw [HV.out]; rfl) (by rw [HBGE.out]; rfl), hB⟩
              case measure => simp [intOf]; omega
            · have e1 : ¬ wd.toList = [] := by rw [hwt]; exact hw
              have e2 : wd.toList.isEmpty = false := by
                cases hh : wd.toList with
                | nil => exact absurd hh e1
                | cons a b => rfl
              have HWE := Lib.hid hw
              have hal : Below wo.heap.size wo (wo.alloc (.cells #[.string wd] 9)) := (Below.refl _ _).alloc (Nat.le_refl _) _
              have HB3 := Lib.hid (hB.trans (hal.mono hB.size))
              have HOWN3 := Lib.hid (HOWN.out.alloc (.cells #[.string wd] 9))
              have HONE := Lib.hid (one_cell wo (.string wd) 9)
              clear hw hwt hal
              go_wp2_with (at_builtin; refine wpList_append_own _ rfl (.tmp 43) (.tmp 45) 63 rfl w.heap.size 9 i0 (.string ⟨#[]⟩) 1 16 Tryd.underlying63 hi hz0 hz1 hz2 rfl (by decide) _ O.length (O.map Value.string) rfl HOWN3.out ⟨wo.heap.size, 0, none⟩ 1 1 [.string wd] rfl ?h1x1 ?h1x2 ?h1x3 ?h1x4 ?h1x5 ?h1x6 ?_)
              try case h1x1 => rfl
              try case h1x2 => exact HONE.out
              case h1x3 => first | (intro u hu; rw [List.mem_singleton.1 hu]; rfl) | rfl | simp [Value.oneCell']
              case h1x4 => unfold maxLen; omega
              case h1x5 => omega
              case h1x6 => first | exact HB3.out.size | (have hz := HB3.out.size; rw [World.alloc_size] at hz; exact hz) | (have hz := HB3.out.size; simp at hz; exact hz)
              intro v3 w3 hown3 hgrow3 _
              have hB4 : Below w.heap.size w w3 := Below.grown HB3.out hgrow3 HB3.out.size (fun k' hk' => (HOWN.out.lt k' hk').1)
              have HOWN4 := Lib.hid hown3
              clear hown3 hgrow3
              go_wp2_with fail
              go_roundw
              case rel => exact ⟨k + 1, by omega, by go_num, WHeld.sepPush HC.out HSEP.out HWD.out HWE.out HO.out HOWN4.out (by rw [HV.out]; rfl) (by rw [HBGE.out]; rfl), hB4⟩
              case measure => simp [intOf]; omega
          · by_cases hw : (stAt s.data.toList k).word = []
            · have e1 : wd.toList = [] := hwt.trans hw
              have e2 : wd.toList.isEmpty = true := by rw [e1]; rfl
              have HWE := Lib.hid hw
              clear hw hwt
              go_wp2_with fail
              go_roundw
              case rel => exact ⟨k + 1, by omega, by go_num, WHeld.sepEmpty HC.out HSEP.out HWE.out HO.out HOWN.out (by rw [HV.out]; rfl) (by rw [HBGE.out]; rw [HV.out]; rfl), hB⟩
              case measure => simp [intOf]; omega
            · have e1 : ¬ wd.toList = [] := by rw [hwt]; exact hw
              have e2 : wd.toList.isEmpty = false := by
                cases hh : wd.toList with
                | nil => exact absurd hh e1
                | cons a b => rfl
              have HWE := Lib.hid hw
              have hal : Below wo.heap.size wo (wo.alloc (.cells #[.string wd] 9)) := (Below.refl _ _).alloc (Nat.le_refl _) _
              have HB3 := Lib.hid (hB.trans (hal.mono hB.size))
              have HOWN3 := Lib.hid (HOWN.out.alloc (.cells #[.string wd] 9))
              have HONE := Lib.hid (one_cell wo (.string wd) 9)
              clear hw hwt hal
              go_wp2_with (at_builtin; refine wpList_append_own _ rfl (.tmp 43) (.tmp 45) 63 rfl w.heap.size 9 i0 (.string ⟨#[]⟩) 1 16 Tryd.underlying63 hi hz0 hz1 hz2 rfl (by decide) _ O.length (O.map Value.string) rfl HOWN3.out ⟨wo.heap.size, 0, none⟩ 1 1 [.string wd] rfl ?h2x1 ?h2x2 ?h2x3 ?h2x4 ?h2x5 ?h2x6 ?_)
              try case h2x1 => rfl
              try case h2x2 => exact HONE.out
              case h2x3 => first | (intro u hu; rw [List.mem_singleton.1 hu]; rfl) | rfl | simp [Value.oneCell']
              case h2x4 => unfold maxLen; omega
              case h2x5 => omega
              case h2x6 => first | exact HB3.out.size | (have hz := HB3.out.size; rw [World.alloc_size] at hz; exact hz) | (have hz := HB3.out.size; simp at hz; exact hz)
              intro v3 w3 hown3 hgrow3 _
              have hB4 : Below w.heap.size w w3 := Below.grown HB3.out hgrow3 HB3.out.size (fun k' hk' => (HOWN.out.lt k' hk').1)
              have HOWN4 := Lib.hid hown3
              clear hown3 hgrow3
              go_wp2_with fail
              go_roundw
              case rel => exact ⟨k + 1, by omega, by go_num, WHeld.sepPush HC.out HSEP.out HWD.out HWE.out HO.out HOWN4.out (by rw [HV.out]; rfl) (by rw [HBGE.out]; rw [HV.out]; rfl), hB4⟩
              case measure => simp [intOf]; omega
        · have n1 : (((s[k]'hlt).toNat : Int) == 32) = false := by rw [hv]; rfl
          have n2 : (((s[k]'hlt).toNat : Int) == 9) = true := by rw [hv]; rfl
          have n3 : (((s[k]'hlt).toNat : Int) == 13) = false := by rw [hv]; rfl
          have n4 : (((s[k]'hlt).toNat : Int) == 10) = false := by rw [hv]; rfl
          have n5 : (((s[k]'hlt).toNat : Int) == 99) = false := by rw [hv]; rfl
          have HV : Hid (s[k]'hlt = 9) := UInt8.toNat_inj.1 hv
          clear hv
          generalize hbg : (stAt s.data.toList k).begin_ = bg
          have HBGE := Lib.hid hbg
          clear hbg
          cases bg
          · by_cases hw : (stAt s.data.toList k).word = []
            · have e1 : wd.toList = [] := hwt.trans hw
              have e2 : wd.toList.isEmpty = true := by rw [e1]; rfl
              have HWE := Lib.hid hw
              clear hw hwt
              go_wp2_with fail
              go_roundw
              case rel => exact ⟨k + 1, by omega, by go_num, WHeld.sepEmpty HC.out HSEP.out HWE.out HO.out HOWN.out (by rw [HV.out]; rfl) (by rw [HBGE.out]; rfl), hB⟩
              case measure => simp [intOf]; omega
            · have e1 : ¬ wd.toList = [] := by rw [hwt]; exact hw
              have e2 : wd.toList.isEmpty = false := by
                cases hh : wd.toList with
                | nil => exact absurd hh e1
                | cons a b => rfl
              have HWE := Lib.hid hw
              have hal : Below wo.heap.size wo (wo.alloc (.cells #[.string wd] 9)) := (Below.refl _ _).alloc (Nat.le_refl _) _
              have HB3 := Lib.hid (hB.trans (hal.mono hB.size))
              have HOWN3 := Lib.hid (HOWN.out.alloc (.cells #[.string wd] 9))
              have HONE := Lib.hid (one_cell wo (.string wd) 9)
              clear hw hwt hal
              go_wp2_with (at_builtin; refine wpList_append_own _ rfl (.tmp 43) (.tmp 45) 63 rfl w.heap.size 9 i0 (.string ⟨#[]⟩) 1 16 Tryd.underlying63 hi hz0 hz1 hz2 rfl (by decide) _ O.length (O.map Value.string) rfl HOWN3.out ⟨wo.heap.size, 0, none⟩ 1 1 [.string wd] rfl ?h3x1 ?h3x2 ?h3x3 ?h3x4 ?h3x5 ?h3x6 ?_)
              try case h3x1 => rfl
              try case h3x2 => exact HONE.out
              case h3x3 => first | (intro u hu; rw [List.mem_singleton.1 hu]; rfl) | rfl | simp [Value.oneCell']
              case h3x4 => unfold maxLen; omega
              case h3x5 => omega
              case h3x6 => first | exact HB3.out.size | (have hz := HB3.out.size; rw [World.alloc_size] at hz; exact hz) | (have hz := HB3.out.size; simp at hz; exact hz)
              intro v3 w3 hown3 hgrow3 _
              have hB4 : Below w.heap.size w w3 := Below.grown HB3.out hgrow3 HB3.out.size (fun k' hk' => (HOWN.out.lt k' hk').1)
              have HOWN4 := Lib.hid hown3
              clear hown3 hgrow3
              go_wp2_with fail
              go_roundw
              case rel => exact ⟨k + 1, by omega, by go_num, WHeld.sepPush HC.out HSEP.out HWD.out HWE.out HO.out HOWN4.out (by rw [HV.out]; rfl) (by rw [HBGE.out]; rfl), hB4⟩
              case measure => simp [intOf]; omega
          · by_cases hw : (stAt s.data.toList k).word = []
            · have e1 : wd.toList = [] := hwt.trans hw
              have e2 : wd.toList.isEmpty = true := by rw [e1]; rfl
              have HWE := Lib.hid hw
              clear hw hwt
              go_wp2_with fail
              go_roundw
              case rel => exact ⟨k + 1, by omega, by go_num, WHeld.sepEmpty HC.out HSEP.out HWE.out HO.out HOWN.out (by rw [HV.out]; rfl) (by rw [HBGE.out]; rw [HV.out]; rfl), hB⟩
              case measure => simp [intOf]; omega
            · have e1 : ¬ wd.toList = [] := by rw [hwt]; exact hw
              have e2 : wd.toList.isEmpty = false := by
                cases hh : wd.toList with
                | nil => exact absurd hh e1
                | cons a b => rfl
              have HWE := Lib.hid hw
              have hal : Below wo.heap.size wo (wo.alloc (.cells #[.string wd] 9)) := (Below.refl _ _).alloc (Nat.le_refl _) _
              have HB3 := Lib.hid (hB.trans (hal.mono hB.size))
              have HOWN3 := Lib.hid (HOWN.out.alloc (.cells #[.string wd] 9))
              have HONE := Lib.hid (one_cell wo (.string wd) 9)
              clear hw hwt hal
              go_wp2_with (at_builtin; refine wpList_append_own _ rfl (.tmp 43) (.tmp 45) 63 rfl w.heap.size 9 i0 (.string ⟨#[]⟩) 1 16 Tryd.underlying63 hi hz0 hz1 hz2 rfl (by decide) _ O.length (O.map Value.string) rfl HOWN3.out ⟨wo.heap.size, 0, none⟩ 1 1 [.string wd] rfl ?h4x1 ?h4x2 ?h4x3 ?h4x4 ?h4x5 ?h4x6 ?_)
              try case h4x1 => rfl
              try case h4x2 => exact HONE.out
              case h4x3 => first | (intro u hu; rw [List.mem_singleton.1 hu]; rfl) | rfl | simp [Value.oneCell']
              case h4x4 => unfold maxLen; omega
              case h4x5 => omega
              case h4x6 => first | exact HB3.out.size | (have hz := HB3.out.size; rw [World.alloc_size] at hz; exact hz) | (have hz := HB3.out.size; simp at hz; exact hz)
              intro v3 w3 hown3 hgrow3 _
              have hB4 : Below w.heap.size w w3 := Below.grown HB3.out hgrow3 HB3.out.size (fun k' hk' => (HOWN.out.lt k' hk').1)
              have HOWN4 := Lib.hid hown3
              clear hown3 hgrow3
              go_wp2_with fail
              go_roundw
              case rel => exact ⟨k + 1, by omega, by go_num, WHeld.sepPush HC.out HSEP.out HWD.out HWE.out HO.out HOWN4.out (by rw [HV.out]; rfl) (by rw [HBGE.out]; rw [HV.out]; rfl), hB4⟩
              case measure => simp [intOf]; omega
        · have n1 : (((s[k]'hlt).toNat : Int) == 32) = false := by rw [hv]; rfl
          have n2 : (((s[k]'hlt).toNat : Int) == 9) = false := by rw [hv]; rfl
          have n3 : (((s[k]'hlt).toNat : Int) == 13) = true := by rw [hv]; rfl
          have n4 : (((s[k]'hlt).toNat : Int) == 10) = false := by rw [hv]; rfl
          have n5 : (((s[k]'hlt).toNat : Int) == 99) = false := by rw [hv]; rfl
          have HV : Hid (s[k]'hlt = 13) := UInt8.toNat_inj.1 hv
          clear hv
          generalize hbg : (stAt s.data.toList k).begin_ = bg
          have HBGE := Lib.hid hbg
          clear hbg
          cases bg
          · by_cases hw : (stAt s.data.toList k).word = []
            · have e1 : wd.toList = [] := hwt.trans hw
              have e2 : wd.toList.isEmpty = true := by rw [e1]; rfl
              have HWE := Lib.hid hw
              clear hw hwt
              go_wp2_with fail
              go_roundw
              case rel => exact ⟨k + 1, by omega, by go_num, WHeld.sepEmpty HC.out HSEP.out HWE.out HO.out HOWN.out (by rw [HV.out]; rfl) (by rw [HBGE.out]; rfl), hB⟩
              case measure => simp [intOf]; omega
            · have e1 : ¬ wd.toList = [] := by rw [hwt]; exact hw
              have e2 : wd.toList.isEmpty = false := by
                cases hh : wd.toList with
                | nil => exact absurd hh e1
                | cons a b => rfl
              have HWE := Lib.hid hw
              have hal : Below wo.heap.size wo (wo.alloc (.cells #[.string wd] 9)) := (Below.refl _ _).alloc (Nat.le_refl _) _
              have HB3 := Lib.hid (hB.trans (hal.mono hB.size))
              have HOWN3 := Lib.hid (HOWN.out.alloc (.cells #[.string wd] 9))
              have HONE := Lib.hid (one_cell wo (.string wd) 9)
              clear hw hwt hal
              go_wp2_with (at_builtin; refine wpList_append_own _ rfl (.tmp 43) (.tmp 45) 63 rfl w.heap.size 9 i0 (.string ⟨#[]⟩) 1 16 Tryd.underlying63 hi hz0 hz1 hz2 rfl (by decide) _ O.length (O.map Value.string) rfl HOWN3.out ⟨wo.heap.size, 0, none⟩ 1 1 [.string wd] rfl ?h5x1 ?h5x2 ?h5x3 ?h5x4 ?h5x5 ?h5x6 ?_)
              try case h5x1 => rfl
              try case h5x2 => exact HONE.out
              case h5x3 => first | (intro u hu; rw [List.mem_singleton.1 hu]; rfl) | rfl | simp [Value.oneCell']
              case h5x4 => unfold maxLen; omega
              case h5x5 => omega
              case h5x6 => first | exact HB3.out.size | (have hz := HB3.out.size; rw [World.alloc_size] at hz; exact hz) | (have hz := HB3.out.size; simp at hz; exact hz)
              intro v3 w3 hown3 hgrow3 _
              have hB4 : Below w.heap.size w w3 := Below.grown HB3.out hgrow3 HB3.out.size (fun k' hk' => (HOWN.out.lt k' hk').1)
              have HOWN4 := Lib.hid hown3
              clear hown3 hgrow3
              go_wp2_with fail
              go_roundw
              case rel => exact ⟨k + 1, by omega, by go_num, WHeld.sepPush HC.out HSEP.out HWD.out HWE.out HO.out HOWN4.out (by rw [HV.out]; rfl) (by rw [HBGE.out]; rfl), hB4⟩
              case measure => simp [intOf]; omega
          · by_cases hw : (stAt s.data.toList k).word = []
            · have e1 : wd.toList = [] := hwt.trans hw
              have e2 : wd.toList.isEmpty = true := by rw [e1]; rfl
              have HWE := Lib.hid hw
              clear hw hwt
              go_wp2_with fail
              go_roundw
              case rel => exact ⟨k + 1, by omega, by go_num, WHeld.sepEmpty HC.out HSEP.out HWE.out HO.out HOWN.out (by rw [HV.out]; rfl) (by rw [HBGE.out]; rw [HV.out]; rfl), hB⟩
              case measure => simp [intOf]; omega
            · have e1 : ¬ wd.toList = [] := by rw [hwt]; exact hw
              have e2 : wd.toList.isEmpty = false := by
                cases hh : wd.toList with
                | nil => exact absurd hh e1
                | cons a b => rfl
              have HWE := Lib.hid hw
              have hal : Below wo.heap.size wo (wo.alloc (.cells #[.string wd] 9)) := (Below.refl _ _).alloc (Nat.le_refl _) _
              have HB3 := Lib.hid (hB.trans (hal.mono hB.size))
              have HOWN3 := Lib.hid (HOWN.out.alloc (.cells #[.string wd] 9))
              have HONE := Lib.hid (one_cell wo (.string wd) 9)
              clear hw hwt hal
              go_wp2_with (at_builtin; refine wpList_append_own _ rfl (.tmp 43) (.tmp 45) 63 rfl w.heap.size 9 i0 (.string ⟨#[]⟩) 1 16 Tryd.underlying63 hi hz0 hz1 hz2 rfl (by decide) _ O.length (O.map Value.string) rfl HOWN3.out ⟨wo.heap.size, 0, none⟩ 1 1 [.string wd] rfl ?h6x1 ?h6x2 ?h6x3 ?h6x4 ?h6x5 ?h6x6 ?_)
              try case h6x1 => rfl
              try case h6x2 => exact HONE.out
              case h6x3 => first | (intro u hu; rw [List.mem_singleton.1 hu]; rfl) | rfl | simp [Value.oneCell']
              case h6x4 => unfold maxLen; omega
              case h6x5 => omega
              case h6x6 => first | exact HB3.out.size | (have hz := HB3.out.size; rw [World.alloc_size] at hz; exact hz) | (have hz := HB3.out.size; simp at hz; exact hz)
              intro v3 w3 hown3 hgrow3 _
              have hB4 : Below w.heap.size w w3 := Below.grown HB3.out hgrow3 HB3.out.size (fun k' hk' => (HOWN.out.lt k' hk').1)
              have HOWN4 := Lib.hid hown3
              clear hown3 hgrow3
              go_wp2_with fail
              go_roundw
              case rel => exact ⟨k + 1, by omega, by go_num, WHeld.sepPush HC.out HSEP.out HWD.out HWE.out HO.out HOWN4.out (by rw [HV.out]; rfl) (by rw [HBGE.out]; rw [HV.out]; rfl), hB4⟩
              case measure => simp [intOf]; omega
        · have n1 : (((s[k]'hlt).toNat : Int) == 32) = false := by rw [hv]; rfl
          have n2 : (((s[k]'hlt).toNat : Int) == 9) = false := by rw [hv]; rfl
          have n3 : (((s[k]'hlt).toNat : Int) == 13) = false := by rw [hv]; rfl
          have n4 : (((s[k]'hlt).toNat : Int) == 10) = true := by rw [hv]; rfl
          have n5 : (((s[k]'hlt).toNat : Int) == 99) = false := by rw [hv]; rfl
          have HV : Hid (s[k]'hlt = 10) := UInt8.toNat_inj.1 hv
          clear hv
          generalize hbg : (stAt s.data.toList k).begin_ = bg
          have HBGE := Lib.hid hbg
          clear hbg
          cases bg
          · by_cases hw : (stAt s.data.toList k).word = []
            · have e1 : wd.toList = [] := hwt.trans hw
              have e2 : wd.toList.isEmpty = true := by rw [e1]; rfl
              have HWE := Lib.hid hw
              clear hw hwt
              go_wp2_with fail
              go_roundw
              case rel => exact ⟨k + 1, by omega, by go_num, WHeld.sepEmpty HC.out HSEP.out HWE.out HO.out HOWN.out (by rw [HV.out]; rfl) (by rw [HBGE.out]; rfl), hB⟩
              case measure => simp [intOf]; omega
            · have e1 : ¬ wd.toList = [] := by rw [hwt]; exact hw
              have e2 : wd.toList.isEmpty = false := by
                cases hh : wd.toList with
                | nil => exact absurd hh e1
                | cons a b => rfl
              have HWE := Lib.hid hw
              have hal : Below wo.heap.size wo (wo.alloc (.cells #[.string wd] 9)) := (Below.refl _ _).alloc (Nat.le_refl _) _
              have HB3 := Lib.hid (hB.trans (hal.mono hB.size))
              have HOWN3 := Lib.hid (HOWN.out.alloc (.cells #[.string wd] 9))
              have HONE := Lib.hid (one_cell wo (.string wd) 9)
              clear hw hwt hal
              go_wp2_with (at_builtin; refine wpList_append_own _ rfl (.tmp 43) (.tmp 45) 63 rfl w.heap.size 9 i0 (.string ⟨#[]⟩) 1 16 Tryd.underlying63 hi hz0 hz1 hz2 rfl (by decide) _ O.length (O.map Value.string) rfl HOWN3.out ⟨wo.heap.size, 0, none⟩ 1 1 [.string wd] rfl ?h7x1 ?h7x2 ?h7x3 ?h7x4 ?h7x5 ?h7x6 ?_)
              try case h7x1 => rfl
              try case h7x2 => exact HONE.out
              case h7x3 => first | (intro u hu; rw [List.mem_singleton.1 hu]; rfl) | rfl | simp [Value.oneCell']
              case h7x4 => unfold maxLen; omega
              case h7x5 => omega
              case h7x6 => first | exact HB3.out.size | (have hz := HB3.out.size; rw [World.alloc_size] at hz; exact hz) | (have hz := HB3.out.size; simp at hz; exact hz)
              intro v3 w3 hown3 hgrow3 _
              have hB4 : Below w.heap.size w w3 := Below.grown HB3.out hgrow3 HB3.out.size (fun k' hk' => (HOWN.out.lt k' hk').1)
              have HOWN4 := Lib.hid hown3
              clear hown3 hgrow3
              go_wp2_with fail
              go_roundw
              case rel => exact ⟨k + 1, by omega, by go_num, WHeld.sepPush HC.out HSEP.out HWD.out HWE.out HO.out HOWN4.out (by rw [HV.out]; rfl) (by rw [HBGE.out]; rfl), hB4⟩
              case measure => simp [intOf]; omega
          · by_cases hw : (stAt s.data.toList k).word = []
            · have e1 : wd.toList = [] := hwt.trans hw
              have e2 : wd.toList.isEmpty = true := by rw [e1]; rfl
              have HWE := Lib.hid hw
              clear hw hwt
              go_wp2_with fail
              go_roundw
              case rel => exact ⟨k + 1, by omega, by go_num, WHeld.sepEmpty HC.out HSEP.out HWE.out HO.out HOWN.out (by rw [HV.out]; rfl) (by rw [HBGE.out]; rw [HV.out]; rfl), hB⟩
              case measure => simp [intOf]; omega
            · have e1 : ¬ wd.toList = [] := by rw [hwt]; exact hw
              have e2 : wd.toList.isEmpty = false := by
                cases hh : wd.toList with
                | nil => exact absurd hh e1
                | cons a b => rfl
              have HWE := Lib.hid hw
              have hal : Below wo.heap.size wo (wo.alloc (.cells #[.string wd] 9)) := (Below.refl _ _).alloc (Nat.le_refl _) _
              have HB3 := Lib.hid (hB.trans (hal.mono hB.size))
              have HOWN3 := Lib.hid (HOWN.out.alloc (.cells #[.string wd] 9))
              have HONE := Lib.hid (one_cell wo (.string wd) 9)
              clear hw hwt hal
              go_wp2_with (at_builtin; refine wpList_append_own _ rfl (.tmp 43) (.tmp 45) 63 rfl w.heap.size 9 i0 (.string ⟨#[]⟩) 1 16 Tryd.underlying63 hi hz0 hz1 hz2 rfl (by decide) _ O.length (O.map Value.string) rfl HOWN3.out ⟨wo.heap.size, 0, none⟩ 1 1 [.string wd] rfl ?h8x1 ?h8x2 ?h8x3 ?h8x4 ?h8x5 ?h8x6 ?_)
              try case h8x1 => rfl
              try case h8x2 => exact HONE.out
              case h8x3 => first | (intro u hu; rw [List.mem_singleton.1 hu]; rfl) | rfl | simp [Value.oneCell']
              case h8x4 => unfold maxLen; omega
              case h8x5 => omega
              case h8x6 => first | exact HB3.out.size | (have hz := HB3.out.size; rw [World.alloc_size] at hz; exact hz) | (have hz := HB3.out.size; simp at hz; exact hz)
              intro v3 w3 hown3 hgrow3 _
              have hB4 : Below w.heap.size w w3 := Below.grown HB3.out hgrow3 HB3.out.size (fun k' hk' => (HOWN.out.lt k' hk').1)
              have HOWN4 := Lib.hid hown3
              clear hown3 hgrow3
              go_wp2_with fail
              go_roundw
              case rel => exact ⟨k + 1, by omega, by go_num, WHeld.sepPush HC.out HSEP.out HWD.out HWE.out HO.out HOWN4.out (by rw [HV.out]; rfl) (by rw [HBGE.out]; rw [HV.out]; rfl), hB4⟩
              case measure => simp [intOf]; omega
      · have hsf : isSep (s[k]'hlt) = false := by simpa using hsep
        have HSEP := Lib.hid hsf
        have hnv : (s[k]'hlt).toNat ≠ 32 ∧ (s[k]'hlt).toNat ≠ 9 ∧ (s[k]'hlt).toNat ≠ 13 ∧ (s[k]'hlt).toNat ≠ 10 := by
          rw [← sepN_byte] at hsf
          unfold sepN at hsf
          simp only [Bool.or_eq_false_iff, beq_eq_false_iff_ne] at hsf
          omega
        have n1 : (((s[k]'hlt).toNat : Int) == 32) = false := by rw [beq_eq_false_iff_ne]; omega
        have n2 : (((s[k]'hlt).toNat : Int) == 9) = false := by rw [beq_eq_false_iff_ne]; omega
        have n3 : (((s[k]'hlt).toNat : Int) == 13) = false := by rw [beq_eq_false_iff_ne]; omega
        have n4 : (((s[k]'hlt).toNat : Int) == 10) = false := by rw [beq_eq_false_iff_ne]; omega
        have HN10 : Hid (false = (s[k]'hlt == 10)) := by
          show _ = _
          rw [eq_comm, beq_eq_false_iff_ne]; intro e; rw [e] at hnv; exact hnv.2.2.2 rfl
        have hconv : (convert 54 9 (.slice (some ⟨wo.heap.size, 0, none⟩) 1 1)).run Tryd.prog (wo.alloc (.cells #[.int .u8 (s[k]'hlt).toNat] 5)) = .ok (.string ⟨#[s[k]'hlt]⟩) (wo.alloc (.cells #[.int .u8 (s[k]'hlt).toNat] 5)) :=
          run_convert_bytes_back (P := Tryd.prog) _ 54 9 5 ⟨wo.heap.size, 0, none⟩ 1 [s[k]'hlt] Tryd.underlying54 Tryd.underlying5 Tryd.underlying9 (fun j hj => by
            obtain rfl : j = 0 := by simpa using hj
            exact one_cell wo (.int .u8 (s[k]'hlt).toNat) 5 0 _ rfl)
        have hal : Below wo.heap.size wo (wo.alloc (.cells #[.int .u8 (s[k]'hlt).toNat] 5)) := (Below.refl _ _).alloc (Nat.le_refl _) _
        have HB3 := Lib.hid (hB.trans (hal.mono hB.size))
        have HOWN3 := Lib.hid (HOWN.out.alloc (.cells #[.int .u8 (s[k]'hlt).toNat] 5))
        have h1s : (⟨#[s[k]'hlt]⟩ : ByteArray).size = 1 := rfl
        clear hsep hsf hnv hal hwt
        by_cases h99 : s[k]'hlt = 99
        · have n5 : (((s[k]'hlt).toNat : Int) == 99) = true := by rw [h99]; rfl
          have HV := Lib.hid h99
          clear h99
          generalize hbg : (stAt s.data.toList k).begin_ = bg
          have HBGE := Lib.hid hbg
          clear hbg
          cases bg
          · generalize hsk : (stAt s.data.toList k).skip = sk
            have HSK := Lib.hid hsk
            clear hsk
            cases sk
            · go_wp2_with fail
              go_roundw
              case rel => exact ⟨k + 1, by omega, by go_num, WHeld.nonAdd HC.out HSEP.out HWD.out HO.out HOWN3.out HN10.out (by rw [HBGE.out, HSK.out]; rfl), HB3.out⟩
              case measure => simp [intOf]; omega
            · clear hconv
              go_wp2_with fail
              go_roundw
              case rel => exact ⟨k + 1, by omega, by go_num, WHeld.nonSkip HC.out HSEP.out HWD.out HO.out HOWN.out HN10.out (by rw [HBGE.out, HSK.out]; rfl), hB⟩
              case measure => simp [intOf]; omega
          · clear hconv
            go_wp2_with fail
            go_roundw
            case rel => exact ⟨k + 1, by omega, by go_num, WHeld.nonSkip HC.out HSEP.out HWD.out HO.out HOWN.out HN10.out (by rw [HBGE.out, HV.out]; rfl), hB⟩
            case measure => simp [intOf]; omega
        · have n5 : (((s[k]'hlt).toNat : Int) == 99) = false := by rw [beq_eq_false_iff_ne]; intro e; exact h99 (UInt8.toNat_inj.1 (by show _ = 99; omega))
          have HV : Hid ((s[k]'hlt == 99) = false) := by show _ = _; rw [beq_eq_false_iff_ne]; exact h99
          clear h99
          generalize hbg : (stAt s.data.toList k).begin_ = bg
          have HBGE := Lib.hid hbg
          clear hbg
          cases bg
          · generalize hsk : (stAt s.data.toList k).skip = sk
            have HSK := Lib.hid hsk
            clear hsk
            cases sk
            · go_wp2_with fail
              go_roundw
              case rel => exact ⟨k + 1, by omega, by go_num, WHeld.nonAdd HC.out HSEP.out HWD.out HO.out HOWN3.out HN10.out (by rw [HBGE.out, HSK.out]; rfl), HB3.out⟩
              case measure => simp [intOf]; omega
            · clear hconv
              go_wp2_with fail
              go_roundw
              case rel => exact ⟨k + 1, by omega, by go_num, WHeld.nonSkip HC.out HSEP.out HWD.out HO.out HOWN.out HN10.out (by rw [HBGE.out, HSK.out]; rfl), hB⟩
              case measure => simp [intOf]; omega
          · go_wp2_with fail
            go_roundw
            case rel => exact ⟨k + 1, by omega, by go_num, WHeld.nonAdd HC.out HSEP.out HWD.out HO.out HOWN3.out HN10.out (by rw [HBGE.out, if_pos rfl]; exact HV.out), HB3.out⟩
            case measure => simp [intOf]; omega
    · by_cases hkn : k = s.size
      · have hkz : (k : Int) ≤ (s.size : Int) := by omega
        have hltz : ¬ (k : Int) < (s.size : Int) := by omega
        have HC : Hid ((s.data.toList ++ [10])[k]? = some 10) := by
          show _ = _
          rw [List.getElem?_append_right (by omega), hl, hkn, Nat.sub_self]; rfl
        have HSEP : Hid (isSep 10 = true) := by show isSep 10 = true; decide
        clear hkn
        generalize hbg : (stAt s.data.toList k).begin_ = bg
        have HBGE := Lib.hid hbg
        clear hbg
        cases bg
        · by_cases hw : (stAt s.data.toList k).word = []
          · have e1 : wd.toList = [] := hwt.trans hw
            have e2 : wd.toList.isEmpty = true := by rw [e1]; rfl
            have HWE := Lib.hid hw
            clear hw hwt
            go_wp2_with fail
            go_roundw
            case rel => exact ⟨k + 1, by omega, by go_num, WHeld.sepEmpty HC.out HSEP.out HWE.out HO.out HOWN.out (by rfl) (by rw [HBGE.out]; rfl), hB⟩
            case measure => simp [intOf]; omega
          · have e1 : ¬ wd.toList = [] := by rw [hwt]; exact hw
            have e2 : wd.toList.isEmpty = false := by
              cases hh : wd.toList with
              | nil => exact absurd hh e1
              | cons a b => rfl
            have HWE := Lib.hid hw
            have hal : Below wo.heap.size wo (wo.alloc (.cells #[.string wd] 9)) := (Below.refl _ _).alloc (Nat.le_refl _) _
            have HB3 := Lib.hid (hB.trans (hal.mono hB.size))
            have HOWN3 := Lib.hid (HOWN.out.alloc (.cells #[.string wd] 9))
            have HONE := Lib.hid (one_cell wo (.string wd) 9)
            clear hw hwt hal
            go_wp2_with (at_builtin; refine wpList_append_own _ rfl (.tmp 43) (.tmp 45) 63 rfl w.heap.size 9 i0 (.string ⟨#[]⟩) 1 16 Tryd.underlying63 hi hz0 hz1 hz2 rfl (by decide) _ O.length (O.map Value.string) rfl HOWN3.out ⟨wo.heap.size, 0, none⟩ 1 1 [.string wd] rfl ?h9x1 ?h9x2 ?h9x3 ?h9x4 ?h9x5 ?h9x6 ?_)
            try case h9x1 => rfl
            try case h9x2 => exact HONE.out
            case h9x3 => first | (intro u hu; rw [List.mem_singleton.1 hu]; rfl) | rfl | simp [Value.oneCell']
            case h9x4 => unfold maxLen; omega
            case h9x5 => omega
            case h9x6 => first | exact HB3.out.size | (have hz := HB3.out.size; rw [World.alloc_size] at hz; exact hz) | (have hz := HB3.out.size; simp at hz; exact hz)
            intro v3 w3 hown3 hgrow3 _
            have hB4 : Below w.heap.size w w3 := Below.grown HB3.out hgrow3 HB3.out.size (fun k' hk' => (HOWN.out.lt k' hk').1)
            have HOWN4 := Lib.hid hown3
            clear hown3 hgrow3
            go_wp2_with fail
            go_roundw
            case rel => exact ⟨k + 1, by omega, by go_num, WHeld.sepPush HC.out HSEP.out HWD.out HWE.out HO.out HOWN4.out (by rfl) (by rw [HBGE.out]; rfl), hB4⟩
            case measure => simp [intOf]; omega
        · by_cases hw : (stAt s.data.toList k).word = []
          · have e1 : wd.toList = [] := hwt.trans hw
            have e2 : wd.toList.isEmpty = true := by rw [e1]; rfl
            have HWE := Lib.hid hw
            clear hw hwt
            go_wp2_with fail
            go_roundw
            case rel => exact ⟨k + 1, by omega, by go_num, WHeld.sepEmpty HC.out HSEP.out HWE.out HO.out HOWN.out (by rfl) (by rw [HBGE.out]; rfl), hB⟩
            case measure => simp [intOf]; omega
          · have e1 : ¬ wd.toList = [] := by rw [hwt]; exact hw
            have e2 : wd.toList.isEmpty = false := by
              cases hh : wd.toList with
              | nil => exact absurd hh e1
              | cons a b => rfl
            have HWE := Lib.hid hw
            have hal : Below wo.heap.size wo (wo.alloc (.cells #[.string wd] 9)) := (Below.refl _ _).alloc (Nat.le_refl _) _
            have HB3 := Lib.hid (hB.trans (hal.mono hB.size))
            have HOWN3 := Lib.hid (HOWN.out.alloc (.cells #[.string wd] 9))
            have HONE := Lib.hid (one_cell wo (.string wd) 9)
            clear hw hwt hal
            go_wp2_with (at_builtin; refine wpList_append_own _ rfl (.tmp 43) (.tmp 45) 63 rfl w.heap.size 9 i0 (.string ⟨#[]⟩) 1 16 Tryd.underlying63 hi hz0 hz1 hz2 rfl (by decide) _ O.length (O.map Value.string) rfl HOWN3.out ⟨wo.heap.size, 0, none⟩ 1 1 [.string wd] rfl ?h10x1 ?h10x2 ?h10x3 ?h10x4 ?h10x5 ?h10x6 ?_)
            try case h10x1 => rfl
            try case h10x2 => exact HONE.out
            case h10x3 => first | (intro u hu; rw [List.mem_singleton.1 hu]; rfl) | rfl | simp [Value.oneCell']
            case h10x4 => unfold maxLen; omega
            case h10x5 => omega
            case h10x6 => first | exact HB3.out.size | (have hz := HB3.out.size; rw [World.alloc_size] at hz; exact hz) | (have hz := HB3.out.size; simp at hz; exact hz)
            intro v3 w3 hown3 hgrow3 _
            have hB4 : Below w.heap.size w w3 := Below.grown HB3.out hgrow3 HB3.out.size (fun k' hk' => (HOWN.out.lt k' hk').1)
            have HOWN4 := Lib.hid hown3
            clear hown3 hgrow3
            go_wp2_with fail
            go_roundw
            case rel => exact ⟨k + 1, by omega, by go_num, WHeld.sepPush HC.out HSEP.out HWD.out HWE.out HO.out HOWN4.out (by rfl) (by rw [HBGE.out]; rfl), hB4⟩
            case measure => simp [intOf]; omega
      · have hkz : ¬ (k : Int) ≤ (s.size : Int) := by omega
        have hk1 : k = s.size + 1 := by omega
        have HE : Hid (O.map (·.data.toList) = wordsL s.data.toList) := by
          show _ = _
          rw [HO.out, ← wordsM_eq]
          unfold stAt wordsM
          rw [List.take_of_length_le (by rw [List.length_append, hl, hk1]; exact Nat.le_refl _)]
        obtain ⟨a, c, hv, hrow, hcap⟩ := own_strings HOWN.out
        subst hv
        clear hk1 hkn hwt
        go_wp2
        go_ret
        exact ⟨a, c, O, rfl, hrow, HE.out, hcap, hB⟩
end Go.Proofs.YtiimdehcfkoemaaDoor.Cl
