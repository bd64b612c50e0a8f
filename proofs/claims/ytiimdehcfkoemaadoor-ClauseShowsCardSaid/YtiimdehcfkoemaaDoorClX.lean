/- clause.clauses, walked. -/
import Derived.Test.YtiimdehcfkoemaaDoorClW
namespace Go.Proofs.YtiimdehcfkoemaaDoor.Cl
open Go Go.RowKit Go.Lib Go.Sort

theorem apart_blocks {w : World} {b6 b7 n6 n7 : Nat} {v6 v7 : Value} {x6 x7 : List Value} (h6 : w.ownsRow b6 22 1 v6 n6 x6) (h7 : w.ownsRow b7 3 1 v7 n7 x7) : v6.ownBlock = none ∨ v6.ownBlock ≠ v7.ownBlock := by
  rcases h6.2 with ⟨rfl, _⟩ | ⟨g, cap, cur, rfl, _, hg, _⟩
  · left; rfl
  · right
    intro e
    exact block_apart h7 hg (by decide) (e.symm.trans (by simp [Value.ownBlock]))

/-- What has been read behind k words. -/
structure Reading (V : Int) (L : List (List UInt8)) (B : Nat) (k : Nat) (st : PSt) (rs : List Row) (Bc : Nat) (v6 v7 : Value) (wr : World) : Prop where
  parsed : parsed V (L.take k) = some st
  rows : rs.map Row.zs = st.cs
  own6 : wr.ownsRow B 22 1 v6 rs.length (rs.map Row.val)
  own7 : wr.ownsRow Bc 3 1 v7 st.c.length (st.c.map (Value.int .i64))
  kept : ∀ r ∈ rs, RowOwn wr Bc r
  lo : B ≤ Bc
  hi : Bc ≤ wr.heap.size
  few : rs.length + st.c.length ≤ k
  small : ∀ r ∈ rs, r.zs.length ≤ k

theorem Reading.start (V : Int) (L : List (List UInt8)) (B : Nat) (w : World) (h : B ≤ w.heap.size) : Reading V L B 0 ⟨[], [], false⟩ [] w.heap.size (.slice none 0 0) (.slice none 0 0) w where
  parsed := rfl
  rows := rfl
  own6 := World.ownsRow_nil _ _ _ _
  own7 := World.ownsRow_nil _ _ _ _
  kept := fun r hr => by cases hr
  lo := h
  hi := Nat.le_refl _
  few := Nat.le_refl _
  small := fun r hr => by cases hr

theorem Reading.later {V : Int} {L : List (List UInt8)} {B k Bc : Nat} {st : PSt} {rs : List Row} {v6 v7 : Value} {w w' : World} (h : Reading V L B k st rs Bc v6 v7 w) (hb : Below w.heap.size w w') : Reading V L B k st rs Bc v6 v7 w' where
  parsed := h.parsed
  rows := h.rows
  own6 := ownsRow_later h.own6 hb
  own7 := ownsRow_later h.own7 hb
  kept := fun r hr => (h.kept r hr).below hb
  lo := h.lo
  hi := Nat.le_trans h.hi hb.size
  few := h.few
  small := h.small

/-- A literal more. -/
theorem Reading.lit {V : Int} {L : List (List UInt8)} {B k Bc : Nat} {st : PSt} {rs : List Row} {v6 v7 v7' : Value} {w w' : World} {x : Int} (h : Reading V L B k st rs Bc v6 v7 w) (hk : k < L.length) (he : entryV L[k]! = some x) (hV : vr x ≤ V) (hx : x ≠ 0)
    (hown : w'.ownsRow Bc 3 1 v7' (st.c.length + 1) (st.c.map (Value.int .i64) ++ [.int .i64 x])) (hg : w.grownBy w' v7.ownBlock) : Reading V L B (k + 1) ⟨st.cs, st.c ++ [x], true⟩ rs Bc v6 v7' w' where
  parsed := by rw [take_succ! hk, parsed_snoc, h.parsed]; unfold pstep; rw [he]; simp only; rw [if_pos hV, if_neg hx]
  rows := h.rows
  own6 := h.own6.kept hg (apart_blocks h.own6 h.own7)
  own7 := own_snoc hown
  kept := fun r hr => (h.kept r hr).kept hg (fun g cur hgB _ e => by have := (h.own7.lt g e).1; omega)
  lo := h.lo
  hi := Nat.le_trans h.hi hg.size
  few := by have := h.few; simp only [List.length_append, List.length_cons, List.length_nil]; omega
  small := fun r hr => Nat.le_succ_of_le (h.small r hr)

/-- A clause's end. -/
theorem Reading.stop {V : Int} {L : List (List UInt8)} {B k Bc : Nat} {st : PSt} {rs : List Row} {v6 v6' : Value} {w w' : World} {r : Row} (h : Reading V L B k st rs Bc v6 r.val w) (hk : k < L.length) (he : entryV L[k]! = some 0) (hV : 0 ≤ V)
    (hz : r.zs = st.c) (hr : RowOwn w w.heap.size r) (hown : w'.ownsRow B 22 1 v6' (rs.length + 1) (rs.map Row.val ++ [r.val])) (hg : w.grownBy w' v6.ownBlock) : Reading V L B (k + 1) ⟨st.cs ++ [st.c], [], false⟩ (rs ++ [r]) w'.heap.size v6' (.slice none 0 0) w' where
  parsed := by
    rw [take_succ! hk, parsed_snoc, h.parsed]; unfold pstep; rw [he]; simp only
    rw [if_pos (by unfold vr; omega), if_pos trivial]
  rows := by rw [List.map_append, h.rows, List.map_cons, List.map_nil, hz]
  own6 := own_rows_snoc hown
  own7 := World.ownsRow_nil _ _ _ _
  kept := fun q hq => by
    have hap : ∀ g cur, w.heap[g]? = some (.cells cur 3 (0, 0)) → v6.ownBlock ≠ some g := fun g cur hgg => block_apart h.own6 hgg (by decide)
    rcases List.mem_append.1 hq with hq | hq
    · exact ((h.kept q hq).kept hg (fun g cur _ hgg => hap g cur hgg)).mono (Nat.le_trans h.hi hg.size)
    · rw [List.mem_singleton.1 hq]
      exact (hr.kept hg (fun g cur _ hgg => hap g cur hgg)).mono hg.size
  lo := Nat.le_trans h.lo (Nat.le_trans h.hi hg.size)
  hi := Nat.le_refl _
  few := by have := h.few; simp only [List.length_append, List.length_cons, List.length_nil]; omega
  small := fun q hq => by
    have := h.few
    rcases List.mem_append.1 hq with hq | hq
    · exact Nat.le_succ_of_le (h.small q hq)
    · rw [List.mem_singleton.1 hq, hz]; omega

theorem ne_nat (x : Int) (h : x ≠ 0) : (x != 0) = true := by rw [bne_iff_ne]; exact h

set_option maxHeartbeats 8000000 in
set_option maxRecDepth 100000 in
theorem clauses_any (a : Option Addr) (c : Nat) (ws : List ByteArray) (V : Nat) (w : World) (hr : RowIn Value.string w a ws) (hl : ws.length ≤ 200000) (hs : ∀ s ∈ ws, s.size ≤ 9223372036854775807) (hV : V ≤ 1000000) :
    Calls Tryd.prog 51 #[.slice a ws.length c, .int .i64 V] w (Claused V (ws.map (·.data.toList)) w) := by
  have HR := Lib.hid hr
  have HSZ := Lib.hid hs
  obtain ⟨i0, hi, hz0, hz1, hz2⟩ := info_parts info_int
  obtain ⟨i1, hj, hy0, hy1, hy2⟩ := info_parts info_ints
  obtain ⟨L, hL⟩ : ∃ L, L = ws.map (·.data.toList) := ⟨_, rfl⟩
  have HLN : Hid (L.length = ws.length) := by show _ = _; rw [hL, List.length_map]
  have HLG : Hid (∀ k, k < ws.length → L[k]! = ws[k]!.data.toList) := fun k hk => by
    rw [hL, getElem!_pos _ k (by rw [List.length_map]; exact hk), List.getElem_map, getElem!_pos ws k hk]
  rw [← hL]
  clear hr hs hL
  go_enter Tryd.func51, Tryd.ntmps51
  go_wp2
  go_loopw [6, 7, 8, 10, 11, 12, 15] (fun s6 s7 s8 _ _ _ s15 wr => ∃ (k : Nat) (st : PSt) (rs : List Row) (Bc : Nat), k ≤ ws.length ∧ s15 = .int .i64 k ∧ s8 = .bool st.opn ∧ Hid (Reading V L w.heap.size k st rs Bc s6 s7 wr) ∧ Below w.heap.size w wr) (fun _ _ _ _ _ _ s15 _ => ws.length - (intOf s15).toNat)
  case atStart => exact ⟨0, _, [], _, Nat.zero_le _, rfl, rfl, Reading.start _ _ _ w (Nat.le_refl _), Below.refl _ _⟩
  case round =>
    obtain ⟨k, st, rs, Bc, hk, rfl, rfl, HRD, hB⟩ := hrel
    obtain ⟨wo, rfl⟩ : ∃ wo : World, wo = wr := ⟨_, rfl⟩
    by_cases hlt : k < ws.length
    · have hltz : (k : Int) < (ws.length : Int) := by omega
      obtain ⟨b, off, rfl, hb, hc⟩ := (HR.out.below hB).pos hlt
      have c1 := hc k hlt
      have hent := entry_any ws[k]! wo (HSZ.out _ (getElem!_mem hlt))
      unfold Entered at hent
      rw [← HLG.out k hlt] at hent
      have hkL : k < L.length := by rw [HLN.out]; exact hlt
      have HKL := Lib.hid hkL
      clear hc hkL
      generalize ws[k]! = s at *
      cases hev : entryV L[k]! with
      | none =>
        have HE := Lib.hid hev
        rw [hev] at hent
        have HNONE : Hid (clausesR V L = none) := by
          have h1 : parsed V (L.take (k + 1)) = none := by rw [take_succ! HKL.out, parsed_snoc, HRD.out.parsed]; unfold pstep; rw [hev]
          show _ = _; unfold clausesR; rw [parsed_fail h1]; rfl
        have HENT := Lib.hid hent
        clear hent hev HE
        go_wp2_with fail
        refine HENT.out.mono ?_
        rintro e w2 ⟨rfl, hb2⟩
        go_wp2_with fail
        go_ret2
        exact ⟨hB.trans (hb2.mono hB.size), Or.inl ⟨HNONE.out, _, rfl⟩⟩
      | some x =>
        rw [hev] at hent
        have hxb := entryV_bd hev
        have HENT := Lib.hid hent
        have HE := Lib.hid hev
        have hvar : Hid (∀ w2, Calls Tryd.prog 33 #[.int .i64 x] w2 fun e w' => e = .returned (.int .i64 (vr x)) ∧ w2 = w') := fun w2 => variable_any x w2 (by omega) (by omega)
        simp only [Option.getD_some, Option.isSome_some] at HENT
        clear hent hev
        by_cases hv : vr x ≤ (V : Int)
        · have hvz : ¬ (V : Int) < vr x := by omega
          have hvd : decide ((V : Int) < vr x) = false := by rw [decide_eq_false_iff_not]; exact hvz
          have HV2 := Lib.hid hv
          by_cases hx0 : x = 0
          · have hxn : (x != 0) = false := by rw [hx0]; rfl
            have HE0 : Hid (entryV L[k]! = some 0) := by show _ = _; rw [HE.out, hx0]
            clear hx0 HE hv
            generalize vr x = vx at *
            go_wp2_with fail
            refine HENT.out.mono ?_
            rintro e w2 ⟨rfl, hb2⟩
            have hB2 := hB.trans (hb2.mono hB.size)
            have HRD2 := Lib.hid (HRD.out.later hb2)
            obtain ⟨⟨ra, rc, rz⟩, hrv, hrz, hro⟩ := RowOwn.close HRD2.out.own7
            have hrz' : rz = st.c := hrz
            subst hrz'
            unfold Row.val at hrv
            simp only at hrv
            subst hrv
            have HRO := Lib.hid hro
            have hfew := HRD2.out.few
            clear hrz hro
            go_wp2_with fail
            refine (hvar.out _).mono ?_
            rintro e w3 ⟨rfl, rfl⟩
            have hal : Below w2.heap.size w2 (w2.alloc (.cells #[.slice ra st.c.length rc] 22)) := (Below.refl _ _).alloc (Nat.le_refl _) _
            have hB3 := hB2.trans (hal.mono hB2.size)
            have HRD3 := Lib.hid (HRD2.out.later hal)
            have HRO3 := Lib.hid (RowOwn.mono (HRO.out.below hal) (B' := (w2.alloc (.cells #[.slice ra st.c.length rc] 22)).heap.size) (by simp))
            have hone := one_cell w2 (.slice ra st.c.length rc) 22
            have HONE := Lib.hid hone
            have HBASE : Hid (w.heap.size ≤ (w2.alloc (.cells #[.slice ra st.c.length rc] 22)).heap.size) := hB3.size
            clear hone
            go_wp2_with (at_builtin; refine wpList_append_own _ rfl (.tmp 39) (.tmp 41) 30 rfl w.heap.size 22 i1 (.slice none 0 0) 1 24 Tryd.underlying30 hj hy0 hy1 hy2 rfl (by decide) _ rs.length (rs.map Row.val) rfl HRD3.out.own6 ⟨w2.heap.size, 0, none⟩ 1 1 [.slice ra st.c.length rc] rfl ?d1 ?d2 ?d3 ?d4 ?d5 ?d6 ?_)
            case d1 => rfl
            case d2 => exact HONE.out
            case d3 => intro u hu; rw [List.mem_singleton.1 hu]; rfl
            case d4 => unfold maxLen; omega
            case d5 => omega
            case d6 => exact HBASE.out
            intro v6' w4 hown4 hgrow4 _
            have HRD4 := Lib.hid (Reading.stop (r := ⟨ra, rc, st.c⟩) HRD3.out HKL.out HE0.out (by omega) rfl HRO3.out hown4 hgrow4)
            have hB4 : Below w.heap.size w w4 := hB3.grown hgrow4 HBASE.out (fun k' hk' => (HRD3.out.own6.lt k' hk').1)
            clear hown4 hgrow4
            go_wp2_with fail
            go_roundw
            case rel => exact ⟨k + 1, _, _, _, by omega, by go_num, rfl, HRD4, hB4⟩
            case measure => simp [intOf]; omega
          · have hxn : (x != 0) = true := ne_nat x hx0
            have HX0 := Lib.hid hx0
            clear hx0 hv
            generalize hvx : vr x = vx at hvar hvz hvd
            clear hvx
            go_wp2_with fail
            refine HENT.out.mono ?_
            rintro e w2 ⟨rfl, hb2⟩
            have hB2 := hB.trans (hb2.mono hB.size)
            have HRD2 := Lib.hid (HRD.out.later hb2)
            have hfew := HRD2.out.few
            go_wp2_with fail
            refine (hvar.out _).mono ?_
            rintro e w3 ⟨rfl, rfl⟩
            have hal : Below w2.heap.size w2 (w2.alloc (.cells #[.int .i64 x] 3)) := (Below.refl _ _).alloc (Nat.le_refl _) _
            have hB3 := hB2.trans (hal.mono hB2.size)
            have HRD3 := Lib.hid (HRD2.out.later hal)
            have HONE := Lib.hid (one_cell w2 (.int .i64 x) 3)
            have HBASE : Hid (Bc ≤ (w2.alloc (.cells #[.int .i64 x] 3)).heap.size) := HRD3.out.hi
            have HBASE2 : Hid (w.heap.size ≤ (w2.alloc (.cells #[.int .i64 x] 3)).heap.size) := hB3.size
            go_wp2_with (at_builtin; refine wpList_append_own _ rfl (.tmp 35) (.tmp 37) 22 rfl Bc 3 i0 (.int .i64 0) 1 8 Tryd.underlying22 hi hz0 hz1 hz2 rfl (by decide) _ st.c.length (st.c.map (Value.int .i64)) rfl HRD3.out.own7 ⟨w2.heap.size, 0, none⟩ 1 1 [.int .i64 x] rfl ?d1 ?d2 ?d3 ?d4 ?d5 ?d6 ?_)
            case d1 => rfl
            case d2 => exact HONE.out
            case d3 => intro u hu; rw [List.mem_singleton.1 hu]; rfl
            case d4 => unfold maxLen; omega
            case d5 => omega
            case d6 => exact HBASE.out
            intro v7' w4 hown4 hgrow4 _
            have HRD4 := Lib.hid (Reading.lit HRD3.out HKL.out HE.out HV2.out HX0.out hown4 hgrow4)
            have hB4 : Below w.heap.size w w4 := hB3.grown hgrow4 HBASE2.out (fun k' hk' => Nat.le_trans HRD3.out.lo (HRD3.out.own7.lt k' hk').1)
            clear hown4 hgrow4
            go_wp2_with fail
            go_roundw
            case rel => exact ⟨k + 1, _, _, _, by omega, by go_num, rfl, HRD4, hB4⟩
            case measure => simp [intOf]; omega
        · have hvz : (V : Int) < vr x := by omega
          have HNONE : Hid (clausesR V L = none) := by
            have h1 : parsed V (L.take (k + 1)) = none := by rw [take_succ! HKL.out, parsed_snoc, HRD.out.parsed]; unfold pstep; rw [HE.out]; simp only; rw [if_neg hv]
            show _ = _; unfold clausesR; rw [parsed_fail h1]; rfl
          clear hv
          generalize vr x = vx at *
          go_wp2_with fail
          refine HENT.out.mono ?_
          rintro e w2 ⟨rfl, hb2⟩
          go_wp2_with fail
          refine (hvar.out _).mono ?_
          rintro e w3 ⟨rfl, rfl⟩
          go_wp2_with fail
          go_ret2
          exact ⟨hB.trans (hb2.mono hB.size), Or.inl ⟨HNONE.out, _, rfl⟩⟩
    · have hltz : ¬ (k : Int) < (ws.length : Int) := by omega
      have hpar : parsed V L = some st := by have := HRD.out.parsed; rwa [List.take_of_length_le (by rw [HLN.out]; omega)] at this
      obtain ⟨a6, c6, hv6, hrow6, _⟩ := own_rows HRD.out.own6
      subst hv6
      cases hop : st.opn with
      | true =>
        have HNONE : Hid (clausesR V L = none) := by show _ = _; unfold clausesR; rw [hpar]; show (if st.opn = true then none else some st.cs) = none; rw [hop]; rfl
        clear hpar
        go_wp2
        go_ret2
        exact ⟨hB, Or.inl ⟨HNONE.out, _, rfl⟩⟩
      | false =>
        have HSOME : Hid (clausesR V L = some (rs.map Row.zs)) := by show _ = _; unfold clausesR; rw [hpar]; show (if st.opn = true then none else some st.cs) = _; rw [hop, HRD.out.rows]; rfl
        have HRS : Hid (RowsIn wo a6 rs) := ⟨hrow6, fun r hr => (HRD.out.kept r hr).row, fun r hr => by have := HRD.out.small r hr; omega⟩
        clear hpar hrow6
        go_wp2
        go_ret2
        exact ⟨hB, Or.inr ⟨a6, c6, rs, HSOME.out, rfl, HRS.out⟩⟩
end Go.Proofs.YtiimdehcfkoemaaDoor.Cl
