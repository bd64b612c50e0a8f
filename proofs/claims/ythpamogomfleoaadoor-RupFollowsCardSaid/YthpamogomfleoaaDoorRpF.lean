/- The law RupFollows as a contract. -/
import Derived.Test.YthpamogomfleoaaDoorRpMore
import Derived.Maps.AppendAt
namespace Go.Proofs.YthpamogomfleoaaDoor.Cl
open Go Go.RowKit Go.Lib Go.Sort Go.Proofs.YthpamogomfleoaaDoor.Up

/-- An operation whose guard says yes is one without a guard. -/
theorem wpList_unguard {P : Program} {ops : Array Oper} {Q : Exit → Act → World → Prop} {a : Act} {w : World} {rest : List Oper} {dst : Option Tmp} {op : Op} {ty : TypeId} {pos : String} {after : Array Edge} {gd : Option (Nat × Bool)}
    (hw : Region.wanted ⟨dst, op, ty, pos, after, gd⟩ (yielded ops a.tmps) = true) (h : wpList P ops Q (⟨dst, op, ty, pos, after, none⟩ :: rest) a w) : wpList P ops Q (⟨dst, op, ty, pos, after, gd⟩ :: rest) a w := by
  unfold wpList at h ⊢
  rw [if_pos hw]
  rw [if_pos (by simp [Region.wanted])] at h
  exact h

set_option maxHeartbeats 1000000 in
theorem Ref4Follows_any (rs : List Row) (b : Option Addr) (d : Nat) (zs : List Int) (w : World) (a : Option Addr) (c : Nat) (hrs : RowsIn w a rs) (hrl : rs.length ≤ 1000000000) (hrz : ∀ r ∈ rs, r.zs.length ≤ r.c) (hr : RowIn (Value.int .i64) w b zs) (hz : ∀ z ∈ zs, -9223372036854775808 ≤ z ∧ z ≤ 9223372036854775807)
    (hn : zs.length + (rs.map Row.zs).flatten.length + 1 ≤ 1000000000) :
    Calls Tryd.prog 10 #[.slice a rs.length c, .slice b zs.length d] w (FolE w (rs.map Row.zs) zs) := by
  have HC := Lib.hid (Follows_any rs b d zs w a c hrs hrl hrz hr hz hn)
  clear hrs hrz hr hz hn
  go_enter Tryd.func10, Tryd.ntmps10
  go_wp2_with (go_at_call 24; refine HC.out.mono ?_; rintro e w1 ⟨r, rfl, h1, h2⟩)
  go_ret
  exact ⟨r, rfl, h1, h2⟩

/-- Blocks of one kind of element are not blocks of another. -/
theorem block_apart2 {w : World} {base n size g : Nat} {v : Value} {xs : List Value} {e T : TypeId} {cur : Array Value} (h : w.ownsRow base e size v n xs) (hg : w.heap[g]? = some (.cells cur T (0, 0))) (hne : T ≠ e) : v.ownBlock ≠ some g := by
  rcases h.2 with ⟨rfl, _⟩ | ⟨g', cap, cur', rfl, _, hg', _⟩
  · intro hh; simp [Value.ownBlock] at hh
  · intro hh
    simp [Value.ownBlock] at hh
    subst hh
    rw [hg] at hg'
    have := Option.some.inj hg'
    injection this with _ h2 _
    exact hne h2

theorem offs_snoc (zs : List Int) (k : Nat) (h : k < zs.length) : offs (zs.take (k + 1)) = offs (zs.take k) ++ [[-zs[k]!]] := by
  unfold offs; rw [take_succ! h, List.map_append]; rfl

/-- The turned literals that the loop has laid, each a clause. -/
structure Offs (w wr : World) (zs : List Int) (k : Nat) (v : Value) (T : List Row) : Prop where
  own : wr.ownsRow w.heap.size 23 1 v T.length (T.map Row.val)
  zs : T.map Row.zs = offs (zs.take k)
  rows : ∀ r ∈ T, ∃ g x, r = ⟨some ⟨g, 0, none⟩, 1, [x]⟩ ∧ wr.heap[g]? = some (.cells #[.int .i64 x] 3 (0, 0))
  below : Below w.heap.size w wr
theorem Offs.len {w wr : World} {zs : List Int} {k : Nat} {v : Value} {T : List Row} (h : Offs w wr zs k v T) (hk : k ≤ zs.length) : T.length = k := by
  have := congrArg List.length h.zs
  simp [offs] at this
  omega
theorem Offs.rowsIn {w wr : World} {zs : List Int} {k : Nat} {v : Value} {T : List Row} (h : Offs w wr zs k v T) : ∀ r ∈ T, RowIn (Value.int .i64) wr r.a r.zs ∧ r.zs.length = 1 ∧ r.c = 1 := by
  intro r hr
  obtain ⟨g, x, rfl, hh⟩ := h.rows r hr
  refine ⟨Or.inr ⟨g, 0, rfl, (Array.getElem?_eq_some_iff.1 hh).1, fun j hj => ?_⟩, rfl, rfl⟩
  have : j = 0 := by simpa using hj
  subst this
  rw [Lib.cell_of_heap hh]; rfl
theorem Offs.step {w wr w1 : World} {zs : List Int} {k : Nat} {v v1 : Value} {T : List Row} (h : Offs w wr zs k v T) (hk : k < zs.length) {U : TypeId} (hT : T.length = k)
    (hown : w1.ownsRow w.heap.size 23 1 v1 (k + 1) (T.map Row.val ++ [.slice (some ⟨wr.heap.size, 0, none⟩) 1 1]))
    (hg : ((wr.alloc (.cells #[.int .i64 (-zs[k]!)] 3)).alloc (.cells #[.slice (some ⟨wr.heap.size, 0, none⟩) 1 1] U)).grownBy w1 v.ownBlock) :
    ∃ T1, Offs w w1 zs (k + 1) v1 T1 := by
  refine ⟨T ++ [⟨some ⟨wr.heap.size, 0, none⟩, 1, [-zs[k]!]⟩], by rw [List.length_append, List.map_append, hT]; exact hown, by rw [List.map_append, h.zs, offs_snoc zs k hk]; rfl, fun r hr => ?_, ?_⟩
  · rcases List.mem_append.1 hr with hr | hr
    · obtain ⟨g, x, rfl, hh⟩ := h.rows r hr
      have hlt : g < wr.heap.size := (Array.getElem?_eq_some_iff.1 hh).1
      refine ⟨g, x, rfl, (hg.block g (by simp only [World.size_alloc]; omega) (fun e => block_apart2 h.own hh (by decide) e.symm)).trans ?_⟩
      rw [Below.heap_alloc _ _ _ (by simp only [World.size_alloc]; omega), Below.heap_alloc _ _ _ hlt]
      exact hh
    · rw [List.mem_singleton.1 hr]
      refine ⟨wr.heap.size, _, rfl, (hg.block _ (by simp only [World.size_alloc]; omega) (fun e => ?_)).trans ?_⟩
      · have := (h.own.lt wr.heap.size e.symm).2
        omega
      · rw [Below.heap_alloc _ _ _ (by simp only [World.size_alloc]; omega)]
        unfold World.alloc; simp
  · exact ((h.below.alloc h.below.size _).alloc (by have := h.below.size; simp only [World.size_alloc]; omega) _).grown hg (by have := h.below.size; simp only [World.size_alloc]; omega) (fun q hq => (h.own.lt q hq).1)
end Go.Proofs.YthpamogomfleoaaDoor.Cl
/- The law RupFollows as a contract: the walk. -/
namespace Go.Proofs.YthpamogomfleoaaDoor.Cl
open Go Go.RowKit Go.Lib Go.Sort Go.Proofs.YthpamogomfleoaaDoor.Up

theorem owns_new {base : Nat} (w : World) (x : Value) (e : TypeId) (hb : base ≤ w.heap.size) : (w.alloc (.cells #[x] e)).ownsRow base e 1 (.slice (some ⟨w.heap.size, 0, none⟩) 1 1) 1 [x] :=
  ⟨by simp, .inr ⟨w.heap.size, 1, #[x], rfl, hb, heap_alloc_new w _, Nat.le_refl _, by decide, by simp, by simp⟩⟩

/-- What the call owns, a row of clauses whose rows are there. -/
theorem own_rowsIn {w : World} {base : Nat} {v : Value} {T : List Row} (h : w.ownsRow base 23 1 v T.length (T.map Row.val)) (hr : ∀ r ∈ T, RowIn (Value.int .i64) w r.a r.zs ∧ r.zs.length ≤ 1000) :
    ∃ a c, v = .slice a T.length c ∧ RowsIn w a T ∧ (a = none → c = 0) ∧ T.length ≤ c := by
  obtain ⟨a, c, h1, h2, h3, h4, _⟩ := own_val h
  exact ⟨a, c, h1, ⟨h2, fun r q => (hr r q).1, fun r q => by have := (hr r q).2; omega⟩, h3, h4⟩

set_option maxHeartbeats 8000000 in
set_option maxRecDepth 100000 in
theorem RupFollows_main (rs : List Row) (a : Option Addr) (c : Nat) (zs : List Int) (f : Option Addr) (g : Nat) (w : World)
    (ht : Tab w) (hrs : RowsIn w a rs) (ha : a = none → c = 0) (hlc : rs.length ≤ c) (hcm : c ≤ 9223372036854775807) (hrz : ∀ r ∈ rs, r.zs.length ≤ r.c) (hs : smallB (rs.map Row.zs) 40 100000 = true)
    (hz : RowIn (Value.int .i64) w f zs) (hzg : zs.length ≤ g) (hz12 : zs.length ≤ 12) (hzr : ∀ z ∈ zs, -9223372036854775808 ≤ z ∧ z ≤ 9223372036854775807) :
    Calls Tryd.prog 3 #[.slice a rs.length c, .slice f zs.length g] w fun e w' => e = .returned (.bool true) ∧ Below w.heap.size w w' := by
  have hsz := small_sizes (n := 40) hs
  have HS : Hid (∀ w2, Below w.heap.size w w2 → Calls Tryd.prog 8 #[.slice a rs.length c, .int .i64 40, .int .i64 100000] w2 fun e w' => e = .returned (.bool true) ∧ w2 = w') := fun w2 h => by
    have := Small_any a c rs 40 100000 w2 (hrs.below h) hlc hcm
    rwa [hs] at this
  have hfl := flat_le (T := rs) (K := 30) hsz.2
  have HF : Hid (∀ w2, Below w.heap.size w w2 → Calls Tryd.prog 9 #[.slice a rs.length c, .slice f zs.length g] w2 (FolE w2 (rs.map Row.zs) zs)) := fun w2 h =>
    RupFollows_any rs f g zs w2 a c (ht.below h) (hrs.below h) (by omega) (fun r q => Nat.le_trans (hsz.2 r q) (by omega)) (hz.below h) (by omega)
  have HG : Hid (∀ w2, Below w.heap.size w w2 → Calls Tryd.prog 10 #[.slice a rs.length c, .slice f zs.length g] w2 (FolE w2 (rs.map Row.zs) zs)) := fun w2 h =>
    Ref4Follows_any rs f g zs w2 a c (hrs.below h) (by omega) hrz (hz.below h) hzr (by omega)
  have hd1 : decide ((12 : Int) < (zs.length : Int)) = false := by rw [decide_eq_false_iff_not]; omega
  have HRS := Lib.hid hrs
  have HA := Lib.hid ha
  have HRZ := Lib.hid hrz
  have HZI := Lib.hid hz
  have HZR := Lib.hid hzr
  have HFL := Lib.hid hfl
  have HSZ := Lib.hid hsz
  obtain ⟨ji, ji0, jz0, jz1, jz2⟩ := info_parts info_rows
  have hl40 := hsz.1
  have HT := Lib.hid ht
  clear ht hrs ha hrz hs hz hzr hsz hfl
  go_enter Tryd.func3, Tryd.ntmps3
  go_wp2_with fail
  refine (rup_awake w HT.out).mono ?_
  rintro e w1 ⟨rfl, hb1⟩
  go_wp2_with fail
  refine (HS.out _ hb1).mono ?_
  rintro e w2 ⟨rfl, rfl⟩
  go_wp2_with fail
  refine (HF.out _ hb1).mono ?_
  rintro e w3 ⟨r1, rfl, hr1, hb3⟩
  have HB3 := Lib.hid (hb1.trans (hb3.mono hb1.size))
  have HR1 := Lib.hid hr1
  clear hb1 hb3 hr1
  go_wp2_with fail
  refine (HG.out _ HB3.out).mono ?_
  rintro e w4 ⟨r2, rfl, hr2, hb4⟩
  have HB4 := Lib.hid (HB3.out.trans (hb4.mono HB3.out.size))
  have heq : r2 = r1 := by rw [Bool.eq_iff_iff, hr2, HR1.out]
  subst heq
  clear hr2 hb4 HB3
  have hcase : r2 = true ∨ r2 = false := by cases r2 <;> simp
  rcases hcase with rfl | rfl
  · have HFo := Lib.hid (HR1.out.1 rfl)
    clear HR1
    go_wp2_with (at_builtin; refine wpList_unguard (by rfl) ?_; refine wpList_append_row Row.val rfl (.tmp 33) (.tmp 34) 22 rfl w.heap.size 23 ji (.slice none 0 0) 24 Tryd.underlying22 ji0 jz0 jz1 jz2 rfl _ 1 _ rfl (owns_new w4 (.slice f zs.length g) 23 HB4.out.size) a c rs rs.length rfl rfl (HRS.out.row.below (HB4.out.alloc HB4.out.size _)) HA.out (fun _ => rfl) (by unfold maxLen; omega) (by omega) (by have := HB4.out.size; simp; omega) ?_)
    intro v5 w5 hown5 hgrow5
    have HV5 : Hid (∃ a5 c5, v5 = .slice a5 (1 + rs.length) c5 ∧ RowsIn w5 a5 ((⟨f, g, zs⟩ : Row) :: rs) ∧ Below w.heap.size w w5) := by
      have hb5 : Below w.heap.size w w5 := (HB4.out.alloc HB4.out.size _).grown hgrow5 (by have := HB4.out.size; simp; omega) (fun q hq => by have := HB4.out.size; simp [Value.ownBlock] at hq; omega)
      have hown6 : w5.ownsRow w.heap.size 23 1 v5 ((⟨f, g, zs⟩ : Row) :: rs).length (((⟨f, g, zs⟩ : Row) :: rs).map Row.val) := by
        rw [List.length_cons, Nat.add_comm]; exact hown5
      obtain ⟨a5, c5, h1, h2, _⟩ := own_rowsIn hown6 (fun r hr => by
        rcases List.mem_cons.1 hr with rfl | hr
        · exact ⟨HZI.out.below hb5, by show zs.length ≤ _; omega⟩
        · exact ⟨(HRS.out.each r hr).below hb5, by have := HSZ.out.2 r hr; omega⟩)
      rw [List.length_cons, Nat.add_comm] at h1
      exact ⟨a5, c5, h1, h2, hb5⟩
    clear hown5 hgrow5
    obtain ⟨a5, c5, rfl, HW5⟩ : ∃ a5 c5, v5 = .slice a5 (1 + rs.length) c5 ∧ Hid (RowsIn w5 a5 ((⟨f, g, zs⟩ : Row) :: rs) ∧ Below w.heap.size w w5) := by
      obtain ⟨a5, c5, h1, h2⟩ := HV5.out
      exact ⟨a5, c5, h1, h2⟩
    clear HV5
    have HGR : Hid (∃ G, Calls Tryd.prog 11 #[.slice a5 (1 + rs.length) c5] w5 fun e w' => e = .returned (.int .i64 G) ∧ w5 = w') := by
      have := RefGreatest_any a5 c5 ((⟨f, g, zs⟩ : Row) :: rs) w5 HW5.out.1 (by simp; omega)
      rw [List.length_cons, Nat.add_comm] at this
      exact ⟨_, this⟩
    obtain ⟨G, HGR⟩ : ∃ G, Hid (Calls Tryd.prog 11 #[.slice a5 (1 + rs.length) c5] w5 fun e w' => e = .returned (.int .i64 G) ∧ w5 = w') := HGR.out
    have HB5 : Hid (Below w.heap.size w w5) := HW5.out.2
    clear HW5 HB4
    go_wp2_with fail
    refine HGR.out.mono ?_
    rintro e w6 ⟨rfl, rfl⟩
    by_cases hG : (8 : Int) < G
    · have hdG : decide ((8 : Int) < G) = true := decide_eq_true hG
      go_wp2_with fail
      go_ret
      exact ⟨rfl, HB5.out⟩
    · have hdG : decide ((8 : Int) < G) = false := decide_eq_false hG
      clear HGR
      go_wp2_with fail
      go_loopw [6, 7] (fun ov iv wr => ∃ k : Nat, iv = .int .i64 (k : Int) ∧ k ≤ zs.length ∧ Hid (∃ T, Offs w wr zs k ov T)) (fun _ iv _ => zs.length - (intOf iv).toNat)
      case atStart => exact ⟨0, rfl, Nat.zero_le _, [], World.ownsRow_nil _ _ _ _, by simp [offs], by simp, HB5.out⟩
      case round =>
        obtain ⟨k, rfl, hk, HO⟩ := hrel
        by_cases hlt : k < zs.length
        · have hltz : (k : Int) < (zs.length : Int) := by omega
          obtain ⟨T, HT⟩ : ∃ T, Hid (Offs w wr zs k u6 T) := HO.out
          have HTL : Hid (T.length = k) := HT.out.len hk
          obtain ⟨fb, foff, rfl, _, hc⟩ := (HZI.out.below HT.out.below).pos hlt
          have ck := hc k hlt
          have hx := (isLit_iff zs[k]!).1 (List.all_eq_true.1 HFo.out.2.1 _ (getElem!_mem hlt))
          have HSTEP : Hid (∀ v1 w1, w1.ownsRow w.heap.size 23 1 v1 (k + 1) (T.map Row.val ++ [.slice (some ⟨wr.heap.size, 0, none⟩) 1 1]) → ((wr.alloc (.cells #[.int .i64 (-zs[k]!)] 3)).alloc (.cells #[.slice (some ⟨wr.heap.size, 0, none⟩) 1 1] 23)).grownBy w1 u6.ownBlock → ∃ T1, Offs w w1 zs (k + 1) v1 T1) :=
            fun v1 w1 h1 h2 => HT.out.step hlt HTL.out h1 h2
          have HOWN : Hid (wr.ownsRow w.heap.size 23 1 u6 k (T.map Row.val)) := by have := HT.out.own; rwa [HTL.out] at this
          have HBW : Hid (w.heap.size ≤ wr.heap.size) := HT.out.below.size
          clear hc HO HTL HT
          generalize zs[k]! = x at *
          go_wp2_with (at_builtin; refine wpList_append_own _ rfl (.tmp 45) (.tmp 52) 22 rfl w.heap.size 23 ji (.slice none 0 0) 1 24 Tryd.underlying22 ji0 jz0 jz1 jz2 rfl (by decide) _ _ _ rfl ((HOWN.out.alloc _).alloc _) ⟨wr.heap.size + 1, 0, none⟩ 1 1 [.slice (some ⟨wr.heap.size, 0, none⟩) 1 1] rfl rfl ?c1 ?c2 ?c3 ?c4 ?c5 ?_)
          case c1 =>
            intro q u hq
            match q, hq with
            | 0, hq => simp at hq; subst hq; simp [Addr.add]
          case c2 => intro u hu; simp at hu; subst hu; rfl
          case c3 => unfold maxLen; omega
          case c4 => omega
          case c5 => have := HBW.out; simp; omega
          intro v1 w1 hown1 hgrow1 _
          have HO2 : Hid (∃ T1, Offs w w1 zs (k + 1) v1 T1) := HSTEP.out v1 w1 hown1 hgrow1
          clear hown1 hgrow1
          go_wp2_with fail
          go_roundw
          case rel => exact ⟨k + 1, by go_num, by omega, HO2⟩
          case measure => simp [intOf]; omega
        · obtain rfl : k = zs.length := by omega
          have hltz : ¬ (zs.length : Int) < (zs.length : Int) := by omega
          obtain ⟨T, HT⟩ : ∃ T, Hid (Offs w wr zs zs.length u6 T) := HO.out
          have HTL : Hid (T.length = zs.length) := HT.out.len (Nat.le_refl _)
          have HTZ : Hid (T.map Row.zs = offs zs) := by have := HT.out.zs; rwa [List.take_length] at this
          have HTR : Hid (∀ r ∈ T, RowIn (Value.int .i64) wr r.a r.zs ∧ r.zs.length = 1 ∧ r.c = 1) := HT.out.rowsIn
          have HBW : Hid (Below w.heap.size w wr) := HT.out.below
          obtain ⟨b6, c6, rfl, HR6⟩ : ∃ b6 c6, u6 = .slice b6 zs.length c6 ∧ Hid (RowsIn wr b6 T ∧ (b6 = none → c6 = 0)) := by
            obtain ⟨b6, c6, h1, h2, h3, _⟩ := own_rowsIn HT.out.own (fun r hr => ⟨(HTR.out r hr).1, by have := (HTR.out r hr).2.1; omega⟩)
            exact ⟨b6, c6, by rw [h1, HTL.out], h2, h3⟩
          clear HO HT HS HF HG HGR
          go_wp2_with (at_builtin; refine wpList_append_row Row.val rfl (.tmp 54) (.tmp 55) 22 rfl wr.heap.size 23 ji (.slice none 0 0) 24 Tryd.underlying22 ji0 jz0 jz1 jz2 rfl _ 0 [] rfl (World.ownsRow_made wr #[] 0 (Nat.le_refl _) (Nat.zero_le _) (by simp)) a c rs rs.length rfl rfl ((HRS.out.row.below HBW.out).below ((Below.refl _ _).alloc (Nat.le_refl _) _)) HA.out (fun _ => rfl) (by unfold maxLen; omega) (by omega) (by simp) ?_)
          intro v7 w7 hown7 hgrow7
          have HO7 : Hid (w7.ownsRow wr.heap.size 23 1 v7 rs.length (rs.map Row.val) ∧ Below wr.heap.size wr w7) := by
            refine ⟨by simpa using hown7, ((Below.refl _ _).alloc (Nat.le_refl _) _).grown hgrow7 (by simp) (fun q hq => by simp [Value.ownBlock] at hq; omega)⟩
          clear hown7 hgrow7
          go_wp2_with (at_builtin; refine wpList_append_row Row.val rfl (.tmp 56) (.tmp 57) 22 rfl wr.heap.size 23 ji (.slice none 0 0) 24 Tryd.underlying22 ji0 jz0 jz1 jz2 rfl v7 rs.length _ rfl HO7.out.1 b6 c6 T zs.length HTL.out rfl (HR6.out.1.row.below HO7.out.2) HR6.out.2 (fun _ => rfl) (by have := HTL.out; unfold maxLen; omega) (by have := HTL.out; omega) HO7.out.2.size ?_)
          intro v8 w8 hown8 hgrow8
          have HV8 : Hid (∃ a8 c8, v8 = .slice a8 (rs.length + T.length) c8 ∧ RowsIn w8 a8 (rs ++ T) ∧ Below w.heap.size w w8) := by
            have hb8 : Below wr.heap.size wr w8 := HO7.out.2.grown hgrow8 HO7.out.2.size (fun q hq => (HO7.out.1.lt q hq).1)
            have hb : Below w.heap.size w w8 := HBW.out.trans (hb8.mono HBW.out.size)
            have hown9 : w8.ownsRow wr.heap.size 23 1 v8 (rs ++ T).length ((rs ++ T).map Row.val) := by
              rw [List.length_append, List.map_append]; exact hown8
            obtain ⟨a8, c8, h1, h2, _⟩ := own_rowsIn hown9 (fun r hr => by
              rcases List.mem_append.1 hr with hr | hr
              · exact ⟨(HRS.out.each r hr).below hb, by have := HSZ.out.2 r hr; omega⟩
              · exact ⟨(HTR.out r hr).1.below hb8, by have := (HTR.out r hr).2.1; omega⟩)
            rw [List.length_append] at h1
            exact ⟨a8, c8, h1, h2, hb⟩
          clear hown8 hgrow8
          obtain ⟨a8, c8, rfl, HW8⟩ : ∃ a8 c8, v8 = .slice a8 (rs.length + T.length) c8 ∧ Hid (RowsIn w8 a8 (rs ++ T) ∧ Below w.heap.size w w8) := by
            obtain ⟨a8, c8, h1, h2⟩ := HV8.out
            exact ⟨a8, c8, h1, h2⟩
          have HBR : Hid (Calls Tryd.prog 12 #[.slice a8 (rs.length + T.length) c8, .int .i64 8] w8 fun e w' => e = .returned (.bool false) ∧ Below w8.heap.size w8 w') := by
            have h0 := Brute_any (rs ++ T) a8 c8 8 w8 HW8.out.1 (by have := HTL.out; rw [List.length_append]; omega) (by omega)
            rw [List.length_append, List.map_append, HTZ.out] at h0
            refine h0.mono ?_
            rintro e w' ⟨r, rfl, h1, h2⟩
            have : r = false := by
              rw [← Bool.not_eq_true]
              intro q
              exact no_model HFo.out.holds 8 (h1.1 q)
            subst this
            exact ⟨rfl, h2⟩
          clear HV8
          go_wp2_with fail
          refine HBR.out.mono ?_
          rintro e w9 ⟨rfl, hb9⟩
          go_wp2_with fail
          go_ret
          exact ⟨rfl, HW8.out.2.trans (hb9.mono HW8.out.2.size)⟩
  · clear HR1
    go_wp2_with fail
    go_ret
    exact ⟨rfl, HB4.out⟩

set_option maxHeartbeats 4000000 in
set_option maxRecDepth 100000 in
theorem RupFollows_law (rs : List Row) (a : Option Addr) (c : Nat) (zs : List Int) (f : Option Addr) (g : Nat) (w : World)
    (ht : Tab w) (hrs : RowsIn w a rs) (ha : a = none → c = 0) (hlc : rs.length ≤ c) (hcm : c ≤ 9223372036854775807) (hrz : ∀ r ∈ rs, r.zs.length ≤ r.c)
    (hz : RowIn (Value.int .i64) w f zs) (hzg : zs.length ≤ g) (hzl : zs.length ≤ 9223372036854775807) (hzr : ∀ z ∈ zs, -9223372036854775808 ≤ z ∧ z ≤ 9223372036854775807) :
    Calls Tryd.prog 3 #[.slice a rs.length c, .slice f zs.length g] w fun e w' => e = .returned (.bool true) ∧ Below w.heap.size w w' := by
  by_cases hs : smallB (rs.map Row.zs) 40 100000 = true
  · by_cases hz12 : zs.length ≤ 12
    · exact RupFollows_main rs a c zs f g w ht hrs ha hlc hcm hrz hs hz hzg hz12 hzr
    · have hd2 : (12 : Int) < (zs.length : Int) := by omega
      have HS : Hid (∀ w2, Below w.heap.size w w2 → Calls Tryd.prog 8 #[.slice a rs.length c, .int .i64 40, .int .i64 100000] w2 fun e w' => e = .returned (.bool true) ∧ w2 = w') := fun w2 h => by
        have := Small_any a c rs 40 100000 w2 (hrs.below h) hlc hcm
        rwa [hs] at this
      have HT := Lib.hid ht
      clear ht hrs ha hrz hz hzr
      go_enter Tryd.func3, Tryd.ntmps3
      go_wp2_with fail
      refine (rup_awake w HT.out).mono ?_
      rintro e w1 ⟨rfl, hb1⟩
      go_wp2_with fail
      refine (HS.out _ hb1).mono ?_
      rintro e w2 ⟨rfl, rfl⟩
      go_wp2_with fail
      refine (rup_awake w1 (HT.out.below hb1)).mono ?_
      rintro e w3 ⟨rfl, hb3⟩
      go_wp2_with fail
      go_ret
      exact ⟨rfl, hb1.trans (hb3.mono hb1.size)⟩
  · have hs2 : smallB (rs.map Row.zs) 40 100000 = false := Bool.not_eq_true _ ▸ hs
    have HS : Hid (∀ w2, Below w.heap.size w w2 → Calls Tryd.prog 8 #[.slice a rs.length c, .int .i64 40, .int .i64 100000] w2 fun e w' => e = .returned (.bool false) ∧ w2 = w') := fun w2 h => by
      have := Small_any a c rs 40 100000 w2 (hrs.below h) hlc hcm
      rwa [hs2] at this
    have HT := Lib.hid ht
    clear ht hrs ha hrz hz hzr
    go_enter Tryd.func3, Tryd.ntmps3
    go_wp2_with fail
    refine (rup_awake w HT.out).mono ?_
    rintro e w1 ⟨rfl, hb1⟩
    go_wp2_with fail
    refine (HS.out _ hb1).mono ?_
    rintro e w2 ⟨rfl, rfl⟩
    go_wp2_with fail
    refine (rup_awake w1 (HT.out.below hb1)).mono ?_
    rintro e w3 ⟨rfl, hb3⟩
    go_wp2_with fail
    go_ret
    exact ⟨rfl, hb1.trans (hb3.mono hb1.size)⟩
end Go.Proofs.YthpamogomfleoaaDoor.Cl
