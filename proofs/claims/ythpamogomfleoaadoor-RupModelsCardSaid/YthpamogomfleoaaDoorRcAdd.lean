/- Contract of add. -/
import Derived.Test.YthpamogomfleoaaDoorRcD
import Derived.StringKeys
namespace Go.Proofs.YthpamogomfleoaaDoor.Rc
open Go Go.RowKit Go.Lib Go.Maps
open Go.Proofs.YthpamogomfleoaaDoor.Cl (RowIn Tab nf isNf_nf rightB oppB nf_length)

theorem infoRec : (Tryd.prog.info? 72).map (fun i => (i.zero, i.size, i.bytes)) = some (some (.agg #[.slice none 0 0, .int .i64 0]), 2, 32) := by kernel_rfl
theorem mapLaw : Maps.Keyed Tryd.prog 9 := Maps.string_keyed Tryd.underlying9
theorem zeroInt (w : World) : (zeroValue 3).run Tryd.prog w = .ok (.int .i64 0) w := by kernel_rfl
theorem grown_trans {a b c : World} {r : Option Nat} (h : a.grownBy b r) (k : b.grownBy c r) : a.grownBy c r :=
  ⟨k.os.trans h.os, k.tape.trans h.tape, k.output.trans h.output, Nat.le_trans h.size k.size, fun i hi hn => (k.block i (Nat.lt_of_lt_of_le hi h.size) hn).trans (h.block i hi hn)⟩

/-- What add answers. -/
def AddE (w : World) (Y : Lay) (σ : St) (zs : List Int) (e : Ending) (w' : World) : Prop :=
  e = .returned (.tuple #[]) ∧ ∃ σ' Y', Mem w' Y' σ' none ∧ Base σ' (fun _ => False) ∧ PlcOk σ' ∧ (∀ cs, Cnt σ cs → Cnt σ' (cs ++ [zs])) ∧ σ'.V = σ.V ∧ σ'.N ≤ σ.N + 1 ∧ σ'.stale = σ.stale ∧ Nxt sAny w Y w' Y'

set_option maxRecDepth 100000 in
set_option maxHeartbeats 8000000 in
theorem add_any {w : World} {Y : Lay} {σ : St} (h : Mem w Y σ none) (hB : Base σ fun _ => False) (hP : PlcOk σ) (ht : Tab w) (a : Option Addr) (c : Nat) (zs : List Int) (hr : RowIn (Value.int .i64) w a zs) (hl : zs.length ≤ 1000) (hzr : rightB zs = true) (hL : ∀ m ∈ zs, Lt σ.V m) (hN : σ.N ≤ 1000000) (hcp : ∀ p, p < σ.N → σ.cps p ≤ 1000000) :
    Calls Tryd.prog 39 #[.pointer (some ⟨Y.s, 0, none⟩), .slice a zs.length c] w (AddE w Y σ zs) := by
  have HNM := Lib.hid (Norm_blk a c zs w hr hl hzr)
  have HH := Lib.hid (And.intro h (And.intro hB (And.intro hP (And.intro ht (And.intro hL (And.intro hN hcp))))))
  have HNL : Hid ((nf zs).length ≤ 1000) := by have := nf_length zs; show _ ≤ _; omega
  have HNZ : Hid (∀ z ∈ nf zs, -9223372036854775808 ≤ z ∧ z ≤ 9223372036854775807) := fun z hz => by
    have := hL z (((isNf_nf zs).2 z).1 hz); have := h.nle; have := this; have h1 := (hL z (((isNf_nf zs).2 z).1 hz)).2; omega
  have hslt := h.slt
  clear h hB hP ht hr hl hzr hL hN hcp
  go_enter Tryd.func39, Tryd.ntmps39
  go_wp2_with fail
  refine HNM.out.mono ?_
  rintro e w1 ⟨a1, c1, rfl, hc1, hb1, hrow⟩
  have HM1 : Hid (Mem w1 Y σ none) := HH.out.1.below hb1
  have HB1 := Lib.hid hb1
  have HT1 : Hid (Tab w1) := HH.out.2.2.2.1.below hb1
  have hri : RowIn (Value.int .i64) w1 a1 (nf zs) := by
    rcases hrow with e | ⟨g, arr, rfl, hg, hh, hcs⟩
    · exact Or.inl e
    · exact Or.inr ⟨g, 0, rfl, lt_of_block hh, fun j hj => by simp only [World.cell?, hh]; simpa using hcs j hj⟩
  have HROW := Lib.hid hrow
  have HKEY := Lib.hid (key_any a1 c1 (nf zs) w1 HT1.out hri HNL.out HNZ.out)
  clear hrow hri hb1
  obtain ⟨len, hlen⟩ : ∃ len, len = (nf zs).length := ⟨_, rfl⟩
  rw [← hlen] at HKEY ⊢
  have HLEN := Lib.hid hlen
  clear hlen
  go_wp2_with fail
  refine HKEY.out.mono ?_
  rintro e w2 ⟨s, rfl, hs, hb2⟩
  have HM2 : Hid (Mem w2 Y σ none) := HM1.out.below hb2
  have HS : Hid (s.data.toList = kt zs) := hs
  have hss : s.size ≤ 22000 := by
    have e1 : s.size = s.data.toList.length := by rw [Array.length_toList]; rfl
    rw [e1, hs]
    have := ktext_len HNZ.out
    have := HNL.out
    omega
  have HB2 : Hid (Below w.heap.size w w2) := HB1.out.trans (hb2.mono HB1.out.size)
  have HROW2 : Hid (nf zs = [] ∨ ∃ g arr, a1 = some ⟨g, 0, none⟩ ∧ w.heap.size ≤ g ∧ g < w1.heap.size ∧ w2.heap[g]? = some (.cells arr 3 (0, 0)) ∧ ∀ i, i < (nf zs).length → arr[i]? = some (.int .i64 (nf zs)[i]!)) := by
    rcases HROW.out with e | ⟨g, arr, e, hg, hh, hcs⟩
    · exact Or.inl e
    · exact Or.inr ⟨g, arr, e, hg, lt_of_block hh, (hb2.block g (lt_of_block hh)).trans hh, hcs⟩
  have hsz12 := hb2.size
  clear hs hb2 HROW HKEY HNM HM1 HT1
  have c6 := HM2.out.cell 6 (by omega)
  obtain ⟨B, D, e6, r6, m6, d6⟩ := HM2.out .plc
  rw [e6] at c6
  have hkey : keyOf Tryd.prog 9 (.string s) = some (.string s.data.toList) := Go.WideMaps.keyOf_string_mk Tryd.underlying9 (by unfold maxLen; omega)
  have HE6 := Lib.hid (And.intro e6 (And.intro r6 d6))
  have HD := Lib.hid m6
  have hNn : σ.N < maxLen := by have := HH.out.2.2.2.2.2.1; unfold maxLen; omega
  have HSD : Hid (Lit.string s.data.toList = Lit.string (kt zs)) := by rw [HS.out]; rfl
  clear e6 r6 m6 d6
  cases hpl : σ.plc (kt zs) with
  | some p =>
    have hpp := (HH.out.2.2.1 _ _).1 hpl
    obtain ⟨rg, rc, er, hr1, hr2, hr3, hr4, cr0, cr1, hrf⟩ := HM2.out.recAt hpp.1
    have c5 := HM2.out.cell 5 (by omega)
    rw [er] at c5
    unfold encN at cr1
    have hrf1 := hrf (p * 2 + 1)
    have hcp1 := HH.out.2.2.2.2.2.2 p hpp.1
    have pz : (p : Int) < (σ.N : Int) := by have := hpp.1; omega
    have p0 : (0 : Int) ≤ (p : Int) := by omega
    have HDP := Lib.hid (((HE6.out.2.2.2 (kt zs)).1 p hpl))
    have HPL := Lib.hid (And.intro hpl hpp)
    have HFIN : Hid (AddE w Y σ zs (.returned (.tuple #[])) (w2.setCell ⟨rg, p * 2 + 1, none⟩ (.int .i64 ((σ.cps p : Int) + 1)))) := by
      have hset := HM2.out.setCps er hpp.1 (σ.cps p + 1)
      have e : ((σ.cps p + 1 : Nat) : Int) = (σ.cps p : Int) + 1 := by omega
      rw [e] at hset
      refine ⟨rfl, σ.more p, Y, hset.1, HH.out.2.1.more hpp.2.1, HH.out.2.2.1.more hpp.2.1, fun cs hcs => hcs.more HH.out.2.2.1 hpl, rfl, Nat.le_succ _, rfl, ?_⟩
      exact Nxt.same ((Frm.below HB2.out (Nat.le_refl _) HB2.out.size).trans (hset.2.mono (sAny_le rfl)) (fun _ _ => rfl))
    have HCC : Hid (∀ cc : Int, D.atKey (Lit.string s.data.toList) (.lit (.int .i64 0)) = .lit (.int .i64 cc) → (p : Int) = cc) := fun cc hat => by
      rw [HSD.out, HDP.out.2] at hat
      simpa using hat
    have HHAS : Hid (Maps.has D (Lit.string s.data.toList) = true) := by rw [Hid, HSD.out]; exact HDP.out.1
    generalize hcpe : σ.cps p = cp at *
    clear hpl hpp er hr1 hr2 hr3 hr4 cr0 hrf hcpe
    go_wp2_with (at_lookup; refine wpList_lookup_own_ok_int _ rfl _ _ 55 rfl 9 3 .i64 mapLaw Tryd.underlying55 Tryd.underlying3 (zeroInt _) B σ.N D rfl HD.out _ _ rfl hkey ?_; intro cc hat hwc; obtain rfl := HCC.out cc hat; rw [HHAS.out]; clear hat hwc)
    go_end0
    exact HFIN.out
  | none =>
    have HPL := Lib.hid hpl
    have hND := (HE6.out.2.2.2 (kt zs)).2 hpl
    have HHAS : Hid (Maps.has D (Lit.string s.data.toList) = false) := by rw [Hid, HSD.out]; exact hND
    have hNle := HH.out.2.2.2.2.2.1
    -- the new literals' block becomes the checker's
    obtain ⟨Y2, HM3, HY2, HLR⟩ : ∃ Y2 : Lay, Hid (Mem w2 Y2 σ none) ∧ Hid (Y2.s = Y.s ∧ Y2.hd = Y.hd ∧ ∀ k, k < w.heap.size → Y2.ρ k = Y.ρ k) ∧ Hid (LitR w2 Y2.ρ σ.N (.slice a1 len c1) (nf zs)) := by
      rcases HROW2.out with e | ⟨g, arr, e, hg, hg1, hh, hcs⟩
      · exact ⟨Y, HM2.out, ⟨rfl, rfl, fun _ _ => rfl⟩, a1, c1, by rw [HLEN.out], Or.inl e⟩
      · have hold : Y.ρ g = .old := (HH.out.1 .chk).2.2.2 g hg
        refine ⟨_, HM2.out.adopt hold (lt_of_block hh) (.lit σ.N), ⟨rfl, rfl, fun k hk => upd_ne _ _ _ (by omega)⟩, a1, c1, by rw [HLEN.out], Or.inr ⟨g, arr, e, hh, upd_same _ _ _, hcs⟩⟩
    have hs2 := HY2.out.1
    have r6 : Y2.ρ B = .map := by
      obtain ⟨B', D', e6, r6, _⟩ := HM3.out .plc
      rw [HY2.out.2.1, HE6.out.1] at e6
      obtain rfl : B = B' := by simpa using e6
      exact r6
    have c5 := HM3.out.cell 5 (by omega)
    have f5 := HM3.out.free 5
    obtain ⟨a5, k5, e5, _, _⟩ := own_form (HM3.out .rcs)
    rw [e5, hs2] at c5
    rw [hs2] at f5
    have E5 := Lib.hid e5
    have HO5 : Hid (w2.ownsRow 0 72 2 (.slice a5 σ.N k5) σ.N (recC Y2.litV σ.cps σ.N)) := by
      have := (HM3.out .rcs).1
      rw [← e5]; exact this
    have hB5 : (Value.slice a5 σ.N k5).ownBlock ≠ some B := fun e => by
      have := (HM3.out .rcs).2 _ (by rw [e5]; exact e)
      rw [r6] at this; cases this
    have hs5 : (Value.slice a5 σ.N k5).ownBlock ≠ some Y.s := fun e => by
      have := (HM3.out .rcs).2 _ (by rw [e5]; exact e)
      rw [← hs2, HM3.out.srole] at this; cases this
    have hsB : Y.s ≠ B := fun e => by have := HM3.out.srole; rw [hs2, e, r6] at this; cases this
    have hslt2 : Y.s < w2.heap.size := by rw [← hs2]; exact HM3.out.slt
    obtain ⟨ii, hi, hz0, hz1, hz2⟩ := info_parts infoRec
    have HR6 := Lib.hid r6
    clear hpl hND e5 r6
    go_wp2_with (first | (at_lookup; refine wpList_lookup_own_ok_int _ rfl _ _ 55 rfl 9 3 .i64 mapLaw Tryd.underlying55 Tryd.underlying3 (zeroInt _) B σ.N D rfl HD.out _ _ rfl hkey ?_; intro cc hat hwc; rw [HHAS.out]; clear hat hwc) | (at_mapUpdate; refine wpList_mapUpdate_own _ rfl _ _ _ 55 rfl 9 3 mapLaw Tryd.underlying55 _ B σ.N D rfl HD.out hNn _ _ _ rfl rfl hkey _ [] (plainElem_int Tryd.underlying3 (WalkArith.wf_i64 (by omega))) ?_; intro w3 hown3 hgrow3; refine Hid.out ?_))
    refine Lib.hid ?_
    have HO3 : Hid (w3.ownsRow 0 72 2 (.slice a5 σ.N k5) σ.N (recC Y2.litV σ.cps σ.N)) := HO5.out.kept hgrow3 (Or.inr hB5)
    have c53 : w3.cell? ⟨Y.s, 5, none⟩ = some (.slice a5 σ.N k5) := hgrow3.cell c5 (fun e => hsB (Option.some.inj e))
    have f53 : w3.frozen? ⟨Y.s, 5, none⟩ = false := (hgrow3.frozen_far ⟨Y.s, 5, none⟩ hslt2 (fun e => hsB (Option.some.inj e))).trans f5
    have HW3 := Lib.hid (And.intro hown3 hgrow3)
    have hs3 : Y.s < w3.heap.size := Nat.lt_of_lt_of_le hslt2 hgrow3.size
    clear hown3 hgrow3 c5 f5
    go_wp2_with (at_builtin; refine wpList_append_lies _ rfl _ _ 56 rfl 0 72 ii _ 2 32 Tryd.underlying56 hi hz0 hz1 hz2 rfl (by decide) _ _ _ rfl (HO3.out.alloc _) ⟨w3.heap.size, 0, none⟩ 1 1 [.slice a1 len c1, .int .i64 1] rfl rfl ?c1 ?c2 (by decide) ?c3 ?c4 ?c5 (w3.heap.size + 1) (by simp [World.setCell]) ?_)
    case c1 => exact World.news_of_block (cs := #[.slice a1 len c1, .int .i64 1]) (t := 72) (fr := (0, 0)) (heap_alloc_new w3 _)
    case c2 =>
      intro u hu
      rcases List.mem_cons.1 hu with rfl | hu
      · rfl
      · obtain rfl := List.mem_singleton.1 hu; rfl
    case c3 => unfold maxLen; omega
    case c4 => omega
    case c5 => exact Nat.zero_le _
    intro g cap w4 hown4 hgrow4 hat4 hlt4
    have hkt : kt (nf zs) = kt zs := by unfold kt; rw [nf_idem]
    have hsz3 : (w3.alloc (.cells #[.slice a1 len c1, .int .i64 1] 72)).heap.size = w3.heap.size + 1 := by simp
    have G : Gr (w3.alloc (.cells #[.slice a1 len c1, .int .i64 1] 72)) w4 Y2.ρ .rcs (Y2.hd 5) g :=
      ⟨by rw [E5.out]; exact hgrow4, by rw [E5.out]; exact hat4.imp id (fun e => by omega), fun k hk => (HM3.out .rcs).2 k hk, hlt4⟩
    have hgs : g ≠ Y2.s := by
      intro e
      rcases G.at' with q | q
      · have := G.role _ q; rw [e, HM3.out.srole] at this; cases this
      · rw [e, hs2] at q; omega
    have hD2 : Plc (D.put (Lit.string s.data.toList) (.lit (.int .i64 (σ.N : Int)))) (updP σ.plc (kt (nf zs)) σ.N) := by
      rw [HSD.out, hkt]; exact HE6.out.2.2.put (kt zs) σ.N
    have R := HM3.out.newRec (by rw [HY2.out.2.1]; exact HE6.out.1) HR6.out (HW3.out.1.alloc _) (grown_trans HW3.out.2 (World.grownBy_alloc w3 _ (some B))) hD2 G hgs hown4 HLR.out
    have c54 := hgrow4.cell (a := ⟨Y.s, 5, none⟩) ((World.cell?_of_block (a := ⟨Y.s, 5, none⟩) (Below.heap_alloc w3 _ _ hs3)).trans c53) (fun e => hs5 e.symm)
    have f54 := (hgrow4.frozen_far ⟨Y.s, 5, none⟩ (by simp; omega) (fun e => hs5 e.symm)).trans ((World.frozen?_of_block (Below.heap_alloc w3 _ _ hs3)).trans f53)
    rw [hs2] at R
    obtain ⟨Y5, HM5, HN5, hs5'⟩ : ∃ Y5, Hid (Mem (w4.setCell ⟨Y.s, 5, none⟩ (.slice (some ⟨g, 0, none⟩) (σ.N + 1) cap)) Y5 (σ.new (nf zs)) none) ∧ Hid (Nxt sAny w Y (w4.setCell ⟨Y.s, 5, none⟩ (.slice (some ⟨g, 0, none⟩) (σ.N + 1) cap)) Y5) ∧ Y5.s = Y.s := by
      refine ⟨_, R.1, ?_, rfl⟩
      refine ⟨(Frm.below HB2.out (Nat.le_refl _) HB2.out.size).trans (R.2.frm.mono (sAny_le rfl)) (fun k hk => HY2.out.2.2 k hk), rfl, fun k hk => ?_⟩
      have := R.2.ext k (Nat.lt_of_lt_of_le hk HB2.out.size)
      exact this.trans (HY2.out.2.2 k hk)
    clear R G hgs hD2 hown4 hgrow4 hat4 hlt4
    have HIN : Hid (Calls Tryd.prog 57 #[.pointer (some ⟨Y.s, 0, none⟩), .int .i64 (σ.N : Int)] (w4.setCell ⟨Y.s, 5, none⟩ (.slice (some ⟨g, 0, none⟩) (σ.N + 1) cap)) (InE (w4.setCell ⟨Y.s, 5, none⟩ (.slice (some ⟨g, 0, none⟩) (σ.N + 1) cap)) Y5 (σ.new (nf zs)))) := by
      have hlt : (σ.new (nf zs)).lits σ.N = nf zs := upd_same _ _ _
      have hm : ∀ m ∈ nf zs, Lt σ.V m := fun m hm => HH.out.2.2.2.2.1 m (((isNf_nf zs).2 m).1 hm)
      have hin := install_any HM5.out σ.N (Nat.lt_succ_self _) (by show upd σ.cps σ.N 1 σ.N ≠ 0; rw [upd_same]; omega) ⟨HH.out.2.1.t.lt, HH.out.2.1.t.nd, HH.out.2.1.t.val, HH.out.2.1.t.con, HH.out.2.1.t.head⟩ (by rw [hlt]; exact hm) (by rw [hlt]; exact HNL.out) (fun l hl => by show (σ.wat l).length ≤ _; have := HH.out.2.1.w.len hl.in'; omega) (by show σ.sh.length ≤ _; have := nodup_len HH.out.2.1.sh3 (fun x hx => (HH.out.2.1.sh1 x hx).1); omega) (by show σ.N + 1 ≤ _; omega)
        (fun ls' hp => HH.out.2.1.new (by rw [hlt] at hp; exact hp) (nf_nodup zs) hm HNL.out)
      rw [hs5'] at hin
      exact hin
    go_wp2_with fail
    refine HIN.out.mono ?_
    rintro e w6 ⟨σ6, Y6, rfl, hm6, hb6, hs6, hn6⟩
    have HFIN : Hid (AddE w Y σ zs (.returned (.tuple #[])) w6) := by
      have hpo : PlcOk (σ.new (nf zs)) := HH.out.2.2.1.new (by rw [hkt]; exact HPL.out)
      refine ⟨rfl, σ6, Y6, hm6, hb6, PlcOk.same (σ := { σ.new (nf zs) with sh := σ6.sh }) hpo hs6, fun cs hcs => Cnt.same (σ := { σ.new (nf zs) with sh := σ6.sh }) (hcs.new HH.out.2.2.1 hkt (by rw [hkt]; exact HPL.out)) hs6, hs6.V, ?_, hs6.stale, HN5.out.trans hn6⟩
      have e6 : σ6.N = σ.N + 1 := hs6.N
      omega
    clear hm6 hb6 hs6 hn6
    go_wp2_with fail
    go_end0
    exact HFIN.out
end Go.Proofs.YthpamogomfleoaaDoor.Rc
