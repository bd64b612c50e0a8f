/- Contract of install. -/
import Derived.Test.YthpamogomfleoaaDoorRcAp
namespace Go.Proofs.YthpamogomfleoaaDoor.Rc
open Go Go.RowKit Go.Lib

/-- A clause's literals are laid anew. -/
def St.lay (σ : St) (p : Nat) (ls : List Int) : St := { σ with lits := upd σ.lits p ls }
/-- It is looked after: among the short ones, or by its first two literals. -/
def St.ins (σ : St) (p : Nat) (ls : List Int) : St := if ls.length < 2 then { σ.lay p ls with sh := σ.sh ++ [p] } else ((σ.lay p ls).wat1 ls[0]! p).wat1 ls[1]! p
/-- What install answers. -/
def InE (w : World) (Y : Lay) (σ : St) (e : Ending) (w' : World) : Prop :=
  ∃ σ' Y', e = .returned (.tuple #[]) ∧ Mem w' Y' σ' none ∧ Base σ' (fun _ => False) ∧ Same { σ with sh := σ'.sh } σ' ∧ Nxt sAny w Y w' Y'
/-- Where install stands: those ahead of f are not false, those from there to i are. -/
structure InTo (σ : St) (p : Nat) (ls : List Int) (f i : Nat) : Prop where
  perm : ls.Perm (σ.lits p)
  fi : f ≤ i
  ahead : ∀ j, j < f → -ls[j]! ∉ σ.asg
  behind : ∀ j, f ≤ j → j < i → -ls[j]! ∈ σ.asg
theorem InTo.no {σ : St} {p : Nat} {ls : List Int} {f i : Nat} (h : InTo σ p ls f i) (hn : -ls[i]! ∈ σ.asg) : InTo σ p ls f (i + 1) := by
  refine ⟨h.perm, by have := h.fi; omega, h.ahead, fun j j1 j2 => ?_⟩
  by_cases e : j = i
  · subst e; exact hn
  · exact h.behind j j1 (by omega)
theorem InTo.yes {σ : St} {p : Nat} {ls : List Int} {f i : Nat} (h : InTo σ p ls f i) (hi : i < ls.length) (hn : -ls[i]! ∉ σ.asg) : InTo σ p (swp ls f i) (f + 1) (i + 1) := by
  have hf := h.fi
  refine ⟨(swp_perm (by omega) hi).trans h.perm, by omega, fun j hj => ?_, fun j j1 j2 => ?_⟩
  · rw [swp_get (by omega) hi (by omega)]
    by_cases e : j = i
    · rw [if_pos e]
      have : f = i := by omega
      rw [this]; exact hn
    · rw [if_neg e]
      by_cases e2 : j = f
      · rw [if_pos e2]; exact hn
      · rw [if_neg e2]; exact h.ahead j (by omega)
  · rw [swp_get (by omega) hi (by omega)]
    by_cases e : j = i
    · rw [if_pos e]; exact h.behind f (Nat.le_refl _) (by omega)
    · rw [if_neg e, if_neg (by omega)]; exact h.behind j (by omega) (by omega)
theorem InTo.front {σ : St} {p : Nat} {ls : List Int} {f : Nat} (h : InTo σ p ls f ls.length) : Front σ ls := by
  intro i j hij hj hn
  by_cases e : j < f
  · exact h.ahead i (by omega)
  · exact absurd (h.behind j (by omega) hj) hn

theorem lay_lay (σ : St) (p : Nat) (ls ls' : List Int) : (σ.lay p ls).lay p ls' = σ.lay p ls' := by
  unfold St.lay
  congr 1
  funext k; simp only [upd]; split <;> rfl

set_option maxRecDepth 100000 in
set_option maxHeartbeats 8000000 in
theorem install_any {w : World} {Y : Lay} {σ : St} (h : Mem w Y σ none) (p : Nat) (hp : p < σ.N) (hc : σ.cps p ≠ 0) (ht : Trl σ) (hL : ∀ m ∈ σ.lits p, Lt σ.V m) (hlen : (σ.lits p).length ≤ 1000) (hw : ∀ l, Lt σ.V l → (σ.wat l).length ≤ 10000000) (hsh : σ.sh.length ≤ 10000000) (hN : σ.N ≤ 10000000)
    (hB : ∀ ls : List Int, ls.Perm (σ.lits p) → Base (σ.ins p ls) (fun q => False ∨ q = p)) :
    Calls Tryd.prog 57 #[.pointer (some ⟨Y.s, 0, none⟩), .int .i64 (p : Int)] w (InE w Y σ) := by
  have HM : Hid (∃ ls f, InTo σ p ls f 0 ∧ f = 0 ∧ Mem w Y (σ.lay p ls) none ∧ Frm Y.ρ (sLits p) w w) := by
    refine ⟨σ.lits p, 0, ⟨.refl _, Nat.le_refl _, fun j hj => by omega, fun j _ hj => by omega⟩, rfl, ?_, Frm.refl _ _ _⟩
    have : σ.lay p (σ.lits p) = σ := by unfold St.lay; rw [upd_self]
    rw [this]; exact h
  obtain ⟨rg, rc, er, hr1, hr2, hr3, hr4, cr0, cr1, _⟩ := h.recAt hp
  obtain ⟨la, lc, el⟩ := h.litV hp
  have c5 := h.cell 5 (by omega)
  rw [er] at c5
  rw [el] at cr0
  have pz : (p : Int) < (σ.N : Int) := by omega
  have p0 : (0 : Int) ≤ (p : Int) := by omega
  obtain ⟨len, hle⟩ : ∃ len, len = (σ.lits p).length := ⟨_, rfl⟩
  rw [← hle] at cr0 hlen
  have HLE := Lib.hid hle
  have EL := Lib.hid el
  have HH := Lib.hid (And.intro hp (And.intro hc (And.intro ht (And.intro hL (And.intro hw (And.intro hsh (And.intro hN hB)))))))
  have HE0 := Lib.hid (And.intro er hr1)
  clear h hp hc ht hL hw hsh hN hB er hr1 hr2 hr3 hr4 cr1 hle el
  go_enter Tryd.func57, Tryd.ntmps57
  go_wp2_with fail
  go_loopw [5, 18] (fun fv iv wr => ∃ (f i : Nat), fv = .int .i64 (f : Int) ∧ iv = .int .i64 (i : Int) ∧ f ≤ i ∧ i ≤ len ∧ Hid (∃ ls, InTo σ p ls f i ∧ Mem wr Y (σ.lay p ls) none ∧ Frm Y.ρ (sLits p) w wr)) (fun _ iv _ => len - (intOf iv).toNat)
  case atStart =>
    obtain ⟨ls, f, a1, rfl, a3, a4⟩ := HM.out
    exact ⟨0, 0, rfl, rfl, Nat.le_refl _, Nat.zero_le _, ls, a1, a3, a4⟩
  case round =>
    obtain ⟨f, i, rfl, rfl, hfi, hil, HI⟩ := hrel
    by_cases hlt : i < len
    · obtain ⟨ls, hto, hm, hF⟩ := HI.out
      have hlsl : ls.length = len := by rw [hto.perm.length_eq, HLE.out]
      have hlay : (σ.lay p ls).lits p = ls := upd_same _ _ _
      obtain ⟨lg, lc2, el2, hg1, hg2, hg3, hg4⟩ := hm.litAt (p := p) HH.out.1 (by rw [hlay]; omega)
      rw [hlay] at hg3
      rw [EL.out] at el2
      simp only [Value.slice.injEq] at el2
      obtain ⟨rfl, hq0, rfl⟩ := el2
      clear hq0
      obtain ⟨m, hmm⟩ : ∃ m, m = ls[i]! := ⟨_, rfl⟩
      have ci := hg3 i (by omega)
      rw [← hmm] at ci
      have hmL : Lt σ.V m := by rw [hmm]; exact HH.out.2.2.2.1 _ (hto.perm.mem_iff.1 (mem! (by omega)))
      have iz : (i : Int) < (len : Int) := by omega
      have i0 : (0 : Int) ≤ (i : Int) := by omega
      have HT : Hid (Calls Tryd.prog 44 #[.pointer (some ⟨Y.s, 0, none⟩), .int .i64 m] wr fun e w' => e = .returned (.bool (σ.val (-m))) ∧ ∃ q', w' = wr.drewN q') := isFalse_any hm m hmL.in'
      have HL1 := Lib.hid (And.intro hto (And.intro hm (And.intro hF (And.intro hlsl hmm))))
      cases hv : σ.val (-m) with
      | true =>
        rw [hv] at HT
        have HN1 : Hid (-ls[i]! ∈ σ.asg) := by rw [← hmm]; exact HH.out.2.2.1.yes hmL.neg.in' hv
        clear hv hto hm hF hg3 hmL hmm hlay HI hg1 hg2 hg4 hlsl
        go_wp2_with fail
        refine HT.out.mono ?_
        rintro e w1 ⟨rfl, q, rfl⟩
        go_wp2_with fail
        go_roundw
        case rel => exact ⟨f, i + 1, rfl, by go_num, by omega, by omega, ls, HL1.out.1.no HN1.out, HL1.out.2.1.drewN q, HL1.out.2.2.1.drewN q⟩
        case measure => simp [intOf]; omega
      | false =>
        rw [hv] at HT
        have HN1 : Hid (-ls[i]! ∉ σ.asg) := by rw [← hmm]; exact HH.out.2.2.1.no hmL.neg.in' hv
        obtain ⟨m1, hm1⟩ : ∃ m1, m1 = ls[f]! := ⟨_, rfl⟩
        have cf := hg3 f (by omega)
        rw [← hm1] at cf
        have fz : (f : Int) < (len : Int) := by omega
        have f0 : (0 : Int) ≤ (f : Int) := by omega
        have zf := hg4 f
        have zi := hg4 i
        have hEL2 : Y.litV p = .slice (some ⟨lg, 0, none⟩) ((σ.lay p ls).lits p).length lc := by rw [hlay, hlsl, EL.out, HLE.out]
        have HSW : Hid (∀ q, Mem (((wr.drewN q).setCell ⟨lg, f, none⟩ (.int .i64 m)).setCell ⟨lg, i, none⟩ (.int .i64 m1)) Y (σ.lay p (swp ls f i)) none ∧ Frm Y.ρ (sLits p) w (((wr.drewN q).setCell ⟨lg, f, none⟩ (.int .i64 m)).setCell ⟨lg, i, none⟩ (.int .i64 m1))) := fun q => by
          have := (hm.drewN q).swap (p := p) HH.out.1 hEL2 f i (by rw [hlay]; omega) (by rw [hlay]; omega) m m1 (by rw [hlay]; exact hmm) (by rw [hlay]; exact hm1)
          rw [hlay] at this
          have e := lay_lay σ p ls (swp ls f i)
          refine ⟨?_, (hF.drewN q).trans this.2 (fun _ _ => rfl)⟩
          rw [← e]; exact this.1
        have HFI := Lib.hid hfi
        have HM1E := Lib.hid hm1
        clear hv hto hm hF hg3 hmL hmm hlay hm1 HI hg1 hg2 hg4 hEL2 hlsl
        by_cases hfe : f = i
        · have hmm1 : m1 = m := by rw [HL1.out.2.2.2.2, ← hfe]; exact HM1E.out
          subst hmm1
          subst hfe
          clear ci zi iz i0
          go_wp2_with fail
          refine HT.out.mono ?_
          rintro e w1 ⟨rfl, q, rfl⟩
          go_wp2_with fail
          go_roundw
          case rel => exact ⟨f + 1, f + 1, by go_num, by go_num, by omega, by omega, swp ls f f, HL1.out.1.yes (by rw [HL1.out.2.2.2.1]; exact hlt) HN1.out, (HSW.out q).1, (HSW.out q).2⟩
          case measure => simp [intOf]; omega
        · have hfe' : i ≠ f := fun e => hfe e.symm
          go_wp2_with fail
          refine HT.out.mono ?_
          rintro e w1 ⟨rfl, q, rfl⟩
          go_wp2_with fail
          go_roundw
          case rel => exact ⟨f + 1, i + 1, by go_num, by go_num, by omega, by omega, swp ls f i, HL1.out.1.yes (by rw [HL1.out.2.2.2.1]; exact hlt) HN1.out, (HSW.out q).1, (HSW.out q).2⟩
          case measure => simp [intOf]; omega
    · have hie : i = len := by omega
      subst hie
      obtain ⟨ls, hto, hm, hF⟩ := HI.out
      have hlsl : ls.length = i := by rw [hto.perm.length_eq, HLE.out]
      have hlay : (σ.lay p ls).lits p = ls := upd_same _ _ _
      have hfr : Front σ ls := by rw [← hlsl] at hto; exact hto.front
      have HL1 := Lib.hid (And.intro hto.perm (And.intro hm (And.intro hF (And.intro hlsl hfr))))
      have iz : ¬ (i : Int) < (i : Int) := by omega
      have HSM : Hid (∀ sh wat, Same { σ with sh := sh } { σ with lits := upd σ.lits p ls, wat := wat, sh := sh }) := fun sh wat => ⟨rfl, rfl, rfl, rfl, rfl, rfl, fun q => by
        show (upd σ.lits p ls q).Perm _
        by_cases e : q = p
        · subst e; rw [upd_same]; exact hto.perm
        · rw [upd_ne _ _ _ e]⟩
      by_cases hl2 : i < 2
      · have b1 : ((i : Int) < 2) = True := eq_true (by omega)
        have hins : σ.ins p ls = { σ.lay p ls with sh := σ.sh ++ [p] } := by unfold St.ins; rw [if_pos (by omega)]
        have HIN := Lib.hid hins
        have hl7 : σ.sh.length ≤ 10000000 := HH.out.2.2.2.2.2.1
        have c7 := hm.cell 7 (by omega)
        have f7 := hm.free 7
        obtain ⟨a1, k1, e1, _, _⟩ := own_form (hm .sht)
        rw [e1] at c7
        change wr.cell? ⟨Y.s, 7, none⟩ = some (.slice a1 σ.sh.length k1) at c7
        have e1 : Y.hd 7 = .slice a1 σ.sh.length k1 := e1
        have E1 := Lib.hid e1
        have HO : Hid (wr.ownsRow 0 3 1 (.slice a1 σ.sh.length k1) σ.sh.length (σ.sh.map encN)) := by
          have : wr.ownsRow 0 3 1 (Y.hd 7) σ.sh.length (σ.sh.map encN) := (hm .sht).1
          rw [← e1]; exact this
        have hne : (Value.slice a1 σ.sh.length k1).ownBlock ≠ some Y.s := fun e => by have := (hm .sht).2 _ (by rw [e1]; exact e); rw [hm.srole] at this; cases this
        have hlt := hm.slt
        obtain ⟨ii, hi, hz0, hz1, hz2⟩ := info_parts infoInt
        clear e1 hto hm hF hlay hfr HI hins hlsl
        go_wp2_with (at_builtin; refine wpList_append_lies _ rfl _ _ 23 rfl 0 3 ii (.int .i64 0) 1 8 Tryd.underlying23 hi hz0 hz1 hz2 rfl (by decide) _ _ _ rfl (HO.out.alloc _) ⟨wr.heap.size, 0, none⟩ 1 1 [.int .i64 (p : Int)] rfl rfl ?c1 ?c2 (by decide) ?c3 ?c4 ?c5 (wr.heap.size + 1) (by simp [World.setCell]) ?_)
        case c2 => rfl
        case c3 => unfold maxLen; omega
        case c4 => omega
        intro g cap w1 hown hgrow hat hlt1
        have HW := (HL1.out.2.1.alloc (.cells #[.int .i64 (p : Int)] 3))
        have G : Gr _ w1 Y.ρ .sht (Y.hd 7) g := Gr.mk' (HW .sht) (by rw [E1.out]; exact hgrow) (by rw [E1.out]; exact hat) (by simp) hlt1
        have hg := G.ne HW (by simp)
        have R := HW.appSht G hg hown
        have fz1 := (hgrow.frozen_far ⟨Y.s, 7, none⟩ (by simp; omega) (Ne.symm hne)).trans (HW.free 7)
        have cl1 := hgrow.cell (HW.cell 7 (by omega)) (Ne.symm hne)
        obtain ⟨Y2, hR, hs2⟩ : ∃ Y2, Hid (Mem (w1.setCell ⟨Y.s, 7, none⟩ (.slice (some ⟨g, 0, none⟩) (σ.sh.length + 1) cap)) Y2 (σ.ins p ls) none ∧ Nxt sAny w Y (w1.setCell ⟨Y.s, 7, none⟩ (.slice (some ⟨g, 0, none⟩) (σ.sh.length + 1) cap)) Y2) ∧ Y2.s = Y.s :=
          ⟨_, ⟨by rw [HIN.out]; exact R.1, (Nxt.same ((HL1.out.2.2.1.mono (sAny_le rfl)).alloc _)).trans (R.2.mono (sAny_le rfl))⟩, rfl⟩
        clear R G hgrow hat HW hown
        have HAP : Hid (Calls Tryd.prog 67 #[.pointer (some ⟨Y.s, 0, none⟩), .int .i64 (p : Int)] (w1.setCell ⟨Y.s, 7, none⟩ (.slice (some ⟨g, 0, none⟩) (σ.sh.length + 1) cap)) (ApE (w1.setCell ⟨Y.s, 7, none⟩ (.slice (some ⟨g, 0, none⟩) (σ.sh.length + 1) cap)) Y2 (σ.ins p ls) (fun _ => False))) := by
          have hb := HH.out.2.2.2.2.2.2.2 ls HL1.out.1
          have hap := apply_any hR.out.1 p hb (fun q hq => hq.elim) (by rw [HIN.out]; exact HH.out.1) (by rw [HIN.out]; exact HH.out.2.1) (by rw [HIN.out]; show Front σ (upd σ.lits p ls p); rw [upd_same]; exact HL1.out.2.2.2.2) (by rw [HIN.out]; exact HH.out.2.2.2.2.2.2.1)
          rw [hs2] at hap
          exact hap
        go_wp2_with fail
        refine HAP.out.mono ?_
        rintro e w8 ⟨σ8, Y8, rfl, hm8, hb8, hs8, hn8⟩
        have HFIN : Hid (InE w Y σ (.returned (.tuple #[])) w8) := by
          refine ⟨σ8, Y8, rfl, hm8, hb8, ?_, hR.out.2.trans hn8⟩
          rw [HIN.out] at hs8
          have e8 : σ8.sh = σ.sh ++ [p] := hs8.sh
          rw [e8]
          exact (HSM.out (σ.sh ++ [p]) σ.wat).trans hs8
        clear hm8 hb8 hs8 hn8
        go_wp2_with fail
        go_end0
        exact HFIN.out
      · have b1 : ((i : Int) < 2) = False := eq_false (by omega)
        have hins : σ.ins p ls = ((σ.lay p ls).wat1 ls[0]! p).wat1 ls[1]! p := by unfold St.ins; rw [if_neg (by omega)]
        have HIN := Lib.hid hins
        obtain ⟨lg, lc2, el2, hg1, hg2, hg3, hg4⟩ := hm.litAt (p := p) HH.out.1 (by rw [hlay]; omega)
        rw [hlay] at hg3
        rw [EL.out] at el2
        simp only [Value.slice.injEq] at el2
        obtain ⟨rfl, hq0, rfl⟩ := el2
        clear hq0
        obtain ⟨a0, ha0⟩ : ∃ a, a = ls[0]! := ⟨_, rfl⟩
        obtain ⟨a1, ha1⟩ : ∃ a, a = ls[1]! := ⟨_, rfl⟩
        have s0 := hg3 0 (by omega)
        rw [← ha0] at s0
        have l0z : (0 : Int) < (i : Int) := by omega
        have l1z : (1 : Int) < (i : Int) := by omega
        have l0n : 0 < i := by omega
        have hL0 : Lt σ.V a0 := by rw [ha0]; exact HH.out.2.2.2.1 _ (hto.perm.mem_iff.1 (mem! (by omega)))
        have hL1 : Lt σ.V a1 := by rw [ha1]; exact HH.out.2.2.2.1 _ (hto.perm.mem_iff.1 (mem! (by omega)))
        have HLL := Lib.hid (And.intro hL0 (And.intro hL1 (And.intro ha0 ha1)))
        have HW0 : Hid (Calls Tryd.prog 76 #[.pointer (some ⟨Y.s, 0, none⟩), .int .i64 a0, .int .i64 (p : Int)] wr fun e w' => e = .returned (.tuple #[]) ∧ ∃ Y', Mem w' Y' ((σ.lay p ls).wat1 a0 p) none ∧ Nxt (sWl a0) wr Y w' Y' ∧ Y'.litV = Y.litV) :=
          watch_any hm a0 hL0.in' (by simp) p (by show (σ.wat a0).length ≤ _; have := HH.out.2.2.2.2.1 a0 hL0; omega)
        clear hto hm hF hlay hfr HI hins hlsl hg1 hg2 hg3 hg4 hL0 hL1 ha0 ha1
        go_wp2_with fail
        refine HW0.out.mono ?_
        rintro e w2 ⟨rfl, Y2, hm2, hn2, hl2'⟩
        have e2 : Y2.s = Y.s := hn2.s
        obtain ⟨lg2, lc2, el2, hg1, hg2, hg3, hg4⟩ := hm2.litAt (p := p) HH.out.1 (by show 0 < (upd σ.lits p ls p).length; rw [upd_same, HL1.out.2.2.2.1]; omega)
        rw [hl2', EL.out] at el2
        simp only [Value.slice.injEq, Option.some.injEq, Addr.mk.injEq, and_true, true_and] at el2
        obtain ⟨rfl, hq0, rfl⟩ := el2
        clear hq0
        have s1 := hg3 1 (by show 1 < (upd σ.lits p ls p).length; rw [upd_same, HL1.out.2.2.2.1]; omega)
        have e1' : ((σ.lay p ls).wat1 a0 p).lits p = ls := upd_same _ _ _
        rw [e1', ← HLL.out.2.2.2] at s1
        have HW1 : Hid (Calls Tryd.prog 76 #[.pointer (some ⟨Y.s, 0, none⟩), .int .i64 a1, .int .i64 (p : Int)] w2 fun e w' => e = .returned (.tuple #[]) ∧ ∃ Y', Mem w' Y' (((σ.lay p ls).wat1 a0 p).wat1 a1 p) none ∧ Nxt (sWl a1) w2 Y2 w' Y' ∧ Y'.litV = Y2.litV) := by
          rw [← e2]
          refine watch_any hm2 a1 HLL.out.2.1.in' (by simp) p ?_
          show (updI σ.wat a0 (σ.wat a0 ++ [p]) a1).length ≤ _
          have h0 := HH.out.2.2.2.2.1 a0 HLL.out.1
          have h1 := HH.out.2.2.2.2.1 a1 HLL.out.2.1
          unfold updI
          split
          · rw [List.length_append, List.length_singleton]; omega
          · omega
        have HN2 := Lib.hid hn2
        clear hm2 hn2 hl2' hg1 hg2 hg3 hg4 e1' HW0
        go_wp2_with fail
        refine HW1.out.mono ?_
        rintro e w3 ⟨rfl, Y3, hm3, hn3, hl3⟩
        have e3 : Y3.s = Y.s := hn3.s.trans e2
        have HAP : Hid (Calls Tryd.prog 67 #[.pointer (some ⟨Y.s, 0, none⟩), .int .i64 (p : Int)] w3 (ApE w3 Y3 (σ.ins p ls) (fun _ => False))) := by
          rw [← e3]
          have hb := HH.out.2.2.2.2.2.2.2 ls HL1.out.1
          rw [HLL.out.2.2.1, HLL.out.2.2.2, ← HIN.out] at hm3
          refine apply_any hm3 p hb (fun q hq => hq.elim) ?_ ?_ ?_ ?_
          · rw [HIN.out]; exact HH.out.1
          · rw [HIN.out]; exact HH.out.2.1
          · rw [HIN.out]; show Front σ (upd σ.lits p ls p); rw [upd_same]; exact HL1.out.2.2.2.2
          · rw [HIN.out]; exact HH.out.2.2.2.2.2.2.1
        have HN3 : Hid (Nxt sAny w Y w3 Y3) := ((Nxt.same (HL1.out.2.2.1.mono (sAny_le rfl))).trans (HN2.out.mono (sAny_le rfl))).trans (hn3.mono (sAny_le rfl))
        clear hm3 hn3 hl3 HW1
        go_wp2_with fail
        refine HAP.out.mono ?_
        rintro e w8 ⟨σ8, Y8, rfl, hm8, hb8, hs8, hn8⟩
        have HFIN : Hid (InE w Y σ (.returned (.tuple #[])) w8) := by
          refine ⟨σ8, Y8, rfl, hm8, hb8, ?_, HN3.out.trans hn8⟩
          rw [HIN.out] at hs8
          have e8 : σ8.sh = σ.sh := hs8.sh
          rw [e8]
          exact (HSM.out σ.sh (((σ.lay p ls).wat1 ls[0]! p).wat1 ls[1]! p).wat).trans hs8
        clear hm8 hb8 hs8 hn8
        go_wp2_with fail
        go_end0
        exact HFIN.out
end Go.Proofs.YthpamogomfleoaaDoor.Rc
