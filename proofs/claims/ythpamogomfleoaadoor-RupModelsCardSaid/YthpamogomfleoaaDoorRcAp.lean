/- Contract of apply. -/
import Derived.Test.YthpamogomfleoaaDoorRcPg
import Derived.Test.YthpamogomfleoaaDoorRcU
namespace Go.Proofs.YthpamogomfleoaaDoor.Rc
open Go Go.RowKit Go.Lib

/-- What apply answers. -/
def ApE (w : World) (Y : Lay) (σ : St) (E : Nat → Prop) (e : Ending) (w' : World) : Prop :=
  ∃ σ' Y', e = .returned (.tuple #[]) ∧ Mem w' Y' σ' none ∧ Base σ' E ∧ Same σ σ' ∧ Nxt sAny w Y w' Y'
theorem ApE.same {w : World} {Y : Lay} {σ : St} {E : Nat → Prop} (h : Mem w Y σ none) (hB : Base σ E) (q : Nat) : ApE w Y σ E (.returned (.tuple #[])) (w.drewN q) :=
  ⟨σ, Y, rfl, h.drewN q, hB, Same.refl _, (Nxt.refl _ _ _).drewN q⟩
theorem ApE.same' {w W : World} {Y : Lay} {σ : St} {E : Nat → Prop} (h : Mem W Y σ none) (F : Frm Y.ρ sAny w W) (hB : Base σ E) (q : Nat) : ApE w Y σ E (.returned (.tuple #[])) (W.drewN q) :=
  ⟨σ, Y, rfl, h.drewN q, hB, Same.refl _, (Nxt.same F).drewN q⟩
theorem ApE.conf {w : World} {Y : Lay} {σ : St} {E : Nat → Prop} {p : Nat} (h : Mem w Y σ none) (hB : Base { σ with conf := (p : Int) } E) (hp : p ≤ 10000000) (q : Nat) : ApE w Y σ E (.returned (.tuple #[])) ((w.drewN q).setCell ⟨Y.s, 9, none⟩ (.int .i64 (p : Int))) :=
  ⟨_, _, rfl, (h.drewN q).setConf (p : Int) (by omega) (by omega), hB, ⟨rfl, rfl, rfl, rfl, rfl, rfl, fun _ => .refl _⟩, ⟨((Frm.refl _ _ _).drewN q).set (fun _ => by rw [h.srole]; rfl) _, rfl, fun _ _ => rfl⟩⟩

set_option maxRecDepth 100000 in
set_option maxHeartbeats 8000000 in
theorem apply_any {w : World} {Y : Lay} {σ : St} {E : Nat → Prop} (h : Mem w Y σ none) (p : Nat) (hB : Base σ (fun q => E q ∨ q = p)) (hE : ∀ q, E q → (σ.lits q).length < 2) (hp : p < σ.N) (hc : σ.cps p ≠ 0) (hf : Front σ (σ.lits p)) (hN : σ.N ≤ 10000000) :
    Calls Tryd.prog 67 #[.pointer (some ⟨Y.s, 0, none⟩), .int .i64 (p : Int)] w (ApE w Y σ E) := by
  have HM := Lib.hid h
  have HB := Lib.hid hB
  obtain ⟨rg, rc, er, hr1, hr2, hr3, hr4, cr0, cr1, _⟩ := h.recAt hp
  obtain ⟨la, lc, el⟩ := h.litV hp
  have c5 := h.cell 5 (by omega)
  rw [er] at c5
  rw [el] at cr0
  have c9 := h.cell 9 (by omega)
  have f9 := h.free 9
  have hcf : Y.hd 9 = .int .i64 σ.conf ∧ -1 ≤ σ.conf ∧ σ.conf ≤ 9223372036854775807 := h .conf
  rw [hcf.1] at c9
  have pz : (p : Int) < (σ.N : Int) := by omega
  have p0 : (0 : Int) ≤ (p : Int) := by omega
  obtain ⟨len, hle⟩ : ∃ len, len = (σ.lits p).length := ⟨_, rfl⟩
  rw [← hle] at cr0
  have HLE := Lib.hid hle
  by_cases hcn : σ.conf = -1
  case neg =>
    have HS := Lib.hid (ApE.same h (hB.skip hcn) 0)
    have hcn2 : (σ.conf != -1) = true := by simpa using hcn
    generalize σ.conf = cf at *
    clear h hB hE hp hc hf hN er el hcf hr1 hr2 hr3 hr4 cr1 hle hcn
    go_enter Tryd.func67, Tryd.ntmps67
    go_wp2_with fail
    go_end0
    exact HS.out
  case pos =>
  have HH := Lib.hid (And.intro hcn (And.intro hE (And.intro hp (And.intro hc hN))))
  rw [hcn] at c9
  have HFR := Lib.hid hf
  clear h hB hE hp hc hf hN er hcf hr3 hr4 cr1 hle hcn
  by_cases hl0 : len = 0
  · subst hl0
    have HS : Hid (∀ q, ApE w Y σ E (.returned (.tuple #[])) ((w.drewN q).setCell ⟨Y.s, 9, none⟩ (.int .i64 (p : Int)))) := fun q =>
      ApE.conf HM.out (HB.out.bad HH.out.2.2.1 HH.out.2.2.2.1 (fun m hm => by rw [List.eq_nil_of_length_eq_zero HLE.out.symm] at hm; cases hm)) (by have := HH.out.2.2.1; have := HH.out.2.2.2.2; omega) q
    have b0 : (((0 : Nat) : Int) == 0) = true := by decide
    clear el
    go_enter Tryd.func67, Tryd.ntmps67
    go_wp2_with fail
    go_quiet (fail)
    go_wp2_with fail
    go_end0
    exact HS.out _
  have hlp : 0 < (σ.lits p).length := by rw [← HLE.out]; omega
  obtain ⟨lg, lc2, el2, hg1, hg2, hg3, hg4⟩ := HM.out.litAt HH.out.2.2.1 hlp
  rw [el] at el2
  simp only [Value.slice.injEq] at el2
  obtain ⟨rfl, _, rfl⟩ := el2
  obtain ⟨a0, ha0⟩ : ∃ a0, a0 = (σ.lits p)[0]! := ⟨_, rfl⟩
  have s0 := hg3 0 hlp
  rw [← ha0] at s0
  have HA0 : Hid (Lt σ.V a0 ∧ a0 = (σ.lits p)[0]!) := ⟨by rw [ha0]; exact HB.out.c.lt p HH.out.2.2.1 _ (mem! hlp), ha0⟩
  have b0 : ((len : Int) == 0) = false := by simp; omega
  have l0z : (0 : Int) < (len : Int) := by omega
  have l0n : 0 < len := by omega
  have HG3 := Lib.hid hg3
  have HT0 : Hid (∀ q, Calls Tryd.prog 44 #[.pointer (some ⟨Y.s, 0, none⟩), .int .i64 a0] (w.drewN q) fun e w' => e = .returned (.bool (σ.val (-a0))) ∧ ∃ q', w' = (w.drewN q).drewN q') := fun q => isFalse_any (HM.out.drewN q) a0 HA0.out.1.in'
  clear el hg1 hg2 hg3 hg4 ha0
  cases hv : σ.val (-a0) with
  | true =>
    rw [hv] at HT0
    have HS : Hid (∀ q, ApE w Y σ E (.returned (.tuple #[])) ((w.drewN q).setCell ⟨Y.s, 9, none⟩ (.int .i64 (p : Int)))) := fun q => by
      refine ApE.conf HM.out (HB.out.bad HH.out.2.2.1 HH.out.2.2.2.1 (fun m hm => ?_)) (by have := HH.out.2.2.1; have := HH.out.2.2.2.2; omega) q
      have h0 : -(σ.lits p)[0]! ∈ σ.asg := by rw [← HA0.out.2]; exact HB.out.t.yes HA0.out.1.neg.in' hv
      obtain ⟨j, j1, j2⟩ := idx_of_mem hm
      have hj : (σ.lits p)[j]! = m := by rw [getElem!_pos _ j j1]; exact (List.getElem?_eq_some_iff.1 j2).2
      rcases Nat.eq_zero_or_pos j with z | z
      · subst z; rw [← hj]; exact h0
      · rw [← hj]
        exact Classical.byContradiction fun q => HFR.out 0 j z j1 q h0
    clear hv
    go_enter Tryd.func67, Tryd.ntmps67
    go_wp2_with fail
    go_quiet ((go_at_call 44; exact Calls.quiet_of (HT0.out _)))
    go_wp2_with fail
    go_end0
    exact HS.out _
  | false =>
  rw [hv] at HT0
  have HV0 := Lib.hid hv
  clear hv hlp
  cases hv1 : σ.val a0 with
  | true =>
    have HFI := Lib.hid (HB.out.fine (by rw [← HLE.out]; exact l0n) (Or.inl (by rw [← HA0.out.2]; exact HB.out.t.yes HA0.out.1.in' hv1)))
    have HV1 := Lib.hid hv1
    clear hv1
    go_enter Tryd.func67, Tryd.ntmps67
    go_wp2_with fail
    go_quiet ((go_at_call 44; exact Calls.quiet_of (HT0.out _)))
    have HMW := Lib.hid (HM.out.drewN nq)
    have HFW := Lib.hid ((Frm.refl Y.ρ sAny w).drewN nq)
    change (w.drewN nq).cell? _ = _ at s0 c9
    change (w.drewN nq).frozen? _ = _ at f9
    generalize w.drewN nq = W at *
    have HT1 : Hid (∀ q, Calls Tryd.prog 43 #[.pointer (some ⟨Y.s, 0, none⟩), .int .i64 a0] (W.drewN q) fun e w' => e = .returned (.bool true) ∧ ∃ q', w' = (W.drewN q).drewN q') := fun q => by
      have := isTrue_any (HMW.out.drewN q) a0 HA0.out.1.in'
      rw [HV1.out] at this
      exact this
    go_wp2_with fail
    go_quiet ((go_at_call 43; exact Calls.quiet_of (HT1.out _)))
    go_wp2_with fail
    go_end0
    exact ApE.same' HMW.out HFW.out HFI.out _
  | false =>
  have HV : Hid (σ.val a0 = false ∧ σ.val (-a0) = false) := ⟨hv1, HV0.out⟩
  clear hv1
  by_cases hl1 : len < 2
  · have b1 : ((len : Int) < 2) = True := eq_true (by omega)
    have b1d : decide ((len : Int) < 2) = true := by simp; omega
    have HOTH : Hid (∀ m ∈ σ.lits p, m ≠ (σ.lits p)[0]! → -m ∈ σ.asg) := fun m hm hne => by
      obtain ⟨j, j1, j2⟩ := idx_of_mem hm
      have : j = 0 := by rw [← HLE.out] at j1; omega
      subst this
      exact absurd (by rw [getElem!_pos _ 0 j1]; exact (List.getElem?_eq_some_iff.1 j2).2.symm) hne
    have HV1 := Lib.hid HV.out.1
    go_enter Tryd.func67, Tryd.ntmps67
    have HIN : Hid (Inv (σ.asn a0 (p : Int)) σ.wat none [] (fun _ _ => False)) := by
      rw [HA0.out.2]
      exact HB.out.asn HH.out.2.1 HH.out.1 HH.out.2.2.1 HH.out.2.2.2.1 (by have := HLE.out; omega) (HB.out.t.no (HB.out.c.lt p HH.out.2.2.1 _ (mem! (by have := HLE.out; omega))).in' (by rw [← HA0.out.2]; exact HV.out.1)) (HB.out.t.no (HB.out.c.lt p HH.out.2.2.1 _ (mem! (by have := HLE.out; omega))).neg.in' (by rw [← HA0.out.2]; exact HV.out.2)) (HOTH.out)
    go_wp2_with fail
    go_quiet ((go_at_call 44; exact Calls.quiet_of (HT0.out _)))
    have HMW := Lib.hid (HM.out.drewN nq)
    have HFW := Lib.hid ((Frm.refl Y.ρ sAny w).drewN nq)
    change (w.drewN nq).cell? _ = _ at s0 c9
    change (w.drewN nq).frozen? _ = _ at f9
    generalize w.drewN nq = W at *
    have HT1 : Hid (∀ q, Calls Tryd.prog 43 #[.pointer (some ⟨Y.s, 0, none⟩), .int .i64 a0] (W.drewN q) fun e w' => e = .returned (.bool false) ∧ ∃ q', w' = (W.drewN q).drewN q') := fun q => by
      have := isTrue_any (HMW.out.drewN q) a0 HA0.out.1.in'
      rw [HV1.out] at this
      exact this
    have HAS : Hid (∀ q, Calls Tryd.prog 45 #[.pointer (some ⟨Y.s, 0, none⟩), .int .i64 a0, .int .i64 (p : Int)] (W.drewN q) fun e w' => e = .returned (.tuple #[]) ∧ ∃ Y', Mem w' Y' (σ.asn a0 (p : Int)) none ∧ Nxt sAsn (W.drewN q) Y w' Y' ∧ Y'.litV = Y.litV) := fun q =>
      assign_any (HMW.out.drewN q) a0 HA0.out.1.in' p (by have := HB.out.t.len; have := HMW.out.nle; omega)
    go_wp2_with fail
    go_quiet ((go_at_call 43; exact Calls.quiet_of (HT1.out _)))
    go_wp2_with fail
    go_region_with (go_at_call 45; refine (HAS.out _).mono ?_; rintro e w6 ⟨rfl, Y6, hm6, hn6, hl6⟩)
    have HE := Lib.hid (And.intro hm6 hn6)
    have HPG : Hid (Calls Tryd.prog 46 #[.pointer (some ⟨Y.s, 0, none⟩)] w6 (PgE w6 Y6 (σ.asn a0 (p : Int)) none [])) := by
      rw [← hn6.s]
      exact propagate_any hm6 HIN.out (fun k hk => by cases hk) HH.out.2.2.2.2
    clear hm6 hn6 hl6 HAS HT1
    go_wp2_with fail
    refine HPG.out.mono ?_
    rintro e w7 ⟨σ7, c7, Y7, rfl, hend, hm7, hn7⟩
    have e7 : Y7.s = Y.s := hn7.s.trans HE.out.2.s
    have c97 := hm7.cell 9 (by omega)
    have f97 := hm7.free 9
    rw [e7] at c97 f97
    have HFIN : Hid (ApE w Y σ E (.returned (.tuple #[])) (w7.setCell ⟨Y.s, 9, none⟩ (.int .i64 c7))) := by
      have hc7 : -1 ≤ c7 ∧ c7 ≤ 9223372036854775807 := by
        by_cases z : c7 = -1
        · omega
        · obtain ⟨q, _, q1, q2, _⟩ := hend.bad z
          have := hend.kept.N
          have q3 : σ7.N = σ.N := this
          have := HH.out.2.2.2.2
          omega
      have hs := hm7.setConf c7 hc7.1 hc7.2
      rw [e7] at hs
      have hend2 := hend
      rw [HA0.out.2] at hend2
      have hdn := HB.out.done HH.out.1 (by have := HLE.out; omega) hend2
      refine ⟨_, _, rfl, hs, hdn.1, hdn.2, ?_⟩
      have n6 : Nxt sAny w Y w6 Y6 := ⟨Frm.trans (HFW.out.drewN _) (HE.out.2.frm.mono (sAny_le rfl)) (fun _ _ => rfl), HE.out.2.s, fun i hi => HE.out.2.ext i (Nat.lt_of_lt_of_le hi HFW.out.size)⟩
      exact (n6.trans hn7).trans ⟨(Frm.refl _ _ _).set (fun _ => by rw [← e7, hm7.srole]; rfl) _, e7.symm, fun _ _ => rfl⟩
    clear hend hm7 hn7 e7 HE HPG
    go_wp2_with fail
    go_end0
    exact HFIN.out
  have b1 : ((len : Int) < 2) = False := eq_false (by omega)
  have b1d : decide ((len : Int) < 2) = false := by simp; omega
  have l1z : (1 : Int) < (len : Int) := by omega
  obtain ⟨a1, ha1⟩ : ∃ a1, a1 = (σ.lits p)[1]! := ⟨_, rfl⟩
  have s1 := HG3.out 1 (by rw [← HLE.out]; omega)
  rw [← ha1] at s1
  have HA1 : Hid (Lt σ.V a1 ∧ a1 = (σ.lits p)[1]!) := ⟨by rw [ha1]; exact HB.out.c.lt p HH.out.2.2.1 _ (mem! (by rw [← HLE.out]; omega)), ha1⟩
  clear ha1
  cases hv2 : σ.val (-a1) with
  | true =>
    have HOTH : Hid (∀ m ∈ σ.lits p, m ≠ (σ.lits p)[0]! → -m ∈ σ.asg) := fun m hm hne => by
      have h1 : -(σ.lits p)[1]! ∈ σ.asg := by rw [← HA1.out.2]; exact HB.out.t.yes HA1.out.1.neg.in' hv2
      obtain ⟨j, j1, j2⟩ := idx_of_mem hm
      have hj : (σ.lits p)[j]! = m := by rw [getElem!_pos _ j j1]; exact (List.getElem?_eq_some_iff.1 j2).2
      rcases Nat.lt_trichotomy j 1 with z | z | z
      · have : j = 0 := by omega
        subst this; exact absurd hj.symm hne
      · subst z; rw [← hj]; exact h1
      · rw [← hj]
        exact Classical.byContradiction fun q => HFR.out 1 j z j1 q h1
    have HV1 := Lib.hid HV.out.1
    have HV2 := Lib.hid hv2
    clear hv2
    go_enter Tryd.func67, Tryd.ntmps67
    have HIN : Hid (Inv (σ.asn a0 (p : Int)) σ.wat none [] (fun _ _ => False)) := by
      rw [HA0.out.2]
      exact HB.out.asn HH.out.2.1 HH.out.1 HH.out.2.2.1 HH.out.2.2.2.1 (by have := HLE.out; omega) (HB.out.t.no (HB.out.c.lt p HH.out.2.2.1 _ (mem! (by have := HLE.out; omega))).in' (by rw [← HA0.out.2]; exact HV.out.1)) (HB.out.t.no (HB.out.c.lt p HH.out.2.2.1 _ (mem! (by have := HLE.out; omega))).neg.in' (by rw [← HA0.out.2]; exact HV.out.2)) (HOTH.out)
    go_wp2_with fail
    go_quiet ((go_at_call 44; exact Calls.quiet_of (HT0.out _)))
    have HMW := Lib.hid (HM.out.drewN nq)
    have HFW := Lib.hid ((Frm.refl Y.ρ sAny w).drewN nq)
    change (w.drewN nq).cell? _ = _ at s0 c9 s1
    change (w.drewN nq).frozen? _ = _ at f9
    generalize w.drewN nq = W at *
    have HT1 : Hid (∀ q, Calls Tryd.prog 43 #[.pointer (some ⟨Y.s, 0, none⟩), .int .i64 a0] (W.drewN q) fun e w' => e = .returned (.bool false) ∧ ∃ q', w' = (W.drewN q).drewN q') := fun q => by
      have := isTrue_any (HMW.out.drewN q) a0 HA0.out.1.in'
      rw [HV1.out] at this
      exact this
    have HT2 : Hid (∀ q, Calls Tryd.prog 44 #[.pointer (some ⟨Y.s, 0, none⟩), .int .i64 a1] (W.drewN q) fun e w' => e = .returned (.bool true) ∧ ∃ q', w' = (W.drewN q).drewN q') := fun q => by
      have := isFalse_any (HMW.out.drewN q) a1 HA1.out.1.in'
      rw [HV2.out] at this
      exact this
    have HAS : Hid (∀ q, Calls Tryd.prog 45 #[.pointer (some ⟨Y.s, 0, none⟩), .int .i64 a0, .int .i64 (p : Int)] (W.drewN q) fun e w' => e = .returned (.tuple #[]) ∧ ∃ Y', Mem w' Y' (σ.asn a0 (p : Int)) none ∧ Nxt sAsn (W.drewN q) Y w' Y' ∧ Y'.litV = Y.litV) := fun q =>
      assign_any (HMW.out.drewN q) a0 HA0.out.1.in' p (by have := HB.out.t.len; have := HMW.out.nle; omega)
    go_wp2_with fail
    go_quiet (first | (go_at_call 43; exact Calls.quiet_of (HT1.out _)) | (go_at_call 44; exact Calls.quiet_of (HT2.out _)))
    go_wp2_with fail
    go_region_with (go_at_call 45; refine (HAS.out _).mono ?_; rintro e w6 ⟨rfl, Y6, hm6, hn6, hl6⟩)
    have HE := Lib.hid (And.intro hm6 hn6)
    have HPG : Hid (Calls Tryd.prog 46 #[.pointer (some ⟨Y.s, 0, none⟩)] w6 (PgE w6 Y6 (σ.asn a0 (p : Int)) none [])) := by
      rw [← hn6.s]
      exact propagate_any hm6 HIN.out (fun k hk => by cases hk) HH.out.2.2.2.2
    clear hm6 hn6 hl6 HAS HT1
    go_wp2_with fail
    refine HPG.out.mono ?_
    rintro e w7 ⟨σ7, c7, Y7, rfl, hend, hm7, hn7⟩
    have e7 : Y7.s = Y.s := hn7.s.trans HE.out.2.s
    have c97 := hm7.cell 9 (by omega)
    have f97 := hm7.free 9
    rw [e7] at c97 f97
    have HFIN : Hid (ApE w Y σ E (.returned (.tuple #[])) (w7.setCell ⟨Y.s, 9, none⟩ (.int .i64 c7))) := by
      have hc7 : -1 ≤ c7 ∧ c7 ≤ 9223372036854775807 := by
        by_cases z : c7 = -1
        · omega
        · obtain ⟨q, _, q1, q2, _⟩ := hend.bad z
          have := hend.kept.N
          have q3 : σ7.N = σ.N := this
          have := HH.out.2.2.2.2
          omega
      have hs := hm7.setConf c7 hc7.1 hc7.2
      rw [e7] at hs
      have hend2 := hend
      rw [HA0.out.2] at hend2
      have hdn := HB.out.done HH.out.1 (by have := HLE.out; omega) hend2
      refine ⟨_, _, rfl, hs, hdn.1, hdn.2, ?_⟩
      have n6 : Nxt sAny w Y w6 Y6 := ⟨Frm.trans (HFW.out.drewN _) (HE.out.2.frm.mono (sAny_le rfl)) (fun _ _ => rfl), HE.out.2.s, fun i hi => HE.out.2.ext i (Nat.lt_of_lt_of_le hi HFW.out.size)⟩
      exact (n6.trans hn7).trans ⟨(Frm.refl _ _ _).set (fun _ => by rw [← e7, hm7.srole]; rfl) _, e7.symm, fun _ _ => rfl⟩
    clear hend hm7 hn7 e7 HE HPG
    go_wp2_with fail
    go_end0
    exact HFIN.out
  | false =>
    have HFI := Lib.hid (HB.out.fine (by rw [← HLE.out]; exact l0n) (Or.inr ⟨by rw [← HLE.out]; omega, by rw [← HA0.out.2]; exact HB.out.t.no HA0.out.1.neg.in' HV.out.2, by rw [← HA1.out.2]; exact HB.out.t.no HA1.out.1.neg.in' hv2⟩))
    have HV1 := Lib.hid HV.out.1
    have HV2 := Lib.hid hv2
    clear hv2
    go_enter Tryd.func67, Tryd.ntmps67
    go_wp2_with fail
    go_quiet ((go_at_call 44; exact Calls.quiet_of (HT0.out _)))
    have HMW := Lib.hid (HM.out.drewN nq)
    have HFW := Lib.hid ((Frm.refl Y.ρ sAny w).drewN nq)
    change (w.drewN nq).cell? _ = _ at s0 c9 s1
    change (w.drewN nq).frozen? _ = _ at f9
    generalize w.drewN nq = W at *
    have HT1 : Hid (∀ q, Calls Tryd.prog 43 #[.pointer (some ⟨Y.s, 0, none⟩), .int .i64 a0] (W.drewN q) fun e w' => e = .returned (.bool false) ∧ ∃ q', w' = (W.drewN q).drewN q') := fun q => by
      have := isTrue_any (HMW.out.drewN q) a0 HA0.out.1.in'
      rw [HV1.out] at this
      exact this
    have HT2 : Hid (∀ q, Calls Tryd.prog 44 #[.pointer (some ⟨Y.s, 0, none⟩), .int .i64 a1] (W.drewN q) fun e w' => e = .returned (.bool false) ∧ ∃ q', w' = (W.drewN q).drewN q') := fun q => by
      have := isFalse_any (HMW.out.drewN q) a1 HA1.out.1.in'
      rw [HV2.out] at this
      exact this
    go_wp2_with fail
    go_quiet (first | (go_at_call 43; exact Calls.quiet_of (HT1.out _)) | (go_at_call 44; exact Calls.quiet_of (HT2.out _)))
    go_wp2_with fail
    go_end0
    exact ApE.same' HMW.out HFW.out HFI.out _
end Go.Proofs.YthpamogomfleoaaDoor.Rc
