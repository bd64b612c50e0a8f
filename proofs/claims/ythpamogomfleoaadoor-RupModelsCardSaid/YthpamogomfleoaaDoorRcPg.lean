/- Contract of propagate. -/
import Derived.Test.YthpamogomfleoaaDoorRcWk
import Derived.Test.YthpamogomfleoaaDoorRcPgN
namespace Go.Proofs.YthpamogomfleoaaDoor.Rc
open Go Go.RowKit Go.Lib

set_option maxRecDepth 100000 in
set_option maxHeartbeats 1000000 in
theorem wake_nil {w : World} {s wB V c : Nat} {n : Int} {a : Option Addr} (c0 : w.cell? ⟨s, 0, none⟩ = some (.int .i64 (V : Int))) (c8 : w.cell? ⟨s, 8, none⟩ = some (.slice (some ⟨wB, 0, none⟩) (2 * V + 1) (2 * V + 1))) (d : w.cell? ⟨wB, ix V n, none⟩ = some (.slice a 0 c)) (z : w.frozen? ⟨wB, ix V n, none⟩ = false) (hne : s ≠ wB) (hl : In V n) (hV : V ≤ 100000) (ha : a = none ∧ c = 0 ∨ ∃ g, a = some ⟨g, 0, none⟩) :
    Calls Tryd.prog 71 #[.pointer (some ⟨s, 0, none⟩), .int .i64 n] w fun e w' => e = .returned (.int .i64 (-1)) ∧ ∃ q, w' = (w.drewN q).setCell ⟨wB, ix V n, none⟩ (.slice a 0 c) := by
  have lb : (ix V n : Int) < 2 * (V : Int) + 1 := by have := ix_lt hl; omega
  have l0 : (0 : Int) ≤ (ix V n : Int) := by omega
  have h00 : decide ((0 : Int) < (0 : Int)) = false := by decide
  have hne' : wB ≠ s := fun e => hne e.symm
  have HI : Hid (∀ q, Calls Tryd.prog 68 #[.pointer (some ⟨s, 0, none⟩), .int .i64 n] (w.drewN q) fun e w' => e = .returned (.int .i64 (ix V n : Int)) ∧ w.drewN q = w') := fun q => index_cell c0 hV hl
  generalize ix V n = i at *
  clear hl c0
  rcases ha with ⟨rfl, rfl⟩ | ⟨g, rfl⟩
  all_goals
    go_enter Tryd.func71, Tryd.ntmps71
    go_wp2_with fail
    go_quiet ((go_at_call 68; exact Calls.quiet_of ((HI.out _).mono fun _ _ ⟨p, q⟩ => ⟨p, 0, by rw [← q]; rfl⟩)))
    go_wp2_with fail
    go_loopw [6, 26] (fun kv iv wr => kv = _ ∧ iv = .int .i64 0 ∧ Hid (∃ q, wr = w.drewN q)) (fun _ _ _ => 0)
    case atStart => exact ⟨rfl, rfl, _, rfl⟩
    case round =>
      obtain ⟨rfl, rfl, HQ⟩ := hrel
      obtain ⟨q, hq⟩ := HQ.out
      subst hq
      go_wp2_with fail
      go_region_held3 (fun w' => w'.cell? ⟨s, 8, none⟩ = some (.slice (some ⟨wB, 0, none⟩) (2 * V + 1) (2 * V + 1))) (go_keep) (first | (go_at_call 68; refine (HI.out _).mono ?_; rintro e w' ⟨rfl, rfl⟩))
      go_wp2_with fail
      go_ret
      exact ⟨rfl, _, rfl⟩

/-- Wake, whether or not a clause watches the literal. -/
theorem wake_all {w : World} {Y : Lay} {σ : St} {n : Int} {b : Option Nat} {so : List Int} (h : Mem w Y σ none) (h0 : Run σ n [] (σ.wat n) b so) (hN : σ.N ≤ 10000000) :
    Calls Tryd.prog 71 #[.pointer (some ⟨Y.s, 0, none⟩), .int .i64 n] w (WaE w Y σ n) := by
  by_cases hpos : 0 < (σ.wat n).length
  · exact wake_some h h0 hN hpos
  · have h00 : (σ.wat n) = [] := List.eq_nil_of_length_eq_zero (by omega)
    have hl := h0.lt.in'
    have c8 := h.cell 8 (by omega)
    obtain ⟨wB, e8, r8, p8⟩ := h .wat
    have ho := h .wls n hl (by simp)
    rw [h00] at ho
    have hform : ∃ a c, Y.watV (ix σ.V n) = .slice a 0 c ∧ (a = none ∧ c = 0 ∨ ∃ g, a = some ⟨g, 0, none⟩) := by
      rcases ho.1.2 with ⟨e, _⟩ | ⟨g, cap, cur, e, _⟩
      · exact ⟨none, 0, e, Or.inl ⟨rfl, rfl⟩⟩
      · exact ⟨_, cap, e, Or.inr ⟨g, rfl⟩⟩
    obtain ⟨a, c, e1, ha'⟩ := hform
    have d := r8.cell (i := ix σ.V n) (ix_lt hl)
    have z := r8.free (ix σ.V n)
    rw [e8] at c8
    rw [e1] at d
    have nB : Y.s ≠ wB := fun e => by have := h.srole; rw [e, p8] at this; cases this
    refine (wake_nil h.vars c8 d z nB hl h.nle ha').mono ?_
    rintro e w' ⟨rfl, q, rfl⟩
    have hO : OwnR (w.drewN q) Y.ρ (.wl n) 3 1 (.slice a 0 c) (([] : List Nat)).length (([] : List Nat).map encN) := by
      rw [← e1]; exact ho.keep (S := fun _ => false) ((Frm.refl _ _ _).drewN q) rfl (fun _ _ => rfl)
    have hF := ((h.drewN q).hold (some n)).layWl hl e8 p8 hO
    have hend : WkEnd σ n { σ with wat := updI σ.wat n [] } (-1) := .done (by have := WkTo.start (σ0 := σ) (n := n); rw [h00] at this; exact this)
    exact ⟨_, -1, _, rfl, hend, hF.1, Nxt.trans (Nxt.same ((Frm.refl _ _ _).drewN q)) (hF.2.mono (sAny_le rfl))⟩

/-- What propagate answers. -/
def PgE (w : World) (Y : Lay) (σ : St) (b : Option Nat) (so : List Int) (e : Ending) (w' : World) : Prop :=
  ∃ σ' c Y', e = .returned (.int .i64 c) ∧ PgEnd σ σ' c b so ∧ Mem w' Y' σ' none ∧ Nxt sAny w Y w' Y'
def headOf (w : World) (s : Nat) : Nat := (intOf ((w.cell? ⟨s, 2, none⟩).getD (.int .i64 0))).toNat
theorem Mem.headOf {w : World} {Y : Lay} {σ : St} {x : Option Int} (h : Mem w Y σ x) : headOf w Y.s = σ.head := by
  unfold Rc.headOf
  rw [h.cell 2 (by omega), show Y.hd 2 = _ from h .head]
  simp [intOf]

set_option maxRecDepth 100000 in
set_option maxHeartbeats 2000000 in
theorem propagate_any {w : World} {Y : Lay} {σ : St} {b : Option Nat} {so : List Int} (h : Mem w Y σ none) (hi : Inv σ σ.wat b so fun _ _ => False) (hb : ∀ k, b = some k → k ≤ σ.head) (hN : σ.N ≤ 10000000) :
    Calls Tryd.prog 46 #[.pointer (some ⟨Y.s, 0, none⟩)] w (PgE w Y σ b so) := by
  have START : Hid (∃ σ1 Y1, Mem w Y1 σ1 none ∧ Nxt sAny w Y w Y1 ∧ Inv σ1 σ1.wat b so (fun _ _ => False) ∧ Kept σ σ1 ∧ σ.head ≤ σ1.head) := ⟨σ, Y, h, Nxt.refl _ _ _, hi, Kept.refl _, Nat.le_refl _⟩
  have HC := Lib.hid hN
  have HB := Lib.hid hb
  clear h hi hN hb
  go_enter Tryd.func46, Tryd.ntmps46
  go_wp2_with fail
  go_loopw [] (fun wr => Hid (∃ σ1 Y1, Mem wr Y1 σ1 none ∧ Nxt sAny w Y wr Y1 ∧ Inv σ1 σ1.wat b so (fun _ _ => False) ∧ Kept σ σ1 ∧ σ.head ≤ σ1.head)) (fun wr => σ.V - headOf wr Y.s)
  case atStart => exact START.out
  case round =>
    obtain ⟨σ1, Y1, hm, hnx, hin, hk, hh1⟩ := hrel.out
    have len := hin.t.len
    have hVle := hm.nle
    have HM := Lib.hid (And.intro hm (And.intro hnx (And.intro hin (And.intro hk hh1))))
    have HNX : Hid (Calls Tryd.prog 70 #[.pointer (some ⟨Y.s, 0, none⟩)] wr (NxtE wr Y1 σ1 none)) := by
      rw [← hnx.s]; exact next_any hm hin.t.head (by omega)
    have HO := Lib.hid hm.headOf
    clear hm hin hk hnx hh1 hrel
    go_wp2_with fail
    refine HNX.out.mono ?_
    intro e w1 hE
    rcases hE with ⟨hhd, rfl, q, hq⟩ | ⟨hhd, rfl, Y2, hm2, hn2, hl2⟩
    · have HQ := Lib.hid hq
      have HH := Lib.hid hhd
      clear hq hhd HNX
      go_wp2_with fail
      go_ret
      obtain ⟨a1, a2, a3, a4, a5⟩ := HM.out
      rw [HQ.out]
      exact ⟨σ1, -1, Y1, rfl, ⟨a4, fun _ => ⟨a3, HH.out⟩, fun e => absurd rfl e, a5⟩, a1.drewN q, a2.drewN q⟩
    · obtain ⟨m, hmm⟩ : ∃ m, m = σ1.asg[σ1.head]! := ⟨_, rfl⟩
      rw [← hmm]
      have hmL : Lt σ1.V m := by rw [hmm]; exact HM.out.2.2.1.t.lt _ (mem! hhd)
      have HR := Lib.hid (HM.out.2.2.1.run (fun k hk => Nat.le_trans (HB.out k hk) HM.out.2.2.2.2) hhd (n := -m) (by rw [hmm]))
      have hwr : IntKind.i64.wrap (-m) = -m := IntWalk.i64_in _ (by have := hmL.2; omega)
      have hm1 : -1000000 ≤ m := by have := hmL.2.1; omega
      have hm2' : m ≤ 1000000 := by have := hmL.2.2; omega
      have HWK : Hid (Calls Tryd.prog 71 #[.pointer (some ⟨Y.s, 0, none⟩), .int .i64 (-m)] w1 (WaE w1 Y2 { σ1 with head := σ1.head + 1 } (-m))) := by
        have e2 : Y2.s = Y.s := hn2.s.trans HM.out.2.1.s
        rw [← e2]
        exact wake_all hm2 HR.out (by show σ1.N ≤ _; rw [HM.out.2.2.2.1.N]; exact HC.out)
      have HN2 := Lib.hid hn2
      have HLT := Lib.hid hhd
      clear hm2 hn2 hl2 hmm hmL hhd HNX
      go_wp2_with fail
      refine HWK.out.mono ?_
      rintro e w2 ⟨σ2, cc, Y3, rfl, hend, hm3, hn3⟩
      have HE := Lib.hid (And.intro hend (And.intro hm3 hn3))
      clear hend hm3 hn3 HWK
      by_cases hcc : cc = -1
      · subst hcc
        go_wp2_with fail
        go_roundw
        case rel =>
          obtain ⟨a1, a2, a3, a4, a5⟩ := HM.out
          obtain ⟨b1, b2, b3⟩ := HE.out
          have ho := b1.out HR.out
          have hkk := b1.kept HR.out
          have hi2 := ho.inv
          refine ⟨σ2, Y3, b2, (a2.trans (HN2.out.mono (sAny_le rfl))).trans b3, ⟨hi2.t, hi2.c, hi2.w, fun p hp hc m hm he hn => hi2.h p hp hc m hm (fun z => z.1 rfl) hn, hi2.r, hi2.b⟩, a4.trans ((Kept.watH σ1 σ1.wat (σ1.head + 1)).trans hkk.1), ?_⟩
          rw [hkk.2]
          show _ ≤ σ1.head + 1
          omega
        case measure =>
          obtain ⟨a1, a2, a3, a4, a5⟩ := HM.out
          obtain ⟨b1, b2, b3⟩ := HE.out
          have := b2.headOf
          have e5 : Y3.s = Y.s := ((a2.trans (HN2.out.mono (sAny_le rfl))).trans b3).s
          have e6 : Y1.s = Y.s := a2.s
          rw [e5, (b1.kept HR.out).2] at this
          have h1 := HO.out
          rw [e6] at h1
          rw [this, h1, ← a4.V]
          have := HLT.out
          show σ1.V - (σ1.head + 1) < σ1.V - σ1.head
          omega
      · have hcc2 : (cc != -1) = true := by simpa using hcc
        have HCC := Lib.hid hcc
        clear hcc
        go_wp2_with fail
        go_ret
        obtain ⟨a1, a2, a3, a4, a5⟩ := HM.out
        obtain ⟨b1, b2, b3⟩ := HE.out
        have ho := b1.out HR.out
        have hkk := b1.kept HR.out
        obtain ⟨p, p1, p2, p3, p4⟩ := ho.bad HCC.out
        have hi2 := ho.inv
        exact ⟨σ2, cc, Y3, rfl, ⟨a4.trans ((Kept.watH σ1 σ1.wat (σ1.head + 1)).trans hkk.1), fun e => absurd e HCC.out, fun _ => ⟨p, -m, p1, p2, p3, p4, ⟨hi2.t, hi2.c, hi2.w, fun p hp hc m hm he hn => hi2.h p hp hc m hm (fun z => he z.2) hn, hi2.r, hi2.b⟩, ho.lv⟩, by rw [hkk.2]; show σ.head ≤ σ1.head + 1; omega⟩, b2, (a2.trans (HN2.out.mono (sAny_le rfl))).trans b3⟩
end Go.Proofs.YthpamogomfleoaaDoor.Rc
