/- Contract of rewatch. -/
import Derived.Test.YthpamogomfleoaaDoorRcWt
namespace Go.Proofs.YthpamogomfleoaaDoor.Rc
open Go Go.RowKit Go.Lib

def St.rew (σ : St) (p i : Nat) : St := { σ with lits := upd σ.lits p (swp (σ.lits p) 1 i), wat := updI σ.wat (σ.lits p)[i]! (σ.wat (σ.lits p)[i]! ++ [p]) }
def sRw (x : Int) : Role → Bool | .wl k => k != x | .wat => true | .lit _ => true | _ => false
theorem sWl_sRw {m x : Int} (h : m ≠ x) : ∀ q, sRw x q = false → sWl m q = false := by
  intro q hq
  cases q <;> first | rfl | (simp [sRw] at hq; done) | skip
  rename_i k
  simp only [sRw, bne_eq_false_iff_eq] at hq
  simp only [sWl, beq_eq_false_iff_ne]
  omega
theorem sLits_sRw {p : Nat} {x : Int} : ∀ q, sRw x q = false → sLits p q = false := by
  intro q hq
  cases q <;> first | rfl | (simp [sRw] at hq; done)

/-- What rewatch answers: none is left that is not false, or the one at i becomes the second. -/
def RwE (w : World) (Y : Lay) (σ : St) (n : Int) (p : Nat) (e : Ending) (w' : World) : Prop :=
  (e = .returned (.bool false) ∧ (∀ j, 2 ≤ j → j < (σ.lits p).length → σ.val (-(σ.lits p)[j]!) = true) ∧ ∃ q, w' = w.drewN q) ∨
  (e = .returned (.bool true) ∧ ∃ i Y', 2 ≤ i ∧ i < (σ.lits p).length ∧ σ.val (-(σ.lits p)[i]!) = false ∧ Mem w' Y' (σ.rew p i) (some n) ∧ Nxt (sRw n) w Y w' Y' ∧ Y'.litV = Y.litV)

set_option maxRecDepth 100000 in
set_option maxHeartbeats 4000000 in
theorem rewatch_any {w : World} {Y : Lay} {σ : St} {n : Int} (h : Mem w Y σ (some n)) (p : Nat) (hp : p < σ.N) (hlen : 2 ≤ (σ.lits p).length) (hL : ∀ l ∈ σ.lits p, Lt σ.V l) (hx : σ.val (-n) = true)
    (hw : ∀ l, Lt σ.V l → l ≠ n → (σ.wat l).length ≤ 100000000) (hb : (σ.lits p).length ≤ 100000000) (_ : σ.N ≤ 100000000) :
    Calls Tryd.prog 80 #[.pointer (some ⟨Y.s, 0, none⟩), .int .i64 (p : Int)] w (RwE w Y σ n p) := by
  have HM := Lib.hid h
  obtain ⟨rg, rc, er, hr1, hr2, hr3, hr4, cr0, cr1, _⟩ := h.recAt hp
  obtain ⟨lg, lc, el, hl1, hl2, hl3, hl4⟩ := h.litAt hp (by omega)
  have c5 := h.cell 5 (by omega)
  rw [er] at c5
  rw [el] at cr0
  have EL := Lib.hid (And.intro el (And.intro hl2 (And.intro hl3 hl4)))
  have pz : (p : Int) < (σ.N : Int) := by omega
  have p0 : (0 : Int) ≤ (p : Int) := by omega
  obtain ⟨len, hle⟩ : ∃ len, len = (σ.lits p).length := ⟨_, rfl⟩
  rw [← hle] at cr0 hlen
  have HLE := Lib.hid hle
  have HLL := Lib.hid hL
  have HW := Lib.hid hw
  have HP := Lib.hid hp
  have HX := Lib.hid hx
  rw [← hle] at hb
  clear el h hle hL hw hp hx hl1 hl2 hl3 hl4 er hr3 hr4 cr1
  go_enter Tryd.func80, Tryd.ntmps80
  go_wp2_with fail
  go_loopw [6] (fun iv wr => ∃ i : Nat, iv = .int .i64 (i : Int) ∧ 2 ≤ i ∧ i ≤ len ∧ Hid (∀ j, 2 ≤ j → j < i → σ.val (-(σ.lits p)[j]!) = true) ∧ Hid (∃ q, wr = w.drewN q)) (fun iv _ => len - (intOf iv).toNat)
  case atStart => exact ⟨2, rfl, by omega, hlen, fun j h1 h2 => by omega, ⟨0, rfl⟩⟩
  case round =>
    obtain ⟨i, rfl, hi2, hile, HF, HQ⟩ := hrel
    obtain ⟨q, hq⟩ := HQ.out
    have HM1 : Hid (Mem wr Y σ (some n)) := by rw [hq]; exact HM.out.drewN q
    have HQ1 := Lib.hid hq
    have ci0 : ∀ k, k < (σ.lits p).length → wr.cell? ⟨lg, k, none⟩ = some (.int .i64 (σ.lits p)[k]!) := fun k hk => by rw [hq]; exact EL.out.2.2.1 k hk
    have HCI := Lib.hid ci0
    have HZ : Hid (∀ k, wr.frozen? ⟨lg, k, none⟩ = false) := fun k => by rw [hq]; exact EL.out.2.2.2 k
    clear hq HQ ci0
    by_cases hlt : i < len
    · have hlz : (i : Int) < (len : Int) := by omega
      have hi0 : (0 : Int) ≤ (i : Int) := by omega
      have hi' : i < (σ.lits p).length := by rw [← HLE.out]; exact hlt
      obtain ⟨m, hm⟩ : ∃ m, m = (σ.lits p)[i]! := ⟨_, rfl⟩
      have hmL : Lt σ.V m := by rw [hm]; exact HLL.out _ (mem! hi')
      have ci := HCI.out i hi'
      rw [← hm] at ci
      have HT : Hid (∀ q, Calls Tryd.prog 44 #[.pointer (some ⟨Y.s, 0, none⟩), .int .i64 m] (wr.drewN q) fun e w' => e = .returned (.bool (σ.val (-m))) ∧ ∃ q', w' = (wr.drewN q).drewN q') := fun q => isFalse_any (HM1.out.drewN q) m hmL.in'
      have HMm := Lib.hid hm
      have HmL := Lib.hid hmL
      clear hm hi' hmL
      cases hv : σ.val (-m) with
      | true =>
        rw [hv] at HT
        have HF1 : Hid (∀ j, 2 ≤ j → j < i + 1 → σ.val (-(σ.lits p)[j]!) = true) := by
          intro j h1 h2
          by_cases e : j = i
          · subst e; rw [← HMm.out]; exact hv
          · exact HF.out j h1 (by omega)
        clear hv
        go_wp2_with fail
        go_quiet ((go_at_call 44; exact Calls.quiet_of (HT.out _)))
        go_wp2_with fail
        go_roundw
        case rel => exact ⟨i + 1, by go_num, by omega, by omega, HF1, ⟨_, by rw [HQ1.out, World.drewN_drewN]⟩⟩
        case measure => simp [intOf]; omega
      | false =>
        rw [hv] at HT
        have HV := Lib.hid hv
        clear hv
        have l1 : (1 : Int) < (len : Int) := by omega
        have l0n : 0 < len := by omega
        obtain ⟨m1, hm1⟩ : ∃ m1, m1 = (σ.lits p)[1]! := ⟨_, rfl⟩
        have cc1 := HCI.out 1 (by rw [← HLE.out]; omega)
        rw [← hm1] at cc1
        have HM1e := Lib.hid hm1
        have z1 := HZ.out 1
        have zi := HZ.out i
        have hvx : m ≠ n := fun e => by have := HV.out; rw [e, HX.out] at this; cases this
        have i1 : i ≠ 1 := by omega
        have i1' : 1 ≠ i := by omega
        have HSW : Hid (∀ q, Mem (((wr.drewN q).setCell ⟨lg, 1, none⟩ (.int .i64 m)).setCell ⟨lg, i, none⟩ (.int .i64 m1)) Y { σ with lits := upd σ.lits p (swp (σ.lits p) 1 i) } (some n) ∧ Frm Y.ρ (sRw n) w (((wr.drewN q).setCell ⟨lg, 1, none⟩ (.int .i64 m)).setCell ⟨lg, i, none⟩ (.int .i64 m1))) := fun q' => by
          have := (HM1.out.drewN q').swap HP.out EL.out.1 1 i (by rw [← HLE.out]; omega) (by rw [← HLE.out]; exact hlt) m m1 HMm.out HM1e.out
          have F0 : Frm Y.ρ (sRw n) w (wr.drewN q') := by rw [HQ1.out]; exact ((Frm.refl _ _ _).drewN q).drewN q'
          exact ⟨this.1, F0.trans (this.2.mono sLits_sRw) (fun _ _ => rfl)⟩
        clear hm1
        go_wp2_with fail
        go_quiet ((go_at_call 44; exact Calls.quiet_of (HT.out _)))
        go_wp2_with fail
        go_region
        go_wp2_with fail
        refine (watch_any (HSW.out (_ + 1)).1 m HmL.out.in' (by simp; exact hvx) p (HW.out m HmL.out hvx)).mono ?_
        rintro e w2 ⟨rfl, Y2, hm2, hn2, hl2⟩
        have HE : Hid (Mem w2 Y2 (σ.rew p i) (some n) ∧ Nxt (sRw n) w Y w2 Y2 ∧ Y2.litV = Y.litV) := by
          refine ⟨?_, (Nxt.same (HSW.out _).2).trans (hn2.mono (sWl_sRw hvx)), hl2⟩
          have e : σ.rew p i = St.wat1 { σ with lits := upd σ.lits p (swp (σ.lits p) 1 i) } m p := by unfold St.rew St.wat1; rw [← HMm.out]
          rw [e]; exact hm2
        clear hm2 hn2 hl2
        go_wp2_with fail
        go_ret
        exact Or.inr ⟨rfl, i, Y2, hi2, by rw [← HLE.out]; exact hlt, by rw [← HMm.out]; exact HV.out, HE.out⟩
    · have he : i = len := by omega
      subst he
      go_wp2_with fail
      go_ret
      exact Or.inl ⟨rfl, fun j h1 h2 => HF.out j h1 (by rw [HLE.out]; exact h2), _, HQ1.out⟩
end Go.Proofs.YthpamogomfleoaaDoor.Rc
