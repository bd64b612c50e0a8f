/- The laws' frame over package bits: evaluation of lists, numbers' answers, awake. -/
import Derived.Test.YtnkcdgpaphphaaaBtK
import Derived.Test.YtnkcdgpaphphaaaBtP
import Derived.Test.YtnkcdgpaphphaaaBtQ
namespace Go.Proofs.Ytnkcdgpaphphaaa.Gr
open Go Go.RowKit Go.Lib Go.Maps

/-- What a law holds of its graph: it lies in the call's own memory. -/
structure BLaw (W w : World) (G : Loc) (L : List Nd) : Prop where
  rep : Rep w G L
  wf : Wf L
  below : Below W.heap.size W w
  new : ∀ k, G.has k → W.heap.size ≤ k
theorem BLaw.op {W w w' : World} {G G' : Loc} {L L' : List Nd} (h : BLaw W w G L) (hr : Rep w' G' L') (hf : Fr G w w' G') (hw : Wf L') : BLaw W w' G' L' :=
  ⟨hr, hw, h.below.trans (hf.below h.below.size h.new), hf.from h.below.size h.new⟩
theorem BLaw.after {W w w' : World} {G : Loc} {L : List Nd} (h : BLaw W w G L) (hb : Below w.heap.size w w') : BLaw W w' G L :=
  ⟨h.rep.below hb (Nat.le_refl _), h.wf, h.below.trans (hb.mono h.below.size), h.new⟩

theorem wd_same {xs ys : List Nat} {n : Nat} (hx : xs.length = n) (hy : ys.length = n) (h1 : 1 ≤ n) (h2 : n ≤ 16) : wid xs ys = n ∧ wdE xs ys xs = xs ∧ wdE xs ys ys = ys := by
  have vx : vecE xs = xs := vecE_of (by omega) (by omega)
  have vy : vecE ys = ys := vecE_of (by omega) (by omega)
  have w : wid xs ys = n := by unfold wid; rw [vx, vy]; omega
  refine ⟨w, ?_, ?_⟩
  · unfold wdE; rw [vx, w, ← hx, wideL_same]
  · unfold wdE; rw [vy, w, ← hy, wideL_same]

theorem Eval_vec {w : World} {G : Loc} {L : List Nd} (h : Rep w G L) (hW : Wf L) (ma : Option Addr) (mn mc : Nat) (M : Nat → Bool) (hM : ArgV (fun j => .bool (M j)) w ma mn) (hmn : mn ≤ 1000)
    (a : Option Addr) (es : List Nat) (c n : Nat) (hv : Vec w G a es) (hn : es.length = n) (hn2 : n ≤ 1000) (he : ∀ e ∈ es, e < 2 * (L.length + 1)) (hl : L.length < 120000) :
    Calls Try.prog 21 #[.pointer (some ⟨G.h, 0, none⟩), .slice ma mn mc, .slice a n c] w (EvalE w n (fun i => Gr.val (mdl M mn) L (es.getD i 0))) := by
  subst hn
  refine (Eval_any h hW ma mn mc M hM hmn a es.length c _ hv.arg (by omega) (fun j hj => by have := he _ (get_mem hj); omega) hl).mono ?_
  rintro e w' ⟨b, h1, h2, h3, h4⟩
  exact ⟨b, h1, h2, h3.congr fun i hi => by simp only [own_nat (he _ (get_mem hi))], h4⟩
theorem row_arg {w : World} {b n : Nat} {f : Nat → Bool} (h : RowAt w b 4 n (fun i => .bool (f i))) : ArgV (fun j => .bool (f j)) w (some ⟨b, 0, none⟩) n :=
  Or.inr ⟨b, 0, rfl, h.lt, fun j hj => by rw [Nat.zero_add]; exact h.cell hj⟩
theorem ev_list {es : List Nat} (m : Nat → Bool) (L : List Nd) : (List.range es.length).map (fun i => Gr.val m L (es.getD i 0)) = es.map (Gr.val m L) := by
  apply List.ext_getElem
  · simp
  · intro i h1 h2
    have hi : i < es.length := by simpa using h2
    simp [hi]
/-- The number that a list is worth, as Value answers it. -/
theorem Value_ev {W : World} {b n : Nat} {es : List Nat} {m : Nat → Bool} {L : List Nd} (h : RowAt W b 4 n (fun i => .bool (Gr.val m L (es.getD i 0)))) (hn : es.length = n) (h1 : 1 ≤ n) (h2 : n ≤ 16) (c : Nat) :
    Calls Try.prog 36 #[.slice (some ⟨b, 0, none⟩) n c] W fun e w' => e = .returned (.int .i64 (sg (es.map (Gr.val m L)))) ∧ W = w' := by
  have H := Value_any W (some ⟨b, 0, none⟩) n c _ (row_arg h) (by omega)
  have e : trimZ (mUn (fun i => Gr.val m L (es.getD i 0)) (min n 16) : Int) (lim (min n 16 : Nat)) = sg (es.map (Gr.val m L)) := by
    rw [show min n 16 = n by omega, lim_of h1 h2]
    unfold sg mUn
    rw [List.length_map, hn, ← hn, ev_list]
  rwa [e] at H

/-- What one of five does to bits, and to numbers. -/
def doF (op : Nat) (xs ys : List Bool) : List Bool := match op with
  | 0 => (addL xs ys false).1
  | 1 => (subL xs ys).1
  | 2 => prodL xs ys
  | 3 => quotL xs ys
  | _ => remL xs ys
def doZ (op : Nat) (a b : Int) (w : Nat) : Int := match op with
  | 0 => trimZ (a + b) w
  | 1 => trimZ (a - b) w
  | 2 => trimZ (a * b) w
  | 3 => if b = 0 then 0 else trimZ (if (decide (a < 0) != decide (b < 0)) then -((a.natAbs / b.natAbs : Nat) : Int) else ((a.natAbs / b.natAbs : Nat) : Int)) w
  | _ => if b = 0 then 0 else trimZ (if (decide (a < 0)) then -((a.natAbs % b.natAbs : Nat) : Int) else ((a.natAbs % b.natAbs : Nat) : Int)) w
theorem do_sg (op : Nat) (xs ys : List Bool) (h : xs.length = ys.length) (hne : xs ≠ []) : sg (doF op xs ys) = doZ op (sg xs) (sg ys) xs.length := by
  match op with
  | 0 => have := add_sg xs ys false h; simpa [doF, doZ] using this
  | 1 => exact sub_sg xs ys h
  | 2 => exact mul_sg xs ys h
  | 3 => exact quot_sg xs ys h hne
  | n + 4 => exact rem_sg xs ys h hne

theorem Const_four {w : World} {G : Loc} {L : List Nd} (h : Rep w G L) (n : Int) (hn : -9223372036854775808 ≤ n ∧ n ≤ 9223372036854775807) :
    Calls Try.prog 41 #[.int .i64 n, .int .i64 4] w fun e w' => ∃ b, e = .returned (.slice (some ⟨b, 0, none⟩) 4 4) ∧ Below w.heap.size w w' ∧ Vec w' G (some ⟨b, 0, none⟩) (cstE n 4) := by
  have H := Const_any h n 4 hn
  rw [show lim 4 = 4 by decide] at H
  refine H.mono ?_
  rintro e w' ⟨b, h1, h2, h3⟩
  exact ⟨b, h1, h2, h3.vec (by rw [cstE_len, List.length_replicate])⟩
theorem cst_lt {n : Int} {m : Nat} {L : List Nd} : ∀ e ∈ cstE n m, e < 2 * (L.length + 1) := fun e he => by have := cstE_le n m e he; omega

set_option maxRecDepth 100000 in
set_option maxHeartbeats 2000000 in
theorem awake_bits (w : World) : Calls Try.prog 31 #[] w fun e w' => e = .returned (.bool true) ∧ Below w.heap.size w w' := by
  have HN := Lib.hid (New_any w)
  go_enter Try.func31, Try.ntmps31
  go_wp2_with fail
  refine HN.out.mono ?_
  rintro e w1 ⟨G, rfl, r1, r2, r3⟩
  have L1 : Hid (BLaw w w1 G []) := ⟨r1, Wf.nil, r2, r3⟩
  have HC := Lib.hid (Const_four r1 7 (by omega))
  clear r1 r2 r3 HN
  go_wp2_with fail
  refine HC.out.mono ?_
  rintro e w2 ⟨b1, rfl, h2, v1⟩
  have L2 := Lib.hid (L1.out.after h2)
  have HC2 := Lib.hid (Const_four L2.out.rep 1 (by omega))
  have V1 := Lib.hid v1
  clear v1 h2 HC L1
  go_wp2_with fail
  refine HC2.out.mono ?_
  rintro e w3 ⟨b2, rfl, h3, v2⟩
  have L3 := Lib.hid (L2.out.after h3)
  have hws := wd_same (cstE_len 7 4) (cstE_len 1 4) (by omega) (by omega)
  have hA := Add_any (P := False) (some ⟨b1, 0, none⟩) (cstE 7 4) 4 (some ⟨b2, 0, none⟩) (cstE 1 4) 4 ⟨L3.out.rep, L3.out.wf, V1.out.below h3, v2, by rw [cstE_len]; omega, by rw [cstE_len]; omega, cst_lt, cst_lt, fun p => p.elim⟩ (by decide)
  rw [hws.1, hws.2.1, hws.2.2, cstE_len, cstE_len] at hA
  have HA := Lib.hid hA
  clear hws hA v2 h3 V1 L2 HC2
  go_wp2_with fail
  refine HA.out.mono ?_
  rintro e w4 ⟨b3, G4, L4, es4, rfl, hes4, f4, o4⟩
  have K4 := Lib.hid (L3.out.op f4.rep f4.fr o4.wf)
  have hl4 := o4.lenle
  have hE := Eval_vec f4.rep o4.wf none 0 0 (fun _ => false) (Or.inl rfl) (by omega) (some ⟨b3, 0, none⟩) es4 4 4 (f4.vec (by rw [hes4, List.length_replicate])) hes4 (by omega) o4.own (by simp at hl4; omega)
  rw [f4.fr.h] at hE
  have HE := Lib.hid hE
  have HG4 := Lib.hid f4.fr.h
  have HV4 : Hid (es4.length = 4 ∧ sg (es4.map (Gr.val (mdl (fun _ => false) 0) L4)) = -8 ∧ L4.length < 1000) := by
    refine ⟨hes4, ?_, by simp at hl4; omega⟩
    rw [o4.val, add_sg _ _ _ (by simp [cstE_len]), cstE_val, cstE_val, bits_sg, bits_sg, bitsL_len]
    decide
  clear hE f4 o4 hes4 hl4 HA L3
  go_wp2_with fail
  refine HE.out.mono ?_
  rintro e w5 ⟨b5, rfl, _, r5, hb5⟩
  have hV := Value_ev r5 HV4.out.1 (by omega) (by omega) 4
  rw [HV4.out.2.1] at hV
  have HV := Lib.hid hV
  have L5 := Lib.hid (K4.out.after hb5)
  clear hV r5 hb5 HE K4
  go_wp2_with fail
  refine HV.out.mono ?_
  rintro e w' ⟨rfl, rfl⟩
  have HC := Lib.hid (Const_four L5.out.rep (-7) (by omega))
  clear HV
  go_wp2_with fail
  refine HC.out.mono ?_
  rintro e w6 ⟨b6, rfl, h6, v6⟩
  have L6 := Lib.hid (L5.out.after h6)
  have HC2 := Lib.hid (Const_four L6.out.rep 2 (by omega))
  have V1 := Lib.hid v6
  clear v6 h6 HC L5
  go_wp2_with fail
  refine HC2.out.mono ?_
  rintro e w7 ⟨b7, rfl, h7, v7⟩
  have L7 := Lib.hid (L6.out.after h7)
  have hws := wd_same (cstE_len (-7) 4) (cstE_len 2 4) (by omega) (by omega)
  have hA := Div_any (P := False) (some ⟨b6, 0, none⟩) (cstE (-7) 4) 4 (some ⟨b7, 0, none⟩) (cstE 2 4) 4 ⟨L7.out.rep, L7.out.wf, V1.out.below h7, v7, by rw [cstE_len]; omega, by rw [cstE_len]; omega, cst_lt, cst_lt, fun p => p.elim⟩ (by have := HV4.out.2.2; omega)
  rw [hws.1, hws.2.1, hws.2.2, cstE_len, cstE_len, HG4.out] at hA
  have HA := Lib.hid hA
  clear hws hA v7 h7 V1 L6 HC2
  go_wp2_with fail
  refine HA.out.mono ?_
  rintro e w8 ⟨b8, G8, L8, es8, rfl, hes8, f8, o8⟩
  have K8 := Lib.hid (L7.out.op f8.rep f8.fr o8.wf)
  have hl8 := o8.lenle
  have hE := Eval_vec f8.rep o8.wf none 0 0 (fun _ => false) (Or.inl rfl) (by omega) (some ⟨b8, 0, none⟩) es8 4 4 (f8.vec (by rw [hes8, List.length_replicate])) hes8 (by omega) o8.own (by have := HV4.out.2.2; omega)
  rw [f8.fr.h, HG4.out] at hE
  have HE := Lib.hid hE
  have HV8 : Hid (es8.length = 4 ∧ sg (es8.map (Gr.val (mdl (fun _ => false) 0) L8)) = -3) := by
    refine ⟨hes8, ?_⟩
    rw [o8.val, quot_sg _ _ (by simp [cstE_len]) (by rw [cstE_val]; decide), cstE_val, cstE_val, bits_sg, bits_sg, bitsL_len]
    decide
  clear hE f8 o8 hes8 hl8 HA L7
  go_wp2_with fail
  refine HE.out.mono ?_
  rintro e w9 ⟨b9, rfl, _, r9, hb9⟩
  have hV := Value_ev r9 HV8.out.1 (by omega) (by omega) 4
  rw [HV8.out.2] at hV
  have HV := Lib.hid hV
  have L9 := Lib.hid (K8.out.after hb9)
  clear hV r9 hb9 HE K8
  go_wp2_with fail
  refine HV.out.mono ?_
  rintro e w' ⟨rfl, rfl⟩
  go_wp2_with fail
  go_ret
  exact ⟨rfl, L9.out.below⟩
end Go.Proofs.Ytnkcdgpaphphaaa.Gr
