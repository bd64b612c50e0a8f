/- Contracts of the small methods: index, isTrue, isFalse, reason, justify, assign, next. -/
import Derived.Test.YthpamogomfleoaaDoorRcPrim
import Derived.Deep.RegionHeld3
import Derived.Deep.RegionLaw
import Derived.IntWalk
namespace Go.Proofs.YthpamogomfleoaaDoor.Rc
open Go Go.RowKit Go.Lib

theorem infoInt : (Tryd.prog.info? 3).map (fun i => (i.zero, i.size, i.bytes)) = some (some (.int .i64 0), 1, 8) := by kernel_rfl

set_option maxHeartbeats 400000 in
theorem index_cell {w : World} {s V : Nat} {n : Int} (c0 : w.cell? ⟨s, 0, none⟩ = some (.int .i64 (V : Int))) (hV : V ≤ 100000) (hn : In V n) :
    Calls Tryd.prog 68 #[.pointer (some ⟨s, 0, none⟩), .int .i64 n] w fun e w' => e = .returned (.int .i64 (ix V n : Int)) ∧ w = w' := by
  rw [ix_cast hn]
  have hw : IntKind.i64.wrap (n + (V : Int)) = n + (V : Int) := IntWalk.i64_in _ (by have := hn.1; have := hn.2; omega)
  clear hn hV
  go_enter Tryd.func68, Tryd.ntmps68
  go_wp2
  go_ret
  exact ⟨rfl, rfl⟩

set_option maxHeartbeats 400000 in
theorem isTrue_cell {w : World} {s b V : Nat} {n : Int} {v : Bool} (c0 : w.cell? ⟨s, 0, none⟩ = some (.int .i64 (V : Int))) (c3 : w.cell? ⟨s, 3, none⟩ = some (.slice (some ⟨b, 0, none⟩) (2 * V + 1) (2 * V + 1))) (hV : V ≤ 100000) (hn : In V n)
    (hc : w.cell? ⟨b, ix V n, none⟩ = some (.bool v)) :
    Calls Tryd.prog 43 #[.pointer (some ⟨s, 0, none⟩), .int .i64 n] w fun e w' => e = .returned (.bool v) ∧ ∃ q, w' = w.drewN q := by
  have HI : Hid (∀ q, Calls Tryd.prog 68 #[.pointer (some ⟨s, 0, none⟩), .int .i64 n] (w.drewN q) fun e w' => e = .returned (.int .i64 (ix V n : Int)) ∧ w.drewN q = w') := fun q => index_cell c0 hV hn
  have lb : (ix V n : Int) < 2 * (V : Int) + 1 := by have := ix_lt hn; omega
  have l0 : (0 : Int) ≤ (ix V n : Int) := by omega
  generalize ix V n = i at *
  clear hn hV c0
  go_enter Tryd.func43, Tryd.ntmps43
  go_wp2_with fail
  go_quiet ((go_at_call 68; exact Calls.quiet_of ((HI.out _).mono fun _ _ ⟨p, q⟩ => ⟨p, 0, by rw [← q]; rfl⟩)))
  go_wp2
  go_ret
  exact ⟨rfl, _, rfl⟩
theorem Mem.vars {w : World} {Y : Lay} {σ : St} {x : Option Int} (h : Mem w Y σ x) : w.cell? ⟨Y.s, 0, none⟩ = some (.int .i64 (σ.V : Int)) := by
  have := h.cell 0 (by omega); rwa [show Y.hd 0 = _ from h .vars] at this
theorem isTrue_any {w : World} {Y : Lay} {σ : St} {x : Option Int} (h : Mem w Y σ x) (n : Int) (hn : In σ.V n) :
    Calls Tryd.prog 43 #[.pointer (some ⟨Y.s, 0, none⟩), .int .i64 n] w fun e w' => e = .returned (.bool (σ.val n)) ∧ ∃ q, w' = w.drewN q := by
  have c3 := h.cell 3 (by omega)
  obtain ⟨b, e3, r3, _⟩ := h .hol
  have cl := r3.cell (i := ix σ.V n) (ix_lt hn)
  rw [ix_back hn] at cl
  rw [e3] at c3
  exact isTrue_cell h.vars c3 h.nle hn cl

set_option maxHeartbeats 400000 in
theorem isFalse_cell {w : World} {s b V : Nat} {n : Int} {v : Bool} (c0 : w.cell? ⟨s, 0, none⟩ = some (.int .i64 (V : Int))) (c3 : w.cell? ⟨s, 3, none⟩ = some (.slice (some ⟨b, 0, none⟩) (2 * V + 1) (2 * V + 1))) (hV : V ≤ 100000) (hn : In V n)
    (hc : w.cell? ⟨b, ix V (-n), none⟩ = some (.bool v)) :
    Calls Tryd.prog 44 #[.pointer (some ⟨s, 0, none⟩), .int .i64 n] w fun e w' => e = .returned (.bool v) ∧ ∃ q, w' = w.drewN q := by
  have hw : IntKind.i64.wrap (-n) = -n := IntWalk.i64_in _ (by have := hn.1; have := hn.2; omega)
  have HI : Hid (∀ q, Calls Tryd.prog 68 #[.pointer (some ⟨s, 0, none⟩), .int .i64 (-n)] (w.drewN q) fun e w' => e = .returned (.int .i64 (ix V (-n) : Int)) ∧ w.drewN q = w') := fun q => index_cell c0 hV hn.neg
  have lb : (ix V (-n) : Int) < 2 * (V : Int) + 1 := by have := ix_lt hn.neg; omega
  have l0 : (0 : Int) ≤ (ix V (-n) : Int) := by omega
  generalize ix V (-n) = i at *
  have b1 : -1000000 ≤ n := by have := hn.1; omega
  have b2 : n ≤ 1000000 := by have := hn.2; omega
  clear hn hV c0
  go_enter Tryd.func44, Tryd.ntmps44
  go_wp2_with fail
  go_quiet ((go_at_call 68; exact Calls.quiet_of ((HI.out _).mono fun _ _ ⟨p, q⟩ => ⟨p, 0, by rw [← q]; rfl⟩)))
  go_wp2
  go_ret
  exact ⟨rfl, _, rfl⟩
theorem isFalse_any {w : World} {Y : Lay} {σ : St} {x : Option Int} (h : Mem w Y σ x) (n : Int) (hn : In σ.V n) :
    Calls Tryd.prog 44 #[.pointer (some ⟨Y.s, 0, none⟩), .int .i64 n] w fun e w' => e = .returned (.bool (σ.val (-n))) ∧ ∃ q, w' = w.drewN q := by
  have c3 := h.cell 3 (by omega)
  obtain ⟨b, e3, r3, _⟩ := h .hol
  have cl := r3.cell (i := ix σ.V (-n)) (ix_lt hn.neg)
  rw [ix_back hn.neg] at cl
  rw [e3] at c3
  exact isFalse_cell h.vars c3 h.nle hn cl

set_option maxHeartbeats 400000 in
theorem justify_any {w : World} {Y : Lay} {σ : St} {x : Option Int} (h : Mem w Y σ x) (n : Int) (hn : In σ.V n) (r : Int) :
    Calls Tryd.prog 69 #[.pointer (some ⟨Y.s, 0, none⟩), .int .i64 n, .int .i64 r] w fun e w' => e = .returned (.tuple #[]) ∧ Mem w' Y { σ with rsn := updI σ.rsn n r } x ∧ Frm Y.ρ sRsn w w' := by
  have c4 := h.cell 4 (by omega)
  obtain ⟨b, e4, r4, p4⟩ := h .rsn
  have cl := r4.cell (i := ix σ.V n) (ix_lt hn)
  have zf := r4.free (ix σ.V n)
  rw [e4] at c4
  have HI : Hid (∀ q, Calls Tryd.prog 68 #[.pointer (some ⟨Y.s, 0, none⟩), .int .i64 n] (w.drewN q) fun e w' => e = .returned (.int .i64 (ix σ.V n : Int)) ∧ w.drewN q = w') := fun q => index_cell h.vars h.nle hn
  have HM : Hid (∀ q, Mem ((w.drewN q).setCell ⟨b, ix σ.V n, none⟩ (.int .i64 r)) Y { σ with rsn := updI σ.rsn n r } x ∧ Frm Y.ρ sRsn w ((w.drewN q).setCell ⟨b, ix σ.V n, none⟩ (.int .i64 r))) :=
    fun q => ⟨(h.drewN q).setRsn e4 p4 hn r, ((Frm.refl _ _ _).drewN q).set (fun _ => by rw [p4]; rfl) _⟩
  have nB : Y.s ≠ b := fun e => by have := h.srole; rw [e, p4] at this; cases this
  have nB' : b ≠ Y.s := fun e => nB e.symm
  have lb : (ix σ.V n : Int) < 2 * (σ.V : Int) + 1 := by have := ix_lt hn; omega
  have l0 : (0 : Int) ≤ (ix σ.V n : Int) := by omega
  generalize hV : σ.V = V at *
  generalize ix V n = i at *
  unfold encL at cl
  have HVV := Lib.hid hV
  clear h hn r4 e4 hV
  go_enter Tryd.func69, Tryd.ntmps69
  go_wp2_with fail
  go_region_held3 (fun w' => w'.cell? ⟨Y.s, 4, none⟩ = some (.slice (some ⟨b, 0, none⟩) (2 * V + 1) (2 * V + 1))) (go_keep) (first | (go_at_call 68; refine (HI.out _).mono ?_; rintro e w' ⟨rfl, rfl⟩))
  go_wp2_with fail
  go_end0
  exact ⟨rfl, HM.out _⟩

/-- A literal becomes true. -/
def St.asn (σ : St) (n r : Int) : St := { σ with asg := σ.asg ++ [n], val := updI σ.val n true, rsn := updI σ.rsn n r }
def sAsn : Role → Bool | .asg => true | .chk => true | .hol => true | .rsn => true | _ => false

set_option maxRecDepth 100000 in
set_option maxHeartbeats 2000000 in
theorem assign_any {w : World} {Y : Lay} {σ : St} {x : Option Int} (h : Mem w Y σ x) (n : Int) (hn : In σ.V n) (r : Int) (ha : σ.asg.length ≤ 100000000) :
    Calls Tryd.prog 45 #[.pointer (some ⟨Y.s, 0, none⟩), .int .i64 n, .int .i64 r] w fun e w' => e = .returned (.tuple #[]) ∧ ∃ Y', Mem w' Y' (σ.asn n r) x ∧ Nxt sAsn w Y w' Y' ∧ Y'.litV = Y.litV := by
  have c3 := h.cell 3 (by omega)
  obtain ⟨b, e3, r3, p3⟩ := h .hol
  have cl := r3.cell (i := ix σ.V n) (ix_lt hn)
  have zf := r3.free (ix σ.V n)
  rw [e3] at c3
  have HI : Hid (∀ q, Calls Tryd.prog 68 #[.pointer (some ⟨Y.s, 0, none⟩), .int .i64 n] (w.drewN q) fun e w' => e = .returned (.int .i64 (ix σ.V n : Int)) ∧ w.drewN q = w') := fun q => index_cell h.vars h.nle hn
  have HM : Hid (∀ q, Mem ((w.drewN q).setCell ⟨b, ix σ.V n, none⟩ (.bool true)) Y { σ with val := updI σ.val n true } x ∧ Frm Y.ρ sAsn w ((w.drewN q).setCell ⟨b, ix σ.V n, none⟩ (.bool true))) :=
    fun q => ⟨(h.drewN q).setVal e3 p3 hn true, ((Frm.refl _ _ _).drewN q).set (fun _ => by rw [p3]; rfl) _⟩
  have nB : Y.s ≠ b := fun e => by have := h.srole; rw [e, p3] at this; cases this
  have nB' : b ≠ Y.s := fun e => nB e.symm
  have lb : (ix σ.V n : Int) < 2 * (σ.V : Int) + 1 := by have := ix_lt hn; omega
  have l0 : (0 : Int) ≤ (ix σ.V n : Int) := by omega
  have HN := Lib.hid hn
  generalize hV : σ.V = V at *
  generalize ix V n = i at *
  have HVV := Lib.hid hV
  clear h hn r3 e3 hV
  go_enter Tryd.func45, Tryd.ntmps45
  go_wp2_with fail
  go_region_held3 (fun w' => w'.cell? ⟨Y.s, 3, none⟩ = some (.slice (some ⟨b, 0, none⟩) (2 * V + 1) (2 * V + 1))) (go_keep) (first | (go_at_call 68; refine (HI.out _).mono ?_; rintro e w' ⟨rfl, rfl⟩))
  have HM1 := Lib.hid (HM.out 1)
  clear HM HI cl zf lb l0 nB nB' c3
  generalize (w.drewN 1).setCell ⟨b, i, none⟩ (.bool true) = W1 at *
  have HJ := Lib.hid (justify_any HM1.out.1 n HN.out r)
  go_wp2_with fail
  refine HJ.out.mono ?_
  rintro e W2 ⟨rfl, hm2, hf2⟩
  have HM2 : Hid (Mem W2 Y { σ with V := V, val := updI σ.val n true, rsn := updI σ.rsn n r } x ∧ Frm Y.ρ sAsn w W2) := ⟨hm2, HM1.out.2.trans (hf2.mono (fun r => by cases r <;> simp [sRsn, sAsn])) (fun _ _ => rfl)⟩
  clear hm2 hf2 HJ HM1
  have c1 := HM2.out.1.cell 1 (by omega)
  have f1 := HM2.out.1.free 1
  obtain ⟨a1, k1, e1, _, _⟩ := own_form (HM2.out.1 .asg)
  rw [e1] at c1
  have E1 := Lib.hid e1
  have HO : Hid (W2.ownsRow 0 3 1 (.slice a1 σ.asg.length k1) σ.asg.length (σ.asg.map encL)) := by
    have := (HM2.out.1 .asg).1
    rw [← e1]; exact this
  have hne : (Value.slice a1 σ.asg.length k1).ownBlock ≠ some Y.s := fun e => by have := (HM2.out.1 .asg).2 _ (by rw [E1.out]; exact e); rw [HM2.out.1.srole] at this; cases this
  have hlt := HM2.out.1.slt
  obtain ⟨ii, hi, hz0, hz1, hz2⟩ := info_parts infoInt
  clear e1
  go_wp2_with (at_builtin; refine wpList_append_lies _ rfl _ _ 23 rfl 0 3 ii (.int .i64 0) 1 8 Tryd.underlying23 hi hz0 hz1 hz2 rfl (by decide) _ _ _ rfl (HO.out.alloc _) ⟨W2.heap.size, 0, none⟩ 1 1 [.int .i64 n] rfl rfl ?c1 ?c2 (by decide) ?c3 ?c4 ?c5 (W2.heap.size + 1) (by simp) ?_)
  case c1 => exact World.news_of_block (cs := #[.int .i64 n]) (t := 3) (fr := (0, 0)) (heap_alloc_new W2 _)
  case c2 => intro u hu; obtain rfl := List.mem_singleton.1 hu; rfl
  case c3 => unfold maxLen; omega
  case c4 => omega
  case c5 => omega
  · intro g cap w1 hown hgrow hat hlt1
    have HW := (HM2.out.1.alloc (.cells #[.int .i64 n] 3))
    have G : Gr _ w1 Y.ρ .asg (Y.hd 1) g := Gr.mk' (HW .asg) (by rw [E1.out]; exact hgrow) (by rw [E1.out]; exact hat) (by simp) hlt1
    have hg := G.ne HW (by simp)
    have R := HW.appAsg G hg hown
    have fz1 := (hgrow.frozen_far ⟨Y.s, 1, none⟩ (by simp; omega) (Ne.symm hne)).trans (HW.free 1)
    have cl1 := hgrow.cell (HW.cell 1 (by omega)) (Ne.symm hne)
    have HR := Lib.hid R
    have HF := Lib.hid (HM2.out.2.alloc (.cells #[.int .i64 n] 3))
    clear R G hgrow hat HW
    go_wp2
    go_end0
    refine ⟨rfl, _, ?_, Nxt.trans (Nxt.same HF.out) (HR.out.2.mono (fun r => by cases r <;> simp [sAsg, sAsn])), rfl⟩
    have e : σ.asn n r = { σ with V := V, asg := σ.asg ++ [n], val := updI σ.val n true, rsn := updI σ.rsn n r } := by rw [← HVV.out]; rfl
    rw [e]
    exact HR.out.1

/-- What next answers. -/
def NxtE (w : World) (Y : Lay) (σ : St) (x : Option Int) (e : Ending) (w' : World) : Prop :=
  (σ.head = σ.asg.length ∧ e = .returned (.tuple #[.int .i64 0, .bool false]) ∧ ∃ q, w' = w.drewN q) ∨
  (σ.head < σ.asg.length ∧ e = .returned (.tuple #[.int .i64 σ.asg[σ.head]!, .bool true]) ∧ ∃ Y', Mem w' Y' { σ with head := σ.head + 1 } x ∧ Nxt sChk w Y w' Y' ∧ Y'.litV = Y.litV)
set_option maxHeartbeats 1000000 in
theorem next_any {w : World} {Y : Lay} {σ : St} {x : Option Int} (h : Mem w Y σ x) (hh : σ.head ≤ σ.asg.length) (ha : σ.asg.length ≤ 100000000) :
    Calls Tryd.prog 70 #[.pointer (some ⟨Y.s, 0, none⟩)] w (NxtE w Y σ x) := by
  have c1 := h.cell 1 (by omega)
  have c2 := h.cell 2 (by omega)
  have z2 := h.free 2
  rw [show Y.hd 2 = _ from h .head] at c2
  by_cases hlt : σ.head < σ.asg.length
  · obtain ⟨g, c, e1, _, _, hgl, hgr⟩ := own_form1 (h .asg) (by omega)
    have ho : OwnR w Y.ρ .asg 3 1 (Y.hd 1) σ.asg.length (σ.asg.map encL) := h .asg
    rw [e1] at ho c1
    have d := ho.cellM hlt
    unfold encL at d
    have gs : g ≠ Y.s := fun e => by rw [e, h.srole] at hgr; cases hgr
    have gs' : Y.s ≠ g := fun e => gs e.symm
    have HM : Hid (∀ q p, Mem (((w.drewN q).setCell ⟨Y.s, 2, none⟩ (.int .i64 ((σ.head + 1 : Nat) : Int))).drewN p) { Y with hd := upd Y.hd 2 (.int .i64 ((σ.head + 1 : Nat) : Int)) } { σ with head := σ.head + 1 } x ∧ Nxt sChk w Y (((w.drewN q).setCell ⟨Y.s, 2, none⟩ (.int .i64 ((σ.head + 1 : Nat) : Int))).drewN p) { Y with hd := upd Y.hd 2 (.int .i64 ((σ.head + 1 : Nat) : Int)) }) :=
      fun q p => ⟨((h.drewN q).setHead (σ.head + 1)).drewN p, (((Frm.refl _ _ _).drewN q).set (fun _ => by rw [h.srole]; rfl) _).drewN p, rfl, fun _ _ => rfl⟩
    obtain ⟨m, hm⟩ : ∃ m, m = σ.asg[σ.head]! := ⟨_, rfl⟩
    rw [← hm] at d
    have HMM := Lib.hid hm
    obtain ⟨len, hlen⟩ : ∃ len, len = σ.asg.length := ⟨_, rfl⟩
    obtain ⟨k, hk⟩ : ∃ k, k = σ.head := ⟨_, rfl⟩
    have HLK := Lib.hid (And.intro hlen (And.intro hk hlt))
    rw [← hlen, ← hk] at hlt
    rw [← hlen] at c1 ha
    rw [← hk] at c2 d HM
    have ne1 : ((k : Int) == (len : Int)) = false := by simp; omega
    have hw1 : IntKind.i64.wrap ((k : Int) + 1) = (k : Int) + 1 := IntWalk.i64_in _ (by omega)
    have hw2 : IntKind.i64.wrap ((k : Int) + 1 - 1) = (k : Int) := by rw [IntWalk.i64_in _ (by omega)]; omega
    have lz : (k : Int) < (len : Int) := by omega
    have k0 : (0 : Int) ≤ (k : Int) := by omega
    clear h ho e1 hm hlen hk hh
    go_enter Tryd.func70, Tryd.ntmps70
    go_wp2_with fail
    go_quiet (fail)
    go_wp2_with fail
    go_quiet (fail)
    go_wp2_with fail
    go_ret2
    obtain ⟨_, hk2, hl2⟩ := HLK.out
    subst hk2
    exact Or.inr ⟨hl2, by rw [← HMM.out]; rfl, _, (HM.out _ _).1, (HM.out _ _).2, rfl⟩
  · have he : σ.head = σ.asg.length := by omega
    obtain ⟨a, c, e1, _, _⟩ := own_form (h .asg)
    rw [e1, ← he] at c1
    have HE := Lib.hid he
    obtain ⟨k, hk⟩ : ∃ k, k = σ.head := ⟨_, rfl⟩
    rw [← hk] at c1 c2
    clear hk
    have ne1 : ((k : Int) == (k : Int)) = true := by simp
    clear h e1 he hh ha hlt z2
    go_enter Tryd.func70, Tryd.ntmps70
    go_wp2_with fail
    go_quiet (fail)
    go_wp2_with fail
    go_ret2
    exact Or.inl ⟨HE.out, rfl, _, rfl⟩
end Go.Proofs.YthpamogomfleoaaDoor.Rc
