/- Contract of undo. -/
import Derived.Test.YthpamogomfleoaaDoorRcInv
import Derived.Deep.RegionWith
import Derived.Defers
import Derived.Test.YthpamogomfleoaaDoorRcPgN
import Derived.Test.YthpamogomfleoaaDoorUpPlain
namespace Go.Proofs.YthpamogomfleoaaDoor.Rc
open Go Go.RowKit Go.Lib

/-- Those of xs are no longer true. -/
def unv (f : Int → Bool) (xs : List Int) : Int → Bool := fun n => if n ∈ xs then false else f n
def unr (f : Int → Int) (xs : List Int) : Int → Int := fun n => if n ∈ xs then -1 else f n
theorem unv_snoc (f : Int → Bool) (xs : List Int) (x : Int) : updI (unv f xs) x false = unv f (xs ++ [x]) := by
  funext k; unfold updI unv
  by_cases e : k = x
  · subst e; simp
  · simp [e]
theorem unr_snoc (f : Int → Int) (xs : List Int) (x : Int) : updI (unr f xs) x (-1) = unr f (xs ++ [x]) := by
  funext k; unfold updI unr
  by_cases e : k = x
  · subst e; simp
  · simp [e]
theorem unv_nil (f : Int → Bool) : unv f [] = f := by funext k; simp [unv]
theorem unr_nil (f : Int → Int) : unr f [] = f := by funext k; simp [unr]
/-- The first k literals alone are kept. -/
def St.cut (σ : St) (k : Nat) : St := { σ with asg := σ.asg.take k, head := k, val := unv σ.val (σ.asg.drop k), rsn := unr σ.rsn (σ.asg.drop k) }
def sUn : Role → Bool | .asg => true | .chk => true | .hol => true | .rsn => true | _ => false

/-- What undo answers. -/
def UnE (w : World) (Y : Lay) (σ : St) (k : Nat) (x : Option Int) (e : Ending) (w' : World) : Prop :=
  e = .returned (.tuple #[]) ∧ ∃ Y', Mem w' Y' (σ.cut k) x ∧ Nxt sUn w Y w' Y' ∧ Y'.litV = Y.litV

theorem undo_end {w wr : World} {Y : Lay} {σ : St} {x : Option Int} {k : Nat} {v : Value} (hm : Mem wr Y { σ with val := unv σ.val (σ.asg.drop k), rsn := unr σ.rsn (σ.asg.drop k) } x) (F : Frm Y.ρ sUn w wr) (hk : k ≤ σ.asg.length)
    (hv : (v = Y.hd 1 ∧ k = σ.asg.length) ∨ ∃ g cap, Y.hd 1 = .slice (some ⟨g, 0, none⟩) σ.asg.length cap ∧ v = .slice (some ⟨g, 0, none⟩) k cap) :
    UnE w Y σ k x (.returned (.tuple #[])) ((wr.setCell ⟨Y.s, 1, none⟩ v).setCell ⟨Y.s, 2, none⟩ (.int .i64 (k : Int))) := by
  have h1 := hm.cutAsg (k := k) (v := v) hk hv
  have h2 := h1.setHead k
  exact ⟨rfl, _, h2, ⟨(F.set (fun hlt => by rw [(hm .chk).2.1]; rfl) _).set (fun hlt => by rw [(hm .chk).2.1]; rfl) _, rfl, fun _ _ => rfl⟩, rfl⟩

set_option maxRecDepth 100000 in
set_option maxHeartbeats 4000000 in
theorem undo_all {w : World} {Y : Lay} {σ : St} {x : Option Int} (h : Mem w Y σ x) (k : Nat) (hk : k = σ.asg.length) (hl : σ.asg.length ≤ 100000000) :
    Calls Tryd.prog 42 #[.pointer (some ⟨Y.s, 0, none⟩), .int .i64 (k : Int)] w (UnE w Y σ k x) := by
  have c1 := h.cell 1 (by omega)
  have f1 := h.free 1
  have f2 := h.free 2
  have c2 := h.cell 2 (by omega)
  have ho : OwnR w Y.ρ .asg 3 1 (Y.hd 1) σ.asg.length (σ.asg.map encL) := h .asg
  have hd0 : σ.asg.drop k = [] := by rw [hk]; exact List.drop_length
  have HM : Hid (Mem w Y { σ with val := unv σ.val (σ.asg.drop k), rsn := unr σ.rsn (σ.asg.drop k) } x) := by rw [hd0, unv_nil, unr_nil]; exact h
  have hz : (0 : Int) ≤ (k : Int) := by omega
  have h00 : decide ((0 : Int) < (0 : Int)) = false := by decide
  have HK := Lib.hid hk
  have hform : (Y.hd 1 = .slice none 0 0 ∧ k = 0) ∨ ∃ g c, Y.hd 1 = .slice (some ⟨g, 0, none⟩) k c ∧ k ≤ c := by
    rcases ho.1.2 with ⟨e, e0⟩ | ⟨g, cap, cur, e, _, _, h1, _⟩
    · exact Or.inl ⟨e, by omega⟩
    · exact Or.inr ⟨g, cap, by rw [e, hk], by omega⟩
  clear h ho hd0 hk
  rcases hform with ⟨e1, rfl⟩ | ⟨g, c, e1, hc⟩
  · rw [e1] at c1
    go_enter Tryd.func42, Tryd.ntmps42
    go_wp2_with fail
    go_loopw [13] (fun iv wr => iv = .int .i64 0 ∧ wr = w) (fun _ _ => 0)
    case atStart => exact ⟨rfl, rfl⟩
    case round =>
      obtain ⟨rfl, rfl⟩ := hrel
      go_wp2_with fail
      go_end0
      exact undo_end HM.out (Frm.refl _ _ _) (by rw [← HK.out]; exact Nat.zero_le _) (Or.inl ⟨e1.symm, HK.out⟩)
  · rw [e1] at c1
    have hcz : (k : Int) ≤ (c : Int) := by omega
    by_cases hck : c = k
    · subst hck
      go_enter Tryd.func42, Tryd.ntmps42
      go_wp2_with fail
      go_loopw [13] (fun iv wr => iv = .int .i64 0 ∧ wr = w) (fun _ _ => 0)
      case atStart => exact ⟨rfl, rfl⟩
      case round =>
        obtain ⟨rfl, rfl⟩ := hrel
        go_wp2_with fail
        go_end0
        exact undo_end HM.out (Frm.refl _ _ _) (by rw [← HK.out]; exact Nat.le_refl _) (Or.inl ⟨e1.symm, HK.out⟩)
    · have hck2 : (c = k) = False := eq_false hck
      have hck3 : ¬ c = k := hck
      go_enter Tryd.func42, Tryd.ntmps42
      go_wp2_with fail
      go_loopw [13] (fun iv wr => iv = .int .i64 0 ∧ wr = w) (fun _ _ => 0)
      case atStart => exact ⟨rfl, rfl⟩
      case round =>
        obtain ⟨rfl, rfl⟩ := hrel
        go_wp2_with fail
        go_end0
        exact undo_end HM.out (Frm.refl _ _ _) (by rw [← HK.out]; exact Nat.le_refl _) (Or.inl ⟨e1.symm, HK.out⟩)

set_option maxRecDepth 100000 in
set_option maxHeartbeats 4000000 in
theorem undo_some {w : World} {Y : Lay} {σ : St} {x : Option Int} (h : Mem w Y σ x) (hL : ∀ l ∈ σ.asg, Lt σ.V l) (k : Nat) (hk : k < σ.asg.length) (hl : σ.asg.length ≤ 100000000) :
    Calls Tryd.prog 42 #[.pointer (some ⟨Y.s, 0, none⟩), .int .i64 (k : Int)] w (UnE w Y σ k x) := by
  have hV := h.nle
  have c1 := h.cell 1 (by omega)
  obtain ⟨g, c, e1, hc1, hc2, hg1, hg2⟩ := own_form1 (h .asg) (by omega)
  have ho : OwnR w Y.ρ .asg 3 1 (Y.hd 1) σ.asg.length (σ.asg.map encL) := h .asg
  rw [e1] at ho c1
  obtain ⟨n, hn⟩ : ∃ n, n = σ.asg.length := ⟨_, rfl⟩
  have HM : Hid (Mem w Y { σ with val := unv σ.val ((σ.asg.drop k).take 0), rsn := unr σ.rsn ((σ.asg.drop k).take 0) } x) := by rw [List.take_zero, unv_nil, unr_nil]; exact h
  have HO := Lib.hid ho
  have HG := Lib.hid (And.intro e1 (And.intro hg1 hg2))
  have HL := Lib.hid hL
  have HN := Lib.hid hn
  have HV := Lib.hid hV
  rw [← hn] at c1 hc1 hk hl
  have hz : (0 : Int) ≤ (k : Int) := by omega
  have hcz : (k : Int) ≤ (c : Int) := by omega
  have hnz : (k : Int) ≤ (n : Int) := by omega
  have hck2 : (c = k) = False := eq_false (by omega)
  clear h ho e1 hL hn hg1 hg2 hV
  go_enter Tryd.func42, Tryd.ntmps42
  go_wp2_with fail
  go_loopw [13] (fun iv wr => ∃ j : Nat, iv = .int .i64 (j : Int) ∧ j ≤ n - k ∧ Hid (Mem wr Y { σ with val := unv σ.val ((σ.asg.drop k).take j), rsn := unr σ.rsn ((σ.asg.drop k).take j) } x ∧ Frm Y.ρ sUn w wr)) (fun iv _ => n - k - (intOf iv).toNat)
  case atStart => exact ⟨0, rfl, Nat.zero_le _, HM.out, Frm.refl _ _ _⟩
  case round =>
    obtain ⟨j, rfl, hj, HJ⟩ := hrel
    by_cases hlt : j < n - k
    · obtain ⟨l, hl0⟩ : ∃ l, l = σ.asg[k + j]! := ⟨_, rfl⟩
      have hjn : k + j < σ.asg.length := by rw [← HN.out]; omega
      have hlL : Lt σ.V l := by rw [hl0]; exact HL.out _ (mem! hjn)
      have htk : (σ.asg.drop k).take (j + 1) = (σ.asg.drop k).take j ++ [l] := by
        rw [List.take_add_one, List.getElem?_drop, List.getElem?_eq_getElem hjn, hl0, getElem!_pos σ.asg (k + j) hjn]; rfl
      have d : wr.cell? ⟨g, k + j, none⟩ = some (.int .i64 l) := by
        have ho : OwnR wr Y.ρ .asg 3 1 (Y.hd 1) σ.asg.length (σ.asg.map encL) := HJ.out.1 .asg
        rw [HG.out.1] at ho
        have := ho.cellM hjn
        rw [← hl0] at this
        exact this
      have hjz : (j : Int) < ((n - k : Nat) : Int) := by omega
      have hj0 : (0 : Int) ≤ (j : Int) := by omega
      have c3 := HJ.out.1.cell 3 (by omega)
      obtain ⟨b, e3, r3, p3⟩ := HJ.out.1 .hol
      have cl := r3.cell (i := ix σ.V l) (ix_lt hlL.in')
      have zf := r3.free (ix σ.V l)
      rw [e3] at c3
      change wr.cell? ⟨Y.s, 3, none⟩ = some (.slice (some ⟨b, 0, none⟩) (2 * σ.V + 1) (2 * σ.V + 1)) at c3
      have HI : Hid (∀ q, Calls Tryd.prog 68 #[.pointer (some ⟨Y.s, 0, none⟩), .int .i64 l] (wr.drewN q) fun e w' => e = .returned (.int .i64 (ix σ.V l : Int)) ∧ wr.drewN q = w') := fun q => index_cell HJ.out.1.vars HV.out hlL.in'
      have HM1 : Hid (∀ q, Mem ((wr.drewN q).setCell ⟨b, ix σ.V l, none⟩ (.bool false)) Y { σ with val := unv σ.val ((σ.asg.drop k).take (j + 1)), rsn := unr σ.rsn ((σ.asg.drop k).take j) } x ∧ Frm Y.ρ sUn w ((wr.drewN q).setCell ⟨b, ix σ.V l, none⟩ (.bool false))) := fun q => by
        refine ⟨?_, (HJ.out.2.drewN q).set (fun _ => by rw [p3]; rfl) _⟩
        have := (HJ.out.1.drewN q).setVal e3 p3 hlL.in' false
        rw [htk, ← unv_snoc]
        exact this
      have nB : Y.s ≠ b := fun e => by have := HJ.out.1.srole; rw [e, p3] at this; cases this
      have nB' : b ≠ Y.s := fun e => nB e.symm
      have lb : (ix σ.V l : Int) < 2 * (σ.V : Int) + 1 := by have := ix_lt hlL.in'; omega
      have l0 : (0 : Int) ≤ (ix σ.V l : Int) := by omega
      have HLL := Lib.hid hlL
      have HTK := Lib.hid htk
      clear hl0 hjn hlL htk r3 e3
      go_wp2_with fail
      go_region_held3 (fun w' => w'.cell? ⟨Y.s, 3, none⟩ = some (.slice (some ⟨b, 0, none⟩) (2 * σ.V + 1) (2 * σ.V + 1))) (go_keep) (first | (go_at_call 68; refine (HI.out _).mono ?_; rintro e w' ⟨rfl, rfl⟩))
      have HM2 := Lib.hid (HM1.out 1)
      clear HM1 HI cl zf nB nB' c3 d p3
      generalize (wr.drewN 1).setCell ⟨b, ix σ.V l, none⟩ (.bool false) = W1 at *
      have c4 := HM2.out.1.cell 4 (by omega)
      obtain ⟨b4, e4, r4, p4⟩ := HM2.out.1 .rsn
      have cl := r4.cell (i := ix σ.V l) (ix_lt HLL.out.in')
      have zf := r4.free (ix σ.V l)
      rw [e4] at c4
      change W1.cell? ⟨Y.s, 4, none⟩ = some (.slice (some ⟨b4, 0, none⟩) (2 * σ.V + 1) (2 * σ.V + 1)) at c4
      have HI : Hid (∀ q, Calls Tryd.prog 68 #[.pointer (some ⟨Y.s, 0, none⟩), .int .i64 l] (W1.drewN q) fun e w' => e = .returned (.int .i64 (ix σ.V l : Int)) ∧ W1.drewN q = w') := fun q => index_cell HM2.out.1.vars HV.out HLL.out.in'
      have HM3 : Hid (∀ q, Mem ((W1.drewN q).setCell ⟨b4, ix σ.V l, none⟩ (.int .i64 (-1))) Y { σ with val := unv σ.val ((σ.asg.drop k).take (j + 1)), rsn := unr σ.rsn ((σ.asg.drop k).take (j + 1)) } x ∧ Frm Y.ρ sUn w ((W1.drewN q).setCell ⟨b4, ix σ.V l, none⟩ (.int .i64 (-1)))) := fun q => by
        refine ⟨?_, (HM2.out.2.drewN q).set (fun _ => by rw [p4]; rfl) _⟩
        have := (HM2.out.1.drewN q).setRsn e4 p4 HLL.out.in' (-1)
        have e := unr_snoc σ.rsn ((σ.asg.drop k).take j) l
        rw [← HTK.out] at e
        rw [← e]
        exact this
      have nB : Y.s ≠ b4 := fun e => by have := HM2.out.1.srole; rw [e, p4] at this; cases this
      have nB' : b4 ≠ Y.s := fun e => nB e.symm
      unfold encL at cl
      clear r4 e4
      go_wp2_with fail
      go_region_held3 (fun w' => w'.cell? ⟨Y.s, 4, none⟩ = some (.slice (some ⟨b4, 0, none⟩) (2 * σ.V + 1) (2 * σ.V + 1))) (go_keep) (first | (go_at_call 68; refine (HI.out _).mono ?_; rintro e w' ⟨rfl, rfl⟩))
      go_wp2_with fail
      go_roundw
      case rel => exact ⟨j + 1, by go_num, by omega, HM3.out _⟩
      case measure => simp [intOf]; omega
    · have hjk : j = n - k := by omega
      have hdk : (σ.asg.drop k).take j = σ.asg.drop k := List.take_of_length_le (by rw [List.length_drop, ← HN.out]; omega)
      have hz1 : ¬ (j : Int) < ((n - k : Nat) : Int) := by omega
      have c1' : wr.cell? ⟨Y.s, 1, none⟩ = some (.slice (some ⟨g, 0, none⟩) n c) := by
        rw [HJ.out.1.cell 1 (by omega), HG.out.1, HN.out]
      have c2' := HJ.out.1.cell 2 (by omega)
      have f1 := HJ.out.1.free 1
      have f2 := HJ.out.1.free 2
      have HJ2 : Hid (Mem wr Y { σ with val := unv σ.val (σ.asg.drop k), rsn := unr σ.rsn (σ.asg.drop k) } x ∧ Frm Y.ρ sUn w wr) := by
        have := HJ.out; rw [hdk] at this; exact this
      clear HJ hdk
      go_wp2_with fail
      go_end0
      exact undo_end HJ2.out.1 HJ2.out.2 (by rw [← HN.out]; omega) (Or.inr ⟨g, c, HG.out.1, rfl⟩)

/-- Undo, whatever it keeps. -/
theorem undo_any {w : World} {Y : Lay} {σ : St} {x : Option Int} (h : Mem w Y σ x) (hL : ∀ l ∈ σ.asg, Lt σ.V l) (k : Nat) (hk : k ≤ σ.asg.length) (hl : σ.asg.length ≤ 100000000) :
    Calls Tryd.prog 42 #[.pointer (some ⟨Y.s, 0, none⟩), .int .i64 (k : Int)] w (UnE w Y σ k x) := by
  rcases Nat.lt_or_ge k σ.asg.length with q | q
  · exact undo_some h hL k q hl
  · exact undo_all h k (by omega) hl
end Go.Proofs.YthpamogomfleoaaDoor.Rc
/- Contract of undo as a deferred call. -/
namespace Go.Proofs.YthpamogomfleoaaDoor.Rc
open Go Go.RowKit Go.Lib

set_option maxRecDepth 100000 in
set_option maxHeartbeats 4000000 in
theorem undo_all_d (u : FrameMode) {w : World} {Y : Lay} {σ : St} {x : Option Int} (h : Mem w Y σ x) (k : Nat) (hk : k = σ.asg.length) (hl : σ.asg.length ≤ 100000000) :
    CallsD Tryd.prog 42 #[.pointer (some ⟨Y.s, 0, none⟩), .int .i64 (k : Int)] u w fun e u' w' => u' = u ∧ UnE w Y σ k x e w' := by
  have c1 := h.cell 1 (by omega)
  have f1 := h.free 1
  have f2 := h.free 2
  have c2 := h.cell 2 (by omega)
  have ho : OwnR w Y.ρ .asg 3 1 (Y.hd 1) σ.asg.length (σ.asg.map encL) := h .asg
  have hd0 : σ.asg.drop k = [] := by rw [hk]; exact List.drop_length
  have HM : Hid (Mem w Y { σ with val := unv σ.val (σ.asg.drop k), rsn := unr σ.rsn (σ.asg.drop k) } x) := by rw [hd0, unv_nil, unr_nil]; exact h
  have hz : (0 : Int) ≤ (k : Int) := by omega
  have h00 : decide ((0 : Int) < (0 : Int)) = false := by decide
  have HK := Lib.hid hk
  have hform : (Y.hd 1 = .slice none 0 0 ∧ k = 0) ∨ ∃ g c, Y.hd 1 = .slice (some ⟨g, 0, none⟩) k c ∧ k ≤ c := by
    rcases ho.1.2 with ⟨e, e0⟩ | ⟨g, cap, cur, e, _, _, h1, _⟩
    · exact Or.inl ⟨e, by omega⟩
    · exact Or.inr ⟨g, cap, by rw [e, hk], by omega⟩
  clear h ho hd0 hk
  rcases hform with ⟨e1, rfl⟩ | ⟨g, c, e1, hc⟩
  · rw [e1] at c1
    go_enter_d Tryd.func42, Tryd.ntmps42
    go_wp2_with fail
    go_loopw [13] (fun iv wr => iv = .int .i64 0 ∧ wr = w) (fun _ _ => 0)
    case atStart => exact ⟨rfl, rfl⟩
    case round =>
      obtain ⟨rfl, rfl⟩ := hrel
      go_wp2_with fail
      go_end0
      exact undo_end HM.out (Frm.refl _ _ _) (by rw [← HK.out]; exact Nat.zero_le _) (Or.inl ⟨e1.symm, HK.out⟩)
  · rw [e1] at c1
    have hcz : (k : Int) ≤ (c : Int) := by omega
    by_cases hck : c = k
    · subst hck
      go_enter_d Tryd.func42, Tryd.ntmps42
      go_wp2_with fail
      go_loopw [13] (fun iv wr => iv = .int .i64 0 ∧ wr = w) (fun _ _ => 0)
      case atStart => exact ⟨rfl, rfl⟩
      case round =>
        obtain ⟨rfl, rfl⟩ := hrel
        go_wp2_with fail
        go_end0
        exact undo_end HM.out (Frm.refl _ _ _) (by rw [← HK.out]; exact Nat.le_refl _) (Or.inl ⟨e1.symm, HK.out⟩)
    · have hck2 : (c = k) = False := eq_false hck
      have hck3 : ¬ c = k := hck
      go_enter_d Tryd.func42, Tryd.ntmps42
      go_wp2_with fail
      go_loopw [13] (fun iv wr => iv = .int .i64 0 ∧ wr = w) (fun _ _ => 0)
      case atStart => exact ⟨rfl, rfl⟩
      case round =>
        obtain ⟨rfl, rfl⟩ := hrel
        go_wp2_with fail
        go_end0
        exact undo_end HM.out (Frm.refl _ _ _) (by rw [← HK.out]; exact Nat.le_refl _) (Or.inl ⟨e1.symm, HK.out⟩)

set_option maxRecDepth 100000 in
set_option maxHeartbeats 4000000 in
theorem undo_some_d (u : FrameMode) {w : World} {Y : Lay} {σ : St} {x : Option Int} (h : Mem w Y σ x) (hL : ∀ l ∈ σ.asg, Lt σ.V l) (k : Nat) (hk : k < σ.asg.length) (hl : σ.asg.length ≤ 100000000) :
    CallsD Tryd.prog 42 #[.pointer (some ⟨Y.s, 0, none⟩), .int .i64 (k : Int)] u w fun e u' w' => u' = u ∧ UnE w Y σ k x e w' := by
  have hV := h.nle
  have c1 := h.cell 1 (by omega)
  obtain ⟨g, c, e1, hc1, hc2, hg1, hg2⟩ := own_form1 (h .asg) (by omega)
  have ho : OwnR w Y.ρ .asg 3 1 (Y.hd 1) σ.asg.length (σ.asg.map encL) := h .asg
  rw [e1] at ho c1
  obtain ⟨n, hn⟩ : ∃ n, n = σ.asg.length := ⟨_, rfl⟩
  have HM : Hid (Mem w Y { σ with val := unv σ.val ((σ.asg.drop k).take 0), rsn := unr σ.rsn ((σ.asg.drop k).take 0) } x) := by rw [List.take_zero, unv_nil, unr_nil]; exact h
  have HO := Lib.hid ho
  have HG := Lib.hid (And.intro e1 (And.intro hg1 hg2))
  have HL := Lib.hid hL
  have HN := Lib.hid hn
  have HV := Lib.hid hV
  rw [← hn] at c1 hc1 hk hl
  have hz : (0 : Int) ≤ (k : Int) := by omega
  have hcz : (k : Int) ≤ (c : Int) := by omega
  have hnz : (k : Int) ≤ (n : Int) := by omega
  have hck2 : (c = k) = False := eq_false (by omega)
  clear h ho e1 hL hn hg1 hg2 hV
  go_enter_d Tryd.func42, Tryd.ntmps42
  go_wp2_with fail
  go_loopw [13] (fun iv wr => ∃ j : Nat, iv = .int .i64 (j : Int) ∧ j ≤ n - k ∧ Hid (Mem wr Y { σ with val := unv σ.val ((σ.asg.drop k).take j), rsn := unr σ.rsn ((σ.asg.drop k).take j) } x ∧ Frm Y.ρ sUn w wr)) (fun iv _ => n - k - (intOf iv).toNat)
  case atStart => exact ⟨0, rfl, Nat.zero_le _, HM.out, Frm.refl _ _ _⟩
  case round =>
    obtain ⟨j, rfl, hj, HJ⟩ := hrel
    by_cases hlt : j < n - k
    · obtain ⟨l, hl0⟩ : ∃ l, l = σ.asg[k + j]! := ⟨_, rfl⟩
      have hjn : k + j < σ.asg.length := by rw [← HN.out]; omega
      have hlL : Lt σ.V l := by rw [hl0]; exact HL.out _ (mem! hjn)
      have htk : (σ.asg.drop k).take (j + 1) = (σ.asg.drop k).take j ++ [l] := by
        rw [List.take_add_one, List.getElem?_drop, List.getElem?_eq_getElem hjn, hl0, getElem!_pos σ.asg (k + j) hjn]; rfl
      have d : wr.cell? ⟨g, k + j, none⟩ = some (.int .i64 l) := by
        have ho : OwnR wr Y.ρ .asg 3 1 (Y.hd 1) σ.asg.length (σ.asg.map encL) := HJ.out.1 .asg
        rw [HG.out.1] at ho
        have := ho.cellM hjn
        rw [← hl0] at this
        exact this
      have hjz : (j : Int) < ((n - k : Nat) : Int) := by omega
      have hj0 : (0 : Int) ≤ (j : Int) := by omega
      have c3 := HJ.out.1.cell 3 (by omega)
      obtain ⟨b, e3, r3, p3⟩ := HJ.out.1 .hol
      have cl := r3.cell (i := ix σ.V l) (ix_lt hlL.in')
      have zf := r3.free (ix σ.V l)
      rw [e3] at c3
      change wr.cell? ⟨Y.s, 3, none⟩ = some (.slice (some ⟨b, 0, none⟩) (2 * σ.V + 1) (2 * σ.V + 1)) at c3
      have HI : Hid (∀ q, Calls Tryd.prog 68 #[.pointer (some ⟨Y.s, 0, none⟩), .int .i64 l] (wr.drewN q) fun e w' => e = .returned (.int .i64 (ix σ.V l : Int)) ∧ wr.drewN q = w') := fun q => index_cell HJ.out.1.vars HV.out hlL.in'
      have HM1 : Hid (∀ q, Mem ((wr.drewN q).setCell ⟨b, ix σ.V l, none⟩ (.bool false)) Y { σ with val := unv σ.val ((σ.asg.drop k).take (j + 1)), rsn := unr σ.rsn ((σ.asg.drop k).take j) } x ∧ Frm Y.ρ sUn w ((wr.drewN q).setCell ⟨b, ix σ.V l, none⟩ (.bool false))) := fun q => by
        refine ⟨?_, (HJ.out.2.drewN q).set (fun _ => by rw [p3]; rfl) _⟩
        have := (HJ.out.1.drewN q).setVal e3 p3 hlL.in' false
        rw [htk, ← unv_snoc]
        exact this
      have nB : Y.s ≠ b := fun e => by have := HJ.out.1.srole; rw [e, p3] at this; cases this
      have nB' : b ≠ Y.s := fun e => nB e.symm
      have lb : (ix σ.V l : Int) < 2 * (σ.V : Int) + 1 := by have := ix_lt hlL.in'; omega
      have l0 : (0 : Int) ≤ (ix σ.V l : Int) := by omega
      have HLL := Lib.hid hlL
      have HTK := Lib.hid htk
      clear hl0 hjn hlL htk r3 e3
      go_wp2_with fail
      go_region_held3 (fun w' => w'.cell? ⟨Y.s, 3, none⟩ = some (.slice (some ⟨b, 0, none⟩) (2 * σ.V + 1) (2 * σ.V + 1))) (go_keep) (first | (go_at_call 68; refine (HI.out _).mono ?_; rintro e w' ⟨rfl, rfl⟩))
      have HM2 := Lib.hid (HM1.out 1)
      clear HM1 HI cl zf nB nB' c3 d p3
      generalize (wr.drewN 1).setCell ⟨b, ix σ.V l, none⟩ (.bool false) = W1 at *
      have c4 := HM2.out.1.cell 4 (by omega)
      obtain ⟨b4, e4, r4, p4⟩ := HM2.out.1 .rsn
      have cl := r4.cell (i := ix σ.V l) (ix_lt HLL.out.in')
      have zf := r4.free (ix σ.V l)
      rw [e4] at c4
      change W1.cell? ⟨Y.s, 4, none⟩ = some (.slice (some ⟨b4, 0, none⟩) (2 * σ.V + 1) (2 * σ.V + 1)) at c4
      have HI : Hid (∀ q, Calls Tryd.prog 68 #[.pointer (some ⟨Y.s, 0, none⟩), .int .i64 l] (W1.drewN q) fun e w' => e = .returned (.int .i64 (ix σ.V l : Int)) ∧ W1.drewN q = w') := fun q => index_cell HM2.out.1.vars HV.out HLL.out.in'
      have HM3 : Hid (∀ q, Mem ((W1.drewN q).setCell ⟨b4, ix σ.V l, none⟩ (.int .i64 (-1))) Y { σ with val := unv σ.val ((σ.asg.drop k).take (j + 1)), rsn := unr σ.rsn ((σ.asg.drop k).take (j + 1)) } x ∧ Frm Y.ρ sUn w ((W1.drewN q).setCell ⟨b4, ix σ.V l, none⟩ (.int .i64 (-1)))) := fun q => by
        refine ⟨?_, (HM2.out.2.drewN q).set (fun _ => by rw [p4]; rfl) _⟩
        have := (HM2.out.1.drewN q).setRsn e4 p4 HLL.out.in' (-1)
        have e := unr_snoc σ.rsn ((σ.asg.drop k).take j) l
        rw [← HTK.out] at e
        rw [← e]
        exact this
      have nB : Y.s ≠ b4 := fun e => by have := HM2.out.1.srole; rw [e, p4] at this; cases this
      have nB' : b4 ≠ Y.s := fun e => nB e.symm
      unfold encL at cl
      clear r4 e4
      go_wp2_with fail
      go_region_held3 (fun w' => w'.cell? ⟨Y.s, 4, none⟩ = some (.slice (some ⟨b4, 0, none⟩) (2 * σ.V + 1) (2 * σ.V + 1))) (go_keep) (first | (go_at_call 68; refine (HI.out _).mono ?_; rintro e w' ⟨rfl, rfl⟩))
      go_wp2_with fail
      go_roundw
      case rel => exact ⟨j + 1, by go_num, by omega, HM3.out _⟩
      case measure => simp [intOf]; omega
    · have hjk : j = n - k := by omega
      have hdk : (σ.asg.drop k).take j = σ.asg.drop k := List.take_of_length_le (by rw [List.length_drop, ← HN.out]; omega)
      have hz1 : ¬ (j : Int) < ((n - k : Nat) : Int) := by omega
      have c1' : wr.cell? ⟨Y.s, 1, none⟩ = some (.slice (some ⟨g, 0, none⟩) n c) := by
        rw [HJ.out.1.cell 1 (by omega), HG.out.1, HN.out]
      have c2' := HJ.out.1.cell 2 (by omega)
      have f1 := HJ.out.1.free 1
      have f2 := HJ.out.1.free 2
      have HJ2 : Hid (Mem wr Y { σ with val := unv σ.val (σ.asg.drop k), rsn := unr σ.rsn (σ.asg.drop k) } x ∧ Frm Y.ρ sUn w wr) := by
        have := HJ.out; rw [hdk] at this; exact this
      clear HJ hdk
      go_wp2_with fail
      go_end0
      exact undo_end HJ2.out.1 HJ2.out.2 (by rw [← HN.out]; omega) (Or.inr ⟨g, c, HG.out.1, rfl⟩)

/-- Undo, whatever it keeps. -/
theorem undo_any_d (u : FrameMode) {w : World} {Y : Lay} {σ : St} {x : Option Int} (h : Mem w Y σ x) (hL : ∀ l ∈ σ.asg, Lt σ.V l) (k : Nat) (hk : k ≤ σ.asg.length) (hl : σ.asg.length ≤ 100000000) :
    CallsD Tryd.prog 42 #[.pointer (some ⟨Y.s, 0, none⟩), .int .i64 (k : Int)] u w fun e u' w' => u' = u ∧ UnE w Y σ k x e w' := by
  rcases Nat.lt_or_ge k σ.asg.length with q | q
  · exact undo_some_d u h hL k q hl
  · exact undo_all_d u h k (by omega) hl
end Go.Proofs.YthpamogomfleoaaDoor.Rc
/- What a checker knows between its calls, and what follows from it (no memory). -/
namespace Go.Proofs.YthpamogomfleoaaDoor.Rc
open Go Go.RowKit Go.Lib Go.Proofs.YthpamogomfleoaaDoor.Up

/-- What always holds between calls; the clauses of E have not been applied. -/
structure Base (σ : St) (E : Nat → Prop) : Prop where
  t : Trl σ
  c : Cls σ
  w : Wts σ σ.wat
  r : σ.stale = false → Rsn σ none []
  cf : σ.conf ≠ -1 → ∃ p : Nat, σ.conf = (p : Int) ∧ p < σ.N ∧ (σ.stale = false → σ.cps p ≠ 0 ∧ ∀ m ∈ σ.lits p, -m ∈ σ.asg)
  h : σ.conf = -1 → Wch σ none (fun q _ => E q) ∧ σ.head = σ.asg.length
  sh1 : ∀ p ∈ σ.sh, p < σ.N ∧ (σ.lits p).length < 2
  sh2 : ∀ p, p < σ.N → σ.cps p ≠ 0 → (σ.lits p).length < 2 → p ∈ σ.sh
  sh3 : σ.sh.Nodup
  un : σ.conf = -1 → ∀ p, p < σ.N → σ.cps p ≠ 0 → (σ.lits p).length < 2 → ¬ E p → ∃ o ∈ σ.lits p, o ∈ σ.asg
/-- Those that are not false come first. -/
def Front (σ : St) (ls : List Int) : Prop := ∀ i j, i < j → j < ls.length → -ls[j]! ∉ σ.asg → -ls[i]! ∉ σ.asg
/-- The same clauses. -/
structure Same (σ σ' : St) : Prop where
  V : σ'.V = σ.V
  N : σ'.N = σ.N
  cps : σ'.cps = σ.cps
  plc : σ'.plc = σ.plc
  sh : σ'.sh = σ.sh
  stale : σ'.stale = σ.stale
  lits : ∀ q, (σ'.lits q).Perm (σ.lits q)
theorem Same.refl (σ : St) : Same σ σ := ⟨rfl, rfl, rfl, rfl, rfl, rfl, fun _ => .refl _⟩
theorem Same.trans {a b c : St} (h : Same a b) (k : Same b c) : Same a c := ⟨k.V.trans h.V, k.N.trans h.N, k.cps.trans h.cps, k.plc.trans h.plc, k.sh.trans h.sh, k.stale.trans h.stale, fun q => (k.lits q).trans (h.lits q)⟩
theorem Kept.same {a b : St} (h : Kept a b) : Same a b := ⟨h.V, h.N, h.cps, h.plc, h.sh, h.stale, h.lits⟩

section
variable {σ : St} {E : Nat → Prop} {p : Nat}
theorem Base.inv (h : Base σ E) (hc : σ.conf = -1) : Inv σ σ.wat none [] (fun q _ => E q) := ⟨h.t, h.c, h.w, (h.h hc).1, h.r, fun k hk => by cases hk⟩
theorem Base.skip (h : Base σ (fun q => E q ∨ q = p)) (hc : σ.conf ≠ -1) : Base σ E := ⟨h.t, h.c, h.w, h.r, h.cf, fun e => absurd e hc, h.sh1, h.sh2, h.sh3, fun e => absurd e hc⟩
theorem Base.bad (h : Base σ (fun q => E q ∨ q = p)) (hp : p < σ.N) (hc : σ.cps p ≠ 0) (hf : ∀ m ∈ σ.lits p, -m ∈ σ.asg) : Base { σ with conf := (p : Int) } E :=
  ⟨⟨h.t.lt, h.t.nd, h.t.val, h.t.con, h.t.head⟩, ⟨h.c.nd, h.c.lt, h.c.len⟩, ⟨h.w.entr, h.w.has, h.w.uniq⟩, h.r, fun _ => ⟨p, rfl, hp, fun _ => ⟨hc, hf⟩⟩, fun e => by have e : (p : Int) = -1 := e; omega, h.sh1, h.sh2, h.sh3, fun e => by have e : (p : Int) = -1 := e; omega⟩
/-- One that has a true literal in front, or two in front that are not false, need nothing more. -/
theorem Base.fine (h : Base σ (fun q => E q ∨ q = p)) (hl : 0 < (σ.lits p).length) (hf : (σ.lits p)[0]! ∈ σ.asg ∨ (2 ≤ (σ.lits p).length ∧ -(σ.lits p)[0]! ∉ σ.asg ∧ -(σ.lits p)[1]! ∉ σ.asg)) : Base σ E := by
  refine ⟨h.t, h.c, h.w, h.r, h.cf, fun e => ⟨fun q hq hc m hw he hn => ?_, (h.h e).2⟩, h.sh1, h.sh2, h.sh3, fun e q hq hc hl2 he => ?_⟩
  · by_cases eq : q = p
    · subst eq
      have hn' := List.mem_of_mem_take hn
      rcases hf with hf | ⟨_, h0, h1⟩
      · exact ⟨_, mem! hl, hf, fun _ => hf⟩
      · rcases hw.2 with z | z
        · exact absurd hn' (by rw [z]; exact h0)
        · exact absurd hn' (by rw [z]; exact h1)
    · exact (h.h e).1 q hq hc m hw (fun z => z.elim he eq) hn
  · by_cases eq : q = p
    · subst eq
      rcases hf with hf | ⟨h2, _⟩
      · exact ⟨_, mem! hl, hf⟩
      · omega
    · exact h.un e q hq hc hl2 (fun z => z.elim he eq)
/-- What is left of it follows. -/
theorem Base.asn (h : Base σ (fun q => E q ∨ q = p)) (hE : ∀ q, E q → (σ.lits q).length < 2) (hcf : σ.conf = -1) (hp : p < σ.N) (hc : σ.cps p ≠ 0) (hl : 0 < (σ.lits p).length) (h1 : (σ.lits p)[0]! ∉ σ.asg) (h2 : -(σ.lits p)[0]! ∉ σ.asg)
    (hf : ∀ m ∈ σ.lits p, m ≠ (σ.lits p)[0]! → -m ∈ σ.asg) : Inv (σ.asn (σ.lits p)[0]! (p : Int)) σ.wat none [] (fun _ _ => False) := by
  have hi := (h.inv hcf).asn (h.c.lt p hp _ (mem! hl)) h1 h2 (fun _ => Or.inr ⟨p, rfl, hp, hc, hl, rfl, hf⟩)
  refine ⟨hi.t, hi.c, hi.w, fun q hq hcq m hw _ hn => ?_, hi.r, hi.b⟩
  by_cases eq : q = p
  · subst eq
    exact ⟨_, mem! hl, List.mem_append_right _ (List.mem_singleton.2 rfl), fun _ => List.mem_append_right _ (List.mem_singleton.2 rfl)⟩
  · by_cases hEq : E q
    · exact absurd hw.1 (by have := hE q hEq; show ¬ 2 ≤ (σ.lits q).length; omega)
    · exact hi.h q hq hcq m hw (fun z => z.elim hEq eq) hn
theorem Base.done (h : Base σ (fun q => E q ∨ q = p)) (hcf : σ.conf = -1) (hl : 0 < (σ.lits p).length) {σ' : St} {c : Int} (hP : PgEnd (σ.asn (σ.lits p)[0]! (p : Int)) σ' c none []) : Base { σ' with conf := c } E ∧ Same σ { σ' with conf := c } := by
  have hk := hP.kept
  have hS : Same σ { σ' with conf := c } := ⟨hk.V, hk.N, hk.cps, hk.plc, hk.sh, hk.stale, hk.lits⟩
  have hI : ∃ ex, Inv σ' σ'.wat none [] ex ∧ (c = -1 → ∀ q m, ex q m → False) := by
    by_cases e : c = -1
    · exact ⟨_, (hP.good e).1, fun _ q m z => z⟩
    · obtain ⟨_, n, _, _, _, _, hi, _⟩ := hP.bad e
      exact ⟨_, hi, fun z => absurd z e⟩
  obtain ⟨ex, hi, hex⟩ := hI
  have len : ∀ q, (σ'.lits q).length = (σ.lits q).length := fun q => (hk.lits q).length_eq
  refine ⟨⟨⟨hi.t.lt, hi.t.nd, hi.t.val, hi.t.con, hi.t.head⟩, ⟨hi.c.nd, hi.c.lt, hi.c.len⟩, ⟨hi.w.entr, hi.w.has, hi.w.uniq⟩, hi.r, fun e => ?_, fun e => ⟨fun q hq hcq m hw he hn => hi.h q hq hcq m hw (hex e q m) hn, (hP.good e).2⟩, fun q hq => ?_, fun q hq hcq hl2 => ?_, by show σ'.sh.Nodup; rw [hk.sh]; exact h.sh3, fun e q hq hcq hl2 he => ?_⟩, hS⟩
  · obtain ⟨q, n, q1, q2, q3, q4, _⟩ := hP.bad e
    exact ⟨q, q1, q2, fun _ => ⟨q3, q4⟩⟩
  · have hq : q ∈ σ'.sh := hq
    rw [hk.sh] at hq
    have := h.sh1 q hq
    exact ⟨by show q < σ'.N; rw [hk.N]; exact this.1, by show (σ'.lits q).length < 2; rw [len]; exact this.2⟩
  · show q ∈ σ'.sh
    rw [hk.sh]
    exact h.sh2 q (by have hq : q < σ'.N := hq; rw [hk.N] at hq; exact hq) (by have hcq : σ'.cps q ≠ 0 := hcq; rw [hk.cps] at hcq; exact hcq) (by have hl2 : (σ'.lits q).length < 2 := hl2; rw [len] at hl2; exact hl2)
  · have hq : q < σ'.N := hq
    have hcq : σ'.cps q ≠ 0 := hcq
    have hl2 : (σ'.lits q).length < 2 := hl2
    rw [hk.N] at hq; rw [hk.cps] at hcq; rw [len] at hl2
    have sub : ∀ o, o ∈ σ.asg ++ [(σ.lits p)[0]!] → o ∈ σ'.asg := fun o ho => hk.asg.subset ho
    by_cases eq : q = p
    · subst eq
      exact ⟨(σ.lits q)[0]!, ((hk.lits q).mem_iff).2 (mem! hl), sub _ (by simp)⟩
    · obtain ⟨o, o1, o2⟩ := h.un hcf q hq hcq hl2 (fun z => z.elim he eq)
      exact ⟨o, ((hk.lits q).mem_iff).2 o1, sub o (List.mem_append_left _ o2)⟩
end

/-! ### Assumptions, and back -/
theorem Inv.level {σ : St} (h : Inv σ σ.wat none [] (fun _ _ => False)) (_ : σ.head = σ.asg.length) (so : List Int) : Inv σ σ.wat (some σ.asg.length) so (fun _ _ => False) := by
  refine ⟨h.t, h.c, h.w, fun p hp hc m hw he hn => ?_, fun hs i l hi => ?_, fun k hk => by cases hk; exact Nat.le_refl _⟩
  · obtain ⟨o, o1, o2, _⟩ := h.h p hp hc m hw he hn
    exact ⟨o, o1, o2, fun _ => by show o ∈ σ.asg.take σ.asg.length; rw [List.take_length]; exact o2⟩
  · rcases h.r hs i l hi with q | q
    · exact absurd q.1 (by simp)
    · exact Or.inr q
theorem Inv.cut {σ : St} {k : Nat} {so : List Int} {ex : Nat → Int → Prop} (h : Inv σ σ.wat (some k) so ex) (he : ∀ p m, ex p m → -m ∉ σ.asg.take k) (hk : k ≤ σ.head) : Inv (σ.cut k) σ.wat none [] (fun _ _ => False) ∧ (σ.cut k).head = (σ.cut k).asg.length := by
  have hkl := h.b k rfl
  have hkd : ∀ n, n ∈ σ.asg.take k → n ∉ σ.asg.drop k := fun n h1 h2 => by
    have hnd := h.t.nd
    rw [← List.take_append_drop k σ.asg, List.nodup_append] at hnd
    exact hnd.2.2 n h1 n h2 rfl
  have hlen : (σ.asg.take k).length = k := by rw [List.length_take]; omega
  refine ⟨⟨⟨fun l hl => h.t.lt l (List.mem_of_mem_take hl), h.t.nd.sublist (List.take_sublist _ _), fun n hn => ?_, fun l hl hl2 => h.t.con l (List.mem_of_mem_take hl) (List.mem_of_mem_take hl2), by show k ≤ (σ.asg.take k).length; omega⟩, ⟨h.c.nd, h.c.lt, h.c.len⟩, ⟨h.w.entr, h.w.has, h.w.uniq⟩, fun p hp hc m hw _ hn => ?_, fun hs i l hi => ?_, fun j hj => by cases hj⟩, hlen.symm⟩
  · show unv σ.val (σ.asg.drop k) n = true ↔ n ∈ σ.asg.take k
    unfold unv
    by_cases e : n ∈ σ.asg.drop k
    · rw [if_pos e]
      exact ⟨fun z => (by cases z), fun z => absurd e (hkd n z)⟩
    · rw [if_neg e, h.t.val n hn]
      refine ⟨fun z => ?_, List.mem_of_mem_take⟩
      rw [← List.take_append_drop k σ.asg] at z
      exact (List.mem_append.1 z).resolve_right e
  · have hn : -m ∈ (σ.asg.take k).take k := hn
    rw [List.take_take, Nat.min_self] at hn
    have hn2 : -m ∈ σ.asg.take σ.head := by
      obtain ⟨i, i1, i2⟩ := take_idx hn
      exact mem_take_of i2 (by omega)
    obtain ⟨o, o1, o2, o3⟩ := h.h p hp hc m hw (fun z => he p m z hn) hn2
    exact ⟨o, o1, o3 hn, fun _ => o3 hn⟩
  · have hi : (σ.asg.take k)[i]? = some l := hi
    have hik : i < k := by have := (List.getElem?_eq_some_iff.1 hi).1; omega
    rw [List.getElem?_take_of_lt hik] at hi
    rcases h.r hs i l hi with q | ⟨p, p1, p2, p3, p4, p5, p6⟩
    · have := q.2 k rfl; omega
    · refine Or.inr ⟨p, ?_, p2, p3, p4, p5, fun m hm hne => ?_⟩
      · show unr σ.rsn (σ.asg.drop k) l = _
        unfold unr
        rw [if_neg (hkd l (mem_take_of hi hik))]
        exact p1
      · show -m ∈ (σ.asg.take k).take i
        rw [List.take_take, Nat.min_eq_left (by omega)]
        exact p6 m hm hne
/-- Back again: what held between calls holds again. -/
theorem Base.back {σ σ' : St} {so : List Int} {ex : Nat → Int → Prop} (h : Base σ fun _ => False) (hcf : σ.conf = -1) (hk : Kept σ σ') (hi : Inv σ' σ'.wat (some σ.asg.length) so ex) (he : ∀ p m, ex p m → -m ∉ σ'.asg.take σ.asg.length) (hh : σ.asg.length ≤ σ'.head) :
    Base (σ'.cut σ.asg.length) (fun _ => False) ∧ Same σ (σ'.cut σ.asg.length) ∧ (σ'.cut σ.asg.length).conf = σ.conf ∧ (σ'.cut σ.asg.length).asg = σ.asg := by
  obtain ⟨hc, hl⟩ := hi.cut he hh
  have hasg : σ'.asg.take σ.asg.length = σ.asg := by
    obtain ⟨t, ht⟩ := hk.asg
    rw [← ht, List.take_left]
  have len : ∀ q, (σ'.lits q).length = (σ.lits q).length := fun q => (hk.lits q).length_eq
  refine ⟨⟨hc.t, hc.c, ⟨hc.w.entr, hc.w.has, hc.w.uniq⟩, hc.r, fun e => absurd (hk.conf.trans hcf) e, fun _ => ⟨fun q hq hcq m hw _ hn => hc.h q hq hcq m hw (fun z => z) hn, hl⟩, fun q hq => ?_, fun q hq hcq hl2 => ?_, by show σ'.sh.Nodup; rw [hk.sh]; exact h.sh3, fun _ q hq hcq hl2 _ => ?_⟩, ⟨hk.V, hk.N, hk.cps, hk.plc, hk.sh, hk.stale, hk.lits⟩, hk.conf, hasg⟩
  · have hq : q ∈ σ'.sh := hq
    rw [hk.sh] at hq
    have := h.sh1 q hq
    exact ⟨by show q < σ'.N; rw [hk.N]; exact this.1, by show (σ'.lits q).length < 2; rw [len]; exact this.2⟩
  · show q ∈ σ'.sh
    rw [hk.sh]
    exact h.sh2 q (by have hq : q < σ'.N := hq; rw [hk.N] at hq; exact hq) (by have hcq : σ'.cps q ≠ 0 := hcq; rw [hk.cps] at hcq; exact hcq) (by have hl2 : (σ'.lits q).length < 2 := hl2; rw [len] at hl2; exact hl2)
  · have hq : q < σ'.N := hq
    have hcq : σ'.cps q ≠ 0 := hcq
    have hl2 : (σ'.lits q).length < 2 := hl2
    rw [hk.N] at hq; rw [hk.cps] at hcq; rw [len] at hl2
    obtain ⟨o, o1, o2⟩ := h.un hcf q hq hcq hl2 (fun z => z)
    exact ⟨o, ((hk.lits q).mem_iff).2 o1, by show o ∈ σ'.asg.take σ.asg.length; rw [hasg]; exact o2⟩

/-! ### What it says of the clauses -/
/-- The clauses that are present are those of cs, as sets of literals. -/
structure Cs (σ : St) (cs : List (List Int)) : Prop where
  to : ∀ p, p < σ.N → σ.cps p ≠ 0 → ∃ c ∈ cs, ∀ x, x ∈ σ.lits p ↔ x ∈ c
  of : ∀ c ∈ cs, ∃ p, p < σ.N ∧ σ.cps p ≠ 0 ∧ ∀ x, x ∈ σ.lits p ↔ x ∈ c
theorem Cs.same {σ σ' : St} {cs : List (List Int)} (h : Cs σ cs) (hs : Same σ σ') : Cs σ' cs := by
  refine ⟨fun p hp hc => ?_, fun c hc => ?_⟩
  · rw [hs.N] at hp; rw [hs.cps] at hc
    obtain ⟨c, c1, c2⟩ := h.to p hp hc
    exact ⟨c, c1, fun x => ((hs.lits p).mem_iff).trans (c2 x)⟩
  · obtain ⟨p, p1, p2, p3⟩ := h.of c hc
    exact ⟨p, by rw [hs.N]; exact p1, by rw [hs.cps]; exact p2, fun x => ((hs.lits p).mem_iff).trans (p3 x)⟩
theorem Rsn.up {σ : St} {b : Option Nat} {so : List Int} {cs : List (List Int)} (h : Rsn σ b so) (hcs : Cs σ cs) : ∀ l ∈ σ.asg, UP cs so l := by
  have key : ∀ (k i : Nat) (l : Int), i < k → σ.asg[i]? = some l → UP cs so l := by
    intro k
    induction k with
    | zero => intro i l hi; omega
    | succ k ih =>
      intro i l hi hl
      rcases h i l hl with q | ⟨p, _, p2, p3, p4, p5, p6⟩
      · exact .given q.1
      · obtain ⟨c, c1, c2⟩ := hcs.to p p2 p3
        refine .unit c1 ((c2 l).1 (by rw [← p5]; exact mem! p4)) fun x hx hne => ?_
        obtain ⟨j, j1, j2⟩ := take_idx (p6 x ((c2 x).2 hx) hne)
        exact ih j _ (by omega) j2
  intro l hl
  obtain ⟨i, _, hi⟩ := idx_of_mem hl
  exact key (i + 1) i l (by omega) hi
theorem bad_of_false {σ : St} {b : Option Nat} {so : List Int} {cs : List (List Int)} (h : Rsn σ b so) (hcs : Cs σ cs) {p : Nat} (hp : p < σ.N) (hc : σ.cps p ≠ 0) (hf : ∀ m ∈ σ.lits p, -m ∈ σ.asg) : Bad cs so := by
  obtain ⟨c, c1, c2⟩ := hcs.to p hp hc
  exact Or.inr ⟨c, c1, fun x hx => h.up hcs _ (hf x ((c2 x).2 hx))⟩
theorem not_bad {σ : St} {b : Option Nat} {so so' : List Int} {cs : List (List Int)} (h : Inv σ σ.wat b so (fun _ _ => False)) (hh : σ.head = σ.asg.length) (hcs : Cs σ cs)
    (hun : ∀ p, p < σ.N → σ.cps p ≠ 0 → (σ.lits p).length < 2 → ∃ o ∈ σ.lits p, o ∈ σ.asg) (hso : ∀ l ∈ so', l ∈ σ.asg) : ¬ Bad cs so' := by
  intro hb
  refine bad_closed (so := σ.asg) h.t.con (fun c hc => ?_) (hb.so hso)
  obtain ⟨p, p1, p2, p3⟩ := hcs.of c hc
  by_cases hl : (σ.lits p).length < 2
  · obtain ⟨o, o1, o2⟩ := hun p p1 p2 hl
    exact Or.inl ⟨o, (p3 o).1 o1, o2⟩
  · have m0 : (σ.lits p)[0]! ∈ σ.lits p := mem! (by omega)
    have m1 : (σ.lits p)[1]! ∈ σ.lits p := mem! (by omega)
    have fin : ∀ m, W2 σ p m → -m ∈ σ.asg → ∃ x ∈ c, x ∈ σ.asg := fun m hw hm => by
      obtain ⟨o, o1, o2, _⟩ := h.h p p1 p2 m hw (fun z => z) (by rw [hh, List.take_length]; exact hm)
      exact ⟨o, (p3 o).1 o1, o2⟩
    by_cases a0 : (σ.lits p)[0]! ∈ σ.asg
    · exact Or.inl ⟨_, (p3 _).1 m0, a0⟩
    by_cases a1 : (σ.lits p)[1]! ∈ σ.asg
    · exact Or.inl ⟨_, (p3 _).1 m1, a1⟩
    by_cases b0 : -(σ.lits p)[0]! ∈ σ.asg
    · exact Or.inl (fin _ ⟨by omega, Or.inl rfl⟩ b0)
    by_cases b1 : -(σ.lits p)[1]! ∈ σ.asg
    · exact Or.inl (fin _ ⟨by omega, Or.inr rfl⟩ b1)
    exact Or.inr ⟨_, (p3 _).1 m0, _, (p3 _).1 m1, nodup_ne (h.c.nd p p1) (by omega) (by omega) (by decide), ⟨a0, b0⟩, ⟨a1, b1⟩⟩
end Go.Proofs.YthpamogomfleoaaDoor.Rc
