/- Contracts of addAll, refresh (nothing to find out anew) and follows. -/
import Derived.Test.YthpamogomfleoaaDoorRcAdd
import Derived.Test.YthpamogomfleoaaDoorRcU
import Derived.StillTailTactics
import Derived.Laws.CopyOwn
import Derived.Deep.RegionLaw
import Derived.Deep.OwnRows
import Derived.Test.YthpamogomfleoaaDoorRcRg
import Derived.Laws.Rows
namespace Go.Proofs.YthpamogomfleoaaDoor.Rc
open Go Go.RowKit Go.Lib Go.Proofs.YthpamogomfleoaaDoor.Up
open Go.Proofs.YthpamogomfleoaaDoor.Cl (RowIn RowsIn Row Tab nf isNf_nf rightB oppB nf_length)

set_option maxHeartbeats 1000000 in
theorem refresh_fresh {w : World} {Y : Lay} {σ : St} (h : Mem w Y σ none) (hs : σ.stale = false) :
    Calls Tryd.prog 41 #[.pointer (some ⟨Y.s, 0, none⟩)] w fun e w' => e = .returned (.tuple #[]) ∧ Below w.heap.size w w' := by
  have c10 := h.cell 10 (by omega)
  have e10 : Y.hd 10 = .bool σ.stale := h .stl
  rw [e10, hs] at c10
  have hlt := h.slt
  have c10' : (w.alloc (.cells #[.pointer (some ⟨Y.s, 0, none⟩)] 43)).cell? ⟨Y.s, 10, none⟩ = some (.bool false) := by
    rw [World.cell?_alloc_some _ _ _ (by rw [c10]; rfl), c10]
  clear h e10 hs
  go_enter Tryd.func41, Tryd.ntmps41
  go_wp2_with fail
  first | go_end0 | (simp only [Exit.inBlock, Exit.then]; refine bodyPost_ret (results_none rfl _ _ _) rfl ?_) | refine bodyPost_ret (results_none rfl _ _ _) rfl ?_
  exact ⟨rfl, (Below.refl _ _).alloc (Nat.le_refl _) _⟩

/-- What follows answers. -/
def FoR (w : World) (Y : Lay) (σ : St) (cs : List (List Int)) (zs : List Int) (r : Bool) (w' : World) : Prop :=
  (r = true ↔ Bad cs (zs.map fun x => -x)) ∧ ∃ σ' Y', Mem w' Y' σ' none ∧ Base σ' (fun _ => False) ∧ Same σ σ' ∧ Nxt sAny w Y w' Y'
def FoE (w : World) (Y : Lay) (σ : St) (cs : List (List Int)) (zs : List Int) (e : Ending) (w' : World) : Prop :=
  ∃ r : Bool, e = .returned (.bool r) ∧ FoR w Y σ cs zs r w'

/-- What is assumed. -/
def asm (zs : List Int) : List Int := (nf zs).map fun x => -x
theorem asm_bad {cs : List (List Int)} {zs : List Int} : Bad cs (asm zs) ↔ Bad cs (zs.map fun x => -x) := by
  refine bad_congr (fun _ => Iff.rfl) fun l => ?_
  unfold asm
  simp only [List.mem_map]
  exact ⟨fun ⟨a, h1, h2⟩ => ⟨a, ((isNf_nf zs).2 a).1 h1, h2⟩, fun ⟨a, h1, h2⟩ => ⟨a, ((isNf_nf zs).2 a).2 h1, h2⟩⟩
theorem bad_opp {cs : List (List Int)} {zs : List Int} (h : oppB (nf zs) = true) : Bad cs (asm zs) := by
  unfold oppB at h
  obtain ⟨i, hi, hd⟩ := List.any_eq_true.1 h
  rw [Bool.and_eq_true, decide_eq_true_eq, decide_eq_true_eq] at hd
  have hil := List.mem_range.1 hi
  have m1 : (nf zs)[i]! ∈ nf zs := mem! hil
  have m2 : (nf zs)[i - 1]! ∈ nf zs := mem! (by omega)
  refine bad_pair (l := -(nf zs)[i]!) (List.mem_map.2 ⟨_, m1, rfl⟩) (List.mem_map.2 ⟨_, m2, ?_⟩)
  rw [hd.2]; omega

/-- Where follows stands: k literals have been assumed to be false. -/
structure FoTo (σ : St) (zs : List Int) (k : Nat) (σ1 : St) : Prop where
  inv : Inv σ1 σ1.wat (some σ.asg.length) (asm zs) (fun _ _ => False)
  head : σ1.head = σ.asg.length
  kept : Kept σ σ1
  done : ∀ j, j < k → -(nf zs)[j]! ∈ σ1.asg
theorem FoTo.start {σ : St} (h : Base σ fun _ => False) (hc : σ.conf = -1) (zs : List Int) : FoTo σ zs 0 σ := by
  have hi := h.inv hc
  have hi2 : Inv σ σ.wat none [] (fun _ _ => False) := ⟨hi.t, hi.c, hi.w, fun p hp hcp m hw he hn => hi.h p hp hcp m hw he hn, hi.r, hi.b⟩
  exact ⟨hi2.level (h.h hc).2 _, (h.h hc).2, Kept.refl _, fun j hj => by omega⟩
theorem FoTo.skip {σ σ1 : St} {zs : List Int} {k : Nat} (h : FoTo σ zs k σ1) (hm : -(nf zs)[k]! ∈ σ1.asg) : FoTo σ zs (k + 1) σ1 :=
  ⟨h.inv, h.head, h.kept, fun j hj => by
    by_cases e : j = k
    · subst e; exact hm
    · exact h.done j (by omega)⟩
theorem FoTo.asn {σ σ1 : St} {zs : List Int} {k : Nat} (h : FoTo σ zs k σ1) (hk : k < (nf zs).length) (hL : Lt σ1.V (nf zs)[k]!) (h1 : (nf zs)[k]! ∉ σ1.asg) (h2 : -(nf zs)[k]! ∉ σ1.asg) : FoTo σ zs (k + 1) (σ1.asn (-(nf zs)[k]!) (-1)) := by
  refine ⟨h.inv.asn hL.neg h2 (by rw [Int.neg_neg]; exact h1) (fun _ => Or.inl ⟨List.mem_map.2 ⟨_, mem! hk, rfl⟩, fun j hj => h.inv.b j hj⟩), h.head, h.kept.trans (Kept.asn _ _ _), fun j hj => ?_⟩
  by_cases e : j = k
  · subst e; exact List.mem_append_right _ (List.mem_singleton.2 rfl)
  · exact List.mem_append_left _ (h.done j (by omega))
theorem FoTo.yes {σ σ1 : St} {zs : List Int} {k : Nat} {cs : List (List Int)} (h : FoTo σ zs k σ1) (hs : σ.stale = false) (hcs : Cs σ cs) (hk : k < (nf zs).length) (hm : (nf zs)[k]! ∈ σ1.asg) : Bad cs (asm zs) := by
  have hr := h.inv.r (by rw [h.kept.stale]; exact hs)
  exact Or.inl ⟨(nf zs)[k]!, hr.up (hcs.same h.kept.same) _ hm, .given (List.mem_map.2 ⟨_, mem! hk, rfl⟩)⟩
theorem FoTo.end' {σ σ1 σ2 : St} {zs : List Int} {c : Int} {cs : List (List Int)} (h : FoTo σ zs (nf zs).length σ1) (hB : Base σ fun _ => False) (hcf : σ.conf = -1) (hs : σ.stale = false) (hcs : Cs σ cs) (hP : PgEnd σ1 σ2 c (some σ.asg.length) (asm zs)) : (c != -1) = true ↔ Bad cs (asm zs) := by
  have hk := h.kept.trans hP.kept
  have hcs2 := hcs.same hk.same
  have hst : σ2.stale = false := by rw [hk.stale]; exact hs
  by_cases hc : c = -1
  · obtain ⟨hi, hh⟩ := hP.good hc
    refine iff_of_false (by simp [hc]) (not_bad hi hh hcs2 (fun p hp hcp hl => ?_) (fun l hl => ?_))
    · obtain ⟨o, o1, o2⟩ := hB.un hcf p (by rw [← hk.N]; exact hp) (by rw [← hk.cps]; exact hcp) (by rw [← (hk.lits p).length_eq]; exact hl) (fun z => z)
      exact ⟨o, ((hk.lits p).mem_iff).2 o1, hk.asg.subset o2⟩
    · obtain ⟨x, hx, rfl⟩ := List.mem_map.1 hl
      obtain ⟨j, j1, j2⟩ := idx_of_mem hx
      have hj : (nf zs)[j]! = x := by rw [getElem!_pos _ j j1]; exact (List.getElem?_eq_some_iff.1 j2).2
      exact hP.kept.asg.subset (by rw [← hj]; exact h.done j j1)
  · obtain ⟨p, n, _, p1, p2, p3, hi, _⟩ := hP.bad hc
    exact iff_of_true (by simpa using hc) (bad_of_false (hi.r hst) hcs2 p1 p2 p3)

/-- Behind the assumptions: they are taken back. -/
theorem fo_back {w wd w' : World} {Y Yd Y' : Lay} {σ σd : St} {cs : List (List Int)} {zs : List Int} {r : Bool} {ex : Nat → Int → Prop} (hB : Base σ fun _ => False) (hcf : σ.conf = -1) (hnx : Nxt sAny w Y wd Yd) (hk : Kept σ σd) (hi : Inv σd σd.wat (some σ.asg.length) (asm zs) ex)
    (he : ∀ p m, ex p m → -m ∉ σd.asg.take σ.asg.length) (hh : σ.asg.length ≤ σd.head) (hr : r = true ↔ Bad cs (asm zs)) (hm : Mem w' Y' (σd.cut σ.asg.length) none) (hn : Nxt sUn wd Yd w' Y') : FoR w Y σ cs zs r w' := by
  obtain ⟨b1, b2, _, _⟩ := hB.back hcf hk hi he hh
  exact ⟨hr.trans asm_bad, _, Y', hm, b1, b2, hnx.trans (hn.mono (sAny_le rfl))⟩

/-- The normal form's row: a block that is none of the checker's. -/
def NRow (ρ : Nat → Role) (w : World) (a : Option Addr) (zs : List Int) : Prop :=
  nf zs = [] ∨ ∃ g, a = some ⟨g, 0, none⟩ ∧ ρ g = .old ∧ g < w.heap.size ∧ ∀ i, i < (nf zs).length → w.cell? ⟨g, i, none⟩ = some (.int .i64 (nf zs)[i]!)
theorem NRow.below {ρ : Nat → Role} {w w' : World} {a : Option Addr} {zs : List Int} (h : NRow ρ w a zs) (hb : Below w.heap.size w w') : NRow ρ w' a zs := by
  rcases h with h | ⟨g, e1, e2, e3, e4⟩
  · exact Or.inl h
  · exact Or.inr ⟨g, e1, e2, Nat.lt_of_lt_of_le e3 hb.size, fun i hi => (hb.cell (p := ⟨g, i, none⟩) e3).trans (e4 i hi)⟩
theorem NRow.nxt {w w' : World} {Y Y' : Lay} {S : Role → Bool} {a : Option Addr} {zs : List Int} (h : NRow Y.ρ w a zs) (hn : Nxt S w Y w' Y') (hS : S .old = false) : NRow Y'.ρ w' a zs := by
  rcases h with h | ⟨g, e1, e2, e3, e4⟩
  · exact Or.inl h
  · refine Or.inr ⟨g, e1, (hn.ext g e3).trans e2, Nat.lt_of_lt_of_le e3 hn.frm.size, fun i hi => ?_⟩
    rw [← e4 i hi]
    simp only [World.cell?, hn.frm.block g e3 (by rw [e2]; exact hS)]

/-- What the loop has in hand. -/
def FoI (w : World) (Y : Lay) (σ : St) (zs : List Int) (a1 : Option Addr) (i : Nat) (wr : World) : Prop :=
  ∃ σ1 Y1, Mem wr Y1 σ1 none ∧ Nxt sAny w Y wr Y1 ∧ FoTo σ zs i σ1 ∧ NRow Y1.ρ wr a1 zs
/-- What is left when it leaves. -/
def FoL (w : World) (Y : Lay) (σ : St) (cs : List (List Int)) (zs : List Int) (wd : World) (r : Bool) : Prop :=
  ∃ σd Yd ex, Mem wd Yd σd none ∧ Nxt sAny w Y wd Yd ∧ Kept σ σd ∧ Inv σd σd.wat (some σ.asg.length) (asm zs) ex ∧ (∀ p m, ex p m → -m ∉ σd.asg.take σ.asg.length) ∧ σ.asg.length ≤ σd.head ∧ (r = true ↔ Bad cs (asm zs))
theorem FoL.undo {w wd : World} {Y : Lay} {σ : St} {cs : List (List Int)} {zs : List Int} {r : Bool} (h : FoL w Y σ cs zs wd r) (hB : Base σ fun _ => False) (hcf : σ.conf = -1) :
    CallsD Tryd.prog 42 #[.pointer (some ⟨Y.s, 0, none⟩), .int .i64 (σ.asg.length : Int)] .returning wd fun e u' w' => u' = .returning ∧ e = .returned (.tuple #[]) ∧ FoR w Y σ cs zs r w' := by
  obtain ⟨σd, Yd, ex, h1, h2, h3, h4, h5, h6, h7⟩ := h
  have hle : σ.asg.length ≤ σd.asg.length := h3.asg.length_le
  have hlen := h4.t.len
  have hV := h1.nle
  rw [← h2.s]
  refine (undo_any_d .returning h1 h4.t.lt σ.asg.length hle (by omega)).mono ?_
  rintro e u' w' ⟨rfl, rfl, Y', b1, b2, _⟩
  exact ⟨rfl, rfl, fo_back hB hcf h2 h3 h4 h5 h6 h7 b1 b2⟩

set_option maxRecDepth 100000 in
set_option maxHeartbeats 8000000 in
theorem follows_fresh {w : World} {Y : Lay} {σ : St} {cs : List (List Int)} (h : Mem w Y σ none) (hB : Base σ fun _ => False) (hs : σ.stale = false) (hcs : Cs σ cs) (a : Option Addr) (c : Nat) (zs : List Int) (hr : RowIn (Value.int .i64) w a zs) (hl : zs.length ≤ 1000) (hzr : rightB zs = true) (hL : ∀ m ∈ zs, Lt σ.V m) (hN : σ.N ≤ 10000000) :
    Calls Tryd.prog 23 #[.pointer (some ⟨Y.s, 0, none⟩), .slice a zs.length c] w (FoE w Y σ cs zs) := by
  have HNM := Lib.hid (Norm_blk a c zs w hr hl hzr)
  have HH := Lib.hid (And.intro h (And.intro hB (And.intro hs (And.intro hcs (And.intro hL hN)))))
  have HNL : Hid ((nf zs).length ≤ 1000) := by have := nf_length zs; show _ ≤ _; omega
  have HZR := Lib.hid hzr
  clear h hB hr hl hzr hL hN hs hcs
  go_enter_defers Tryd.func23, Tryd.ntmps23
  go_wp2_with fail
  refine HNM.out.mono ?_
  rintro e w1 ⟨a1, c1, rfl, hc1, hb1, hrow⟩
  have HM1 : Hid (Mem w1 Y σ none) := HH.out.1.below hb1
  have HB1 := Lib.hid hb1
  have HROW : Hid (NRow Y.ρ w1 a1 zs) := by
    rcases hrow with h0 | ⟨g, arr, e1, e2, e3, e4⟩
    · exact Or.inl h0
    · exact Or.inr ⟨g, e1, (HH.out.1 .chk).2.2.2 g e2, lt_of_block e3, fun i hi => by simp only [World.cell?, e3]; simpa using e4 i hi⟩
  obtain ⟨len, hlen⟩ : ∃ len, len = (nf zs).length := ⟨_, rfl⟩
  rw [← hlen]
  have HLEN := Lib.hid hlen
  have hlb : len ≤ 1000 := by rw [hlen]; exact HNL.out
  have HOP : Hid (oppB (nf zs) = true → Bad cs (asm zs)) := bad_opp
  clear hrow hb1 hc1 hlen HNM
  generalize oppB (nf zs) = taut at *
  cases taut with
  | true =>
    have HFE : Hid (FoR w Y σ cs zs true w1) := ⟨iff_of_true rfl (asm_bad.1 (HOP.out rfl)), σ, Y, HM1.out, HH.out.2.1, Same.refl _, Nxt.same (Frm.below HB1.out (Nat.le_refl _) HB1.out.size)⟩
    go_wp2_with fail
    exact ⟨_, results_tmp rfl _ _ _, true, rfl, HFE.out⟩
  | false =>
    have HRF := Lib.hid (refresh_fresh HM1.out HH.out.2.2.1)
    go_wp2_with fail
    refine HRF.out.mono ?_
    rintro e w2 ⟨rfl, hb2⟩
    have HM2 : Hid (Mem w2 Y σ none) := HM1.out.below hb2
    have HB2 : Hid (Below w.heap.size w w2) := HB1.out.trans (hb2.mono HB1.out.size)
    have HROW2 : Hid (NRow Y.ρ w2 a1 zs) := HROW.out.below hb2
    clear hb2 HROW HM1 HB1 HRF
    have c9 := HM2.out.cell 9 (by omega)
    have hcf : Y.hd 9 = .int .i64 σ.conf ∧ -1 ≤ σ.conf ∧ σ.conf ≤ 9223372036854775807 := HM2.out .conf
    rw [hcf.1] at c9
    clear hcf
    by_cases hcn : σ.conf = -1
    case neg =>
      have hcn2 : (σ.conf != -1) = true := by simpa using hcn
      have HFE : Hid (FoR w Y σ cs zs true w2) := by
        obtain ⟨p, _, p1, p2⟩ := HH.out.2.1.cf hcn
        have hb := bad_of_false (HH.out.2.1.r HH.out.2.2.1) HH.out.2.2.2.1 p1 (p2 HH.out.2.2.1).1 (p2 HH.out.2.2.1).2
        exact ⟨iff_of_true rfl (hb.so (fun l hl => by cases hl)), σ, Y, HM2.out, HH.out.2.1, Same.refl _, Nxt.same (Frm.below HB2.out (Nat.le_refl _) HB2.out.size)⟩
      generalize σ.conf = cf at *
      clear hcn
      go_wp2_with fail
      exact ⟨_, results_tmp rfl _ _ _, true, rfl, HFE.out⟩
    case pos =>
    rw [hcn] at c9
    have HCN := Lib.hid hcn
    clear hcn
    have c1' := HM2.out.cell 1 (by omega)
    obtain ⟨a5, k5, e5, _, _⟩ := own_form (HM2.out .asg)
    rw [e5] at c1'
    clear e5
    go_wp2_with fail
    go_still_tail 9, (by kernel_rfl)
    change wpList _ _ _ _ _ w2.drew
    go_wp2_with fail
    have START : Hid (FoI w Y σ zs a1 0 w2.drew) := by
      have hbd : Below w2.heap.size w2 w2.drew := Below.drew (Below.refl _ _)
      have hbe := HB2.out.trans (hbd.mono HB2.out.size)
      exact ⟨σ, Y, HM2.out.drew, Nxt.same (Frm.below hbe (Nat.le_refl _) hbe.size), FoTo.start HH.out.2.1 HCN.out zs, HROW2.out.below hbd⟩
    go_loopw [33] (fun iv wr => ∃ (i : Nat), iv = .int .i64 (i : Int) ∧ i ≤ len ∧ Hid (FoI w Y σ zs a1 i wr)) (fun iv _ => len - (intOf iv).toNat)
    case atStart => exact ⟨0, rfl, Nat.zero_le _, START.out⟩
    case round =>
      obtain ⟨i, rfl, hil, HI⟩ := hrel
      by_cases hlt : i < len
      · obtain ⟨σ1, Y1, hm, hnx, hto, hro⟩ := HI.out
        obtain ⟨n, hn⟩ : ∃ n, n = (nf zs)[i]! := ⟨_, rfl⟩
        have hir : i < (nf zs).length := by rw [← HLEN.out]; exact hlt
        have hnL : Lt σ1.V n := by rw [hto.kept.V, hn]; exact HH.out.2.2.2.2.1 _ ((isNf_nf zs).2 _ |>.1 (mem! hir))
        obtain ⟨g, rfl, hg1, hg2, hg3⟩ := hro.resolve_left (fun e => by rw [e] at hir; simp at hir)
        have ci := hg3 i hir
        rw [← hn] at ci
        have iz : (i : Int) < (len : Int) := by omega
        have i0 : (0 : Int) ≤ (i : Int) := by omega
        have es := hnx.s
        have HT : Hid (Calls Tryd.prog 43 #[.pointer (some ⟨Y.s, 0, none⟩), .int .i64 n] wr fun e w' => e = .returned (.bool (σ1.val n)) ∧ ∃ q, w' = wr.drewN q) := by rw [← es]; exact isTrue_any hm n hnL.in'
        have HF : Hid (∀ q, Calls Tryd.prog 44 #[.pointer (some ⟨Y.s, 0, none⟩), .int .i64 n] (wr.drewN q) fun e w' => e = .returned (.bool (σ1.val (-n))) ∧ ∃ q', w' = (wr.drewN q).drewN q') := fun q => by rw [← es]; exact isFalse_any (hm.drewN q) n hnL.in'
        have hlen1 := hto.inv.t.len
        have hV1 := hm.nle
        have HA : Hid (∀ q, Calls Tryd.prog 45 #[.pointer (some ⟨Y.s, 0, none⟩), .int .i64 (-n), .int .i64 (-1)] (wr.drewN q) fun e w' => e = .returned (.tuple #[]) ∧ ∃ Y', Mem w' Y' (σ1.asn (-n) (-1)) none ∧ Nxt sAsn (wr.drewN q) Y1 w' Y' ∧ Y'.litV = Y1.litV) := fun q => by rw [← es]; exact assign_any (hm.drewN q) (-n) hnL.neg.in' (-1) (by omega)
        have hyes := hto.inv.t.yes (n := n) hnL.in'
        have hno := hto.inv.t.no (n := n) hnL.in'
        have hyes' := hto.inv.t.yes (n := -n) hnL.neg.in'
        have hno' := hto.inv.t.no (n := -n) hnL.neg.in'
        have HY := Lib.hid (And.intro hyes (And.intro hno (And.intro hyes' hno')))
        have hwr : IntKind.i64.wrap (-n) = -n := IntWalk.i64_in _ (by have := hnL.2; omega)
        have HL1 := Lib.hid (And.intro hm (And.intro hnx (And.intro hto (And.intro hnL (And.intro hn hir)))))
        have HRO : Hid (NRow Y1.ρ wr (some ⟨g, 0, none⟩) zs) := hro
        clear hm hnx hto hro hg1 hg3 hn hnL HI es hlen1 hV1 hyes hno hyes' hno' hir
        cases hv : σ1.val n with
        | true =>
          rw [hv] at HT
          have HEND : Hid (∀ q, FoL w Y σ cs zs (wr.drewN q) true) := fun q => by
            obtain ⟨a1', a2, a3, a4, a5, a6⟩ := HL1.out
            refine ⟨σ1, Y1, _, a1'.drewN q, a2.drewN q, a3.kept, a3.inv, fun _ _ z => z.elim, by rw [a3.head]; exact Nat.le_refl _, iff_of_true rfl (a3.yes HH.out.2.2.1 HH.out.2.2.2.1 a6 ?_)⟩
            rw [← a5]; exact HY.out.1 hv
          clear hv HY HA HF
          go_wp2_with fail
          refine HT.out.mono ?_
          rintro e w3 ⟨rfl, q, rfl⟩
          go_wp2_with fail
          refine leaves_cons (f := 42) (args := #[.pointer (some ⟨Y.s, 0, none⟩), .int .i64 (σ.asg.length : Int)]) (by simp) (by simp [go_sem]) ?_
          refine (FoL.undo (HEND.out q) HH.out.2.1 HCN.out).mono ?_
          rintro e u' w' ⟨rfl, rfl, HR⟩
          exact ⟨_, results_tmp rfl _ _ _, true, rfl, HR⟩
        | false =>
          rw [hv] at HT
          have HN1 : Hid ((nf zs)[i]! ∉ σ1.asg) := by rw [← HL1.out.2.2.2.2.1]; exact HY.out.2.1 hv
          clear hv
          cases hv2 : σ1.val (-n) with
          | true =>
            rw [hv2] at HF
            have HN2 : Hid (-(nf zs)[i]! ∈ σ1.asg) := by rw [← HL1.out.2.2.2.2.1]; exact HY.out.2.2.1 hv2
            clear hv2 HY HA
            go_wp2_with fail
            refine HT.out.mono ?_
            rintro e w3 ⟨rfl, q, rfl⟩
            go_wp2_with fail
            refine (HF.out q).mono ?_
            rintro e w4 ⟨rfl, q', rfl⟩
            go_wp2_with fail
            go_roundw
            case rel => exact ⟨i + 1, by go_num, by omega, σ1, Y1, HL1.out.1.drewN (q + q'), HL1.out.2.1.drewN (q + q'), HL1.out.2.2.1.skip HN2.out, HRO.out⟩
            case measure => simp [intOf]; omega
          | false =>
            rw [hv2] at HF
            have HN2 : Hid (-(nf zs)[i]! ∉ σ1.asg) := by rw [← HL1.out.2.2.2.2.1]; exact HY.out.2.2.2 hv2
            clear hv2 HY
            go_wp2_with fail
            refine HT.out.mono ?_
            rintro e w3 ⟨rfl, q, rfl⟩
            go_wp2_with fail
            refine (HF.out q).mono ?_
            rintro e w4 ⟨rfl, q', rfl⟩
            go_wp2_with fail
            refine (HA.out (q + q')).mono ?_
            rintro e w5 ⟨rfl, Y2, hm2, hn2, _⟩
            have HM3 := Lib.hid (And.intro hm2 hn2)
            clear hm2 hn2
            go_wp2_with fail
            go_roundw
            case rel =>
              obtain ⟨b1, b2⟩ := HM3.out
              have hnn : Nxt sAny wr Y1 w5 Y2 := ((Nxt.refl _ _ _).drewN (q + q')).trans (b2.mono (sAny_le rfl))
              refine ⟨i + 1, by go_num, by omega, σ1.asn (-n) (-1), Y2, b1, HL1.out.2.1.trans hnn, ?_, NRow.nxt HRO.out hnn rfl⟩
              have := HL1.out.2.2.1.asn HL1.out.2.2.2.2.2 (by rw [← HL1.out.2.2.2.2.1]; exact HL1.out.2.2.2.1) HN1.out HN2.out
              rw [← HL1.out.2.2.2.2.1] at this
              exact this
            case measure => simp [intOf]; omega
      · obtain ⟨σ1, Y1, hm, hnx, hto, hro⟩ := HI.out
        have hie : i = (nf zs).length := by rw [← HLEN.out]; omega
        have hto' : FoTo σ zs (nf zs).length σ1 := by rw [← hie]; exact hto
        have hile : ¬ ((i : Int) < (len : Int)) := by omega
        have HPG : Hid (Calls Tryd.prog 46 #[.pointer (some ⟨Y.s, 0, none⟩)] wr (PgE wr Y1 σ1 (some σ.asg.length) (asm zs))) := by
          rw [← hnx.s]
          exact propagate_any hm hto.inv (fun k hk => by injection hk with e; rw [hto.head, e]; exact Nat.le_refl _) (by rw [hto.kept.N]; exact HH.out.2.2.2.2.2)
        have HL1 := Lib.hid (And.intro hm (And.intro hnx hto'))
        clear hm hnx hto hro hto' HI hie
        go_wp2_with fail
        refine HPG.out.mono ?_
        rintro e w3 ⟨σ2, cc, Y2, rfl, hend, hm2, hn2⟩
        have HEND : Hid (FoL w Y σ cs zs w3 (cc != -1)) := by
          obtain ⟨a1', a2, a3⟩ := HL1.out
          have hr := a3.end' HH.out.2.1 HCN.out HH.out.2.2.1 HH.out.2.2.2.1 hend
          have hk := a3.kept.trans hend.kept
          have hh : σ.asg.length ≤ σ2.head := by rw [← a3.head]; exact hend.hd
          by_cases hc : cc = -1
          · exact ⟨σ2, Y2, _, hm2, a2.trans hn2, hk, (hend.good hc).1, fun _ _ z => z.elim, hh, hr⟩
          · obtain ⟨p, n, _, _, _, _, hi2, hl2⟩ := hend.bad hc
            exact ⟨σ2, Y2, _, hm2, a2.trans hn2, hk, hi2, fun _ m e => by subst e; exact hl2 _ rfl, hh, hr⟩
        clear hend hm2 hn2 HPG
        go_wp2_with fail
        refine leaves_cons (f := 42) (args := #[.pointer (some ⟨Y.s, 0, none⟩), .int .i64 (σ.asg.length : Int)]) (by simp) (by simp [go_sem]) ?_
        refine (FoL.undo HEND.out HH.out.2.1 HCN.out).mono ?_
        rintro e u' w' ⟨rfl, rfl, HR⟩
        exact ⟨_, results_tmp rfl _ _ _, (cc != -1), rfl, HR⟩
end Go.Proofs.YthpamogomfleoaaDoor.Rc
/- Contracts of Repeat, newPropagation, newChecker. -/
namespace Go.Proofs.YthpamogomfleoaaDoor.Rc
open Go Go.RowKit Go.Lib

theorem wrapU (n : Nat) (h : n ≤ 300000) : IntKind.u64.wrap (n : Int) = (n : Int) := IntWalk.u64_in _ (by omega)
theorem wrapI (n : Nat) (h : n ≤ 300000) : IntKind.i64.wrap (n : Int) = (n : Int) := IntWalk.i64_in _ (by omega)
def neg1 : Value := .int .i64 (-1)

theorem made_zeros (n : Nat) : madeCells #[.int .i64 0] n = (List.replicate n (Value.int .i64 0)).toArray := by
  apply Array.ext_getElem?
  intro i
  by_cases h : i < n
  · simp [madeCells, h, Nat.mod_one]
  · simp [madeCells, h]
/-- The first k cells of n are set. -/
def RepI (w wr : World) (g n k : Nat) : Prop :=
  ∃ L : List Value, wr.heap[g]? = some (.cells L.toArray 3 (0, 0)) ∧ L.length = n ∧ (∀ j, j < k → L[j]? = some neg1) ∧ Below w.heap.size w wr
theorem RepI.step {w wr w' : World} {g n k m : Nat} (L : List Value) (hl : L.length = n) (hj : ∀ j, j < k → L[j]? = some neg1) (hm : k + m ≤ n) (hg : Hid (w'.heap[g]? = some (.cells (splice L k (List.replicate m neg1)).toArray 3 (0, 0)))) (hb : Below w.heap.size w w') : RepI w w' g n (k + m) := by
  refine ⟨_, hg.out, ?_, fun j hj2 => ?_, hb⟩
  · rw [length_splice _ _ _ (by simp; omega)]; exact hl
  · unfold splice
    by_cases e : j < k
    · rw [List.getElem?_append_left (by simp; omega), List.getElem?_take, if_pos e]; exact hj j e
    · rw [List.getElem?_append_right (by simp; omega), List.length_take, Nat.min_eq_left (by omega), List.getElem?_append_left (by simp; omega), List.getElem?_replicate, if_pos (by omega)]
theorem RepI.whole {w wr : World} {g n : Nat} (h : RepI w wr g n n) : wr.heap[g]? = some (.cells (List.replicate n neg1).toArray 3 (0, 0)) := by
  obtain ⟨L, h1, h2, h3, _⟩ := h
  have : L = List.replicate n neg1 := by
    apply List.ext_getElem?
    intro j
    by_cases e : j < n
    · rw [h3 j e, List.getElem?_replicate, if_pos e]
    · rw [List.getElem?_eq_none (by omega), List.getElem?_replicate, if_neg e]
  rw [← this]; exact h1
theorem infoSz : (Tryd.prog.info? 3).map (·.size) = some 1 := by kernel_rfl

set_option maxRecDepth 100000 in
set_option maxHeartbeats 600000 in
theorem Repeat_any (w : World) (xb n : Nat) (hx : w.cell? ⟨xb, 0, none⟩ = some neg1) (h1 : 1 ≤ n) (hn : n ≤ 300000) :
    Calls Tryd.prog 55 #[.slice (some ⟨xb, 0, none⟩) 1 1, .int .i64 (n : Int)] w fun e w' => ∃ g, e = .returned (.slice (some ⟨g, 0, none⟩) n n) ∧ w.heap.size ≤ g ∧ w'.heap[g]? = some (.cells (List.replicate n neg1).toArray 3 (0, 0)) ∧ Below w.heap.size w w' := by
  have HM : Hid (∀ w1 : World, Calls Tryd.prog 74 #[.int .u64 1, .int .u64 (n : Int)] w1 fun e w' => e = .returned (.tuple #[.int .u64 0, .int .u64 (n : Int)]) ∧ w' = w1) := fun w1 => by
    refine (Tryd.bits_Mul 1 n (by omega) (by omega) w1).mono ?_
    rintro e w' ⟨rfl, rfl⟩
    have e1 : 1 * n / 18446744073709551616 = 0 := by omega
    have e2 : 1 * n % 18446744073709551616 = n := by omega
    rw [e1, e2]
    exact ⟨rfl, rfl⟩
  have hwu := wrapU n hn
  have hwi := wrapI n hn
  have hn0 : ¬ (n : Int) < 0 := by omega
  have hn1 : decide ((n : Int) < 0) = false := by simp
  have hn2 : ¬ (9223372036854775807 : Int) < (n : Int) := by omega
  have hmk := fun W => run_make_row' (P := Tryd.prog) 23 3 (.int .i64 0) 8 Tryd.underlying23 Cl.info_int rfl .i64 .i64 n (by omega) (by omega) W
  have HX := Lib.hid hx
  have H1 := Lib.hid h1
  go_enter Tryd.func55, Tryd.ntmps55
  go_wp2_with fail
  refine (HM.out _).mono ?_
  rintro e w1 ⟨rfl, rfl⟩
  have HG : Hid ((w1.alloc (.cells (madeCells #[.int .i64 0] n) 3)).heap[w1.heap.size]? = some (.cells (List.replicate n (Value.int .i64 0)).toArray 3 (0, 0))) := by
    rw [← made_zeros]; unfold World.alloc; simp [Hid]
  go_wp2_with (refine wpList_copy_splice rfl (.tmp 31) (.tmp 32) 23 23 rfl 3 Tryd.underlying23 infoSz (some ⟨w1.heap.size, 0, none⟩) (some ⟨xb, 0, none⟩) n n 1 1 rfl rfl w1.heap.size 0 (List.replicate n (Value.int .i64 0)) 3 HG.out [neg1] ?c1 ?c2 ?c3 ?c4 w1.heap.size w1 ?c5 (Nat.le_refl _) ?_)
  case c1 => exact (Nat.min_eq_left H1.out).symm
  case c2 =>
    intro j v hj
    match j, hj with
    | 0, hj =>
      have e : v = neg1 := by simpa using hj.symm
      subst e
      have hx := HX.out
      show (w1.alloc _).cell? ⟨xb, 0, none⟩ = _
      rw [World.cell?_alloc_some _ _ _ (by rw [hx]; rfl), hx]
    | j + 1, hj => simp at hj
  case c3 => have := H1.out; simp; omega
  case c4 => intro v hv; simp at hv; subst hv; rfl
  case c5 => exact (Below.refl _ _).alloc (Nat.le_refl _) _
  intro w2 hg2 hb2
  have START : Hid (RepI w1 w2 w1.heap.size n 1) := RepI.step (k := 0) (m := 1) (wr := w1) _ (by simp) (fun j hj => absurd hj (by omega)) (by have := H1.out; omega) hg2 hb2
  clear hg2 hb2 HG hx
  obtain ⟨g, hgg⟩ : ∃ g, g = w1.heap.size := ⟨_, rfl⟩
  rw [← hgg] at START ⊢
  have HGG := Lib.hid hgg
  clear hgg
  go_wp2_with fail
  go_loopw [8] (fun kv wr => ∃ (k : Nat), kv = .int .i64 (k : Int) ∧ 1 ≤ k ∧ k ≤ n ∧ Hid (RepI w1 wr g n k)) (fun kv _ => n - (intOf kv).toNat)
  case atStart => exact ⟨1, rfl, Nat.le_refl _, H1.out, START.out⟩
  case round =>
    obtain ⟨k, rfl, hk1, hk2, HI⟩ := hrel
    by_cases hlt : k < n
    · obtain ⟨L, hL1, hL2, hL3, hL4⟩ := HI.out
      obtain ⟨m, hm⟩ : ∃ m, m = min k (n - k) := ⟨_, rfl⟩
      have hm1 : 1 ≤ m := by omega
      have hm2 : k + m ≤ n := by omega
      have kz : (k : Int) < (n : Int) := by omega
      have kz2 : (k : Int) ≤ (n : Int) := by omega
      have k0 : (0 : Int) ≤ (k : Int) := by omega
      have knk : ¬ n = k := by omega
      have HLL := Lib.hid (And.intro hL1 (And.intro hL2 (And.intro hL3 (And.intro hL4 (And.intro hm HGG.out)))))
      clear hL1 hL2 hL3 hL4 hm HI
      go_wp2_with fail
      have C1 : Hid ((List.replicate m neg1).length = Nat.min k (n - k)) := by show _ = _; rw [List.length_replicate, HLL.out.2.2.2.2.1]
      have C2 : Hid (∀ W : World, wr.heap = W.heap → 0 < (List.replicate m neg1).length → (some (⟨g, k, none⟩ : Addr)) = some ⟨g, k, none⟩ ∧ ∃ ad, (some (⟨g, 0, none⟩ : Addr)) = some ad ∧ ∀ j v, (List.replicate m neg1)[j]? = some v → W.cell? (ad.add j) = some v) := fun W hW _ => by
        refine ⟨rfl, ⟨g, 0, none⟩, rfl, fun j v hj => ?_⟩
        have e : j < m ∧ neg1 = v := by
          rw [List.getElem?_replicate] at hj
          by_cases q : j < m
          · rw [if_pos q] at hj; exact ⟨q, by injection hj⟩
          · rw [if_neg q] at hj; cases hj
        rw [← e.2]
        have h3 := HLL.out.2.2.1 j (by have := HLL.out.2.2.2.2.1; omega)
        have ha : (⟨g, 0, none⟩ : Addr).add j = ⟨g, j, none⟩ := by unfold Addr.add; split <;> simp_all
        rw [ha]
        simp only [World.cell?, ← hW, HLL.out.1]
        simpa using h3
      have C3 : Hid (k + (List.replicate m neg1).length ≤ L.length) := by show _ ≤ _; rw [List.length_replicate, HLL.out.2.1]; exact hm2
      have C4 : Hid (∀ v ∈ List.replicate m neg1, v.oneCell' = true) := fun v hv => by rw [(List.mem_replicate.1 hv).2]; rfl
      have C5 : Hid (w1.heap.size ≤ g) := by show _ ≤ _; rw [HLL.out.2.2.2.2.2]; exact Nat.le_refl _
      have C6 : Hid (wr.drew.heap[g]? = some (.cells L.toArray 3 (0, 0))) := HLL.out.1
      have C7 : Hid (Below w1.heap.size w1 wr.drew) := HLL.out.2.2.2.1.drew
      have C8 := C2.out wr.drew rfl
      have C8' := Lib.hid C8
      clear C2 C8
      go_region_law (refine step_copy_splice rfl (.tmp 41) (.tmp 44) 23 23 rfl 3 Tryd.underlying23 infoSz (some ⟨g, k, none⟩) (some ⟨g, 0, none⟩) (n - k) (n - k) k n (by simp [Act.eval, Act.put]) (by simp [Act.eval, Act.put]) g k L 3 C6.out (List.replicate m neg1) C1.out C8'.out C3.out C4.out w1.heap.size w1 C7.out C5.out ?_; intro w4 hg4 hb4)
      have hw2 : IntKind.i64.wrap ((k : Int) + (m : Int)) = (k : Int) + (m : Int) := IntWalk.i64_in _ (by omega)
      go_wp2_with fail
      go_roundw
      case rel => exact ⟨k + m, by go_num, by omega, by omega, RepI.step (wr := wr) L HLL.out.2.1 HLL.out.2.2.1 hm2 hg4 hb4⟩
      case measure => simp [intOf]; omega
    · have hke : k = n := by omega
      subst hke
      have hkk : ¬ ((k : Int) < (k : Int)) := by omega
      go_wp2_with fail
      go_ret
      exact ⟨g, rfl, by rw [HGG.out]; exact Nat.le_refl _, HI.out.whole, HI.out.choose_spec.2.2.2⟩
end Go.Proofs.YthpamogomfleoaaDoor.Rc
/- Contract of newPropagation. -/
namespace Go.Proofs.YthpamogomfleoaaDoor.Rc
open Go Go.RowKit Go.Lib

theorem infoBool : (Tryd.prog.info? 4).map (fun i => (i.zero, i.size, i.bytes)) = some (some (.bool false), 1, 1) := by kernel_rfl
/-- What newPropagation answers. -/
def NwP (w : World) (V : Nat) (e : Ending) (w' : World) : Prop :=
  ∃ hb rb, e = .returned (.agg #[.int .i64 (V : Int), .slice none 0 0, .int .i64 0, .slice (some ⟨hb, 0, none⟩) (2 * V + 1) (2 * V + 1), .slice (some ⟨rb, 0, none⟩) (2 * V + 1) (2 * V + 1)]) ∧
    w.heap.size ≤ hb ∧ w.heap.size ≤ rb ∧ hb ≠ rb ∧ w'.heap[hb]? = some (.cells (madeCells #[.bool false] (2 * V + 1)) 4 (0, 0)) ∧ w'.heap[rb]? = some (.cells (List.replicate (2 * V + 1) neg1).toArray 3 (0, 0)) ∧ Below w.heap.size w w'

/-- The result's cell, new. -/
def Sh (p : Nat) (w W : World) : Prop := W.heap.size = p + 1 ∧ W.heap[p]? = some (.cells #[.int .i64 0, .slice none 0 0, .int .i64 0, .slice none 0 0, .slice none 0 0] 53 (0, 0)) ∧ Below p w W
theorem Sh.facts {p : Nat} {w W W' : World} (h : Sh p w W) (hb : Below (p + 1) W W') :
    W'.cell? ⟨p, 0, none⟩ = some (.int .i64 0) ∧ W'.cell? ⟨p, 1, none⟩ = some (.slice none 0 0) ∧ W'.cell? ⟨p, 2, none⟩ = some (.int .i64 0) ∧ W'.cell? ⟨p, 3, none⟩ = some (.slice none 0 0) ∧ W'.cell? ⟨p, 4, none⟩ = some (.slice none 0 0) ∧
    W'.frozen? ⟨p, 0, none⟩ = false ∧ W'.frozen? ⟨p, 1, none⟩ = false ∧ W'.frozen? ⟨p, 2, none⟩ = false ∧ W'.frozen? ⟨p, 3, none⟩ = false ∧ W'.frozen? ⟨p, 4, none⟩ = false := by
  have e : W'.heap[p]? = _ := (hb.block p (by omega)).trans h.2.1
  simp [World.cell?, World.frozen?, e]
theorem sh1 {p : Nat} {w W W' : World} {o1 o2 : Obj} (h : Sh p w W) (hb : Below ((W.alloc o1).alloc o2).drew.heap.size ((W.alloc o1).alloc o2).drew W') : Below (p + 1) W W' := by
  have hs := h.1
  have hb0 : Below (p + 1) W ((W.alloc o1).alloc o2).drew := (((Below.refl _ _).alloc (by omega) _).alloc (by simp; omega) _).drew
  exact hb0.trans (hb.mono (by simp; omega))
theorem sh2 {p : Nat} {w W W' : World} {o1 : Obj} (h : Sh p w W) (hb : Below (W.alloc o1).drew.heap.size (W.alloc o1).drew W') : Below (p + 1) W W' := by
  have hs := h.1
  have hb0 : Below (p + 1) W (W.alloc o1).drew := ((Below.refl _ _).alloc (by omega) _).drew
  exact hb0.trans (hb.mono (by simp; omega))
theorem bAl {p : Nat} {W1 W : World} (h1 : W1.heap.size = p + 1) (h : Hid (Below (p + 1) W1 W)) (o : Obj) : Hid (Below (p + 1) W1 (W.alloc o)) := h.out.alloc (by have := h.out.size; omega) o
theorem bCall {p : Nat} {W1 W W' : World} (h1 : W1.heap.size = p + 1) (h : Hid (Below (p + 1) W1 W)) (hb : Below W.heap.size W W') : Hid (Below (p + 1) W1 W') := h.out.trans (hb.mono (by have := h.out.size; omega))
theorem new_cell0 (w : World) (v : Value) (T : TypeId) : (w.alloc (.cells #[v] T)).drew.cell? ⟨w.heap.size, 0, none⟩ = some v := by
  show (w.alloc (.cells #[v] T)).cell? _ = _
  rw [Lib.cell_of_heap (b := w.heap.size) (cs := #[v]) (T := T) (fr := (0, 0)) (by unfold World.alloc; simp)]
  rfl
theorem new_cell1 (w : World) (v : Value) (T : TypeId) (o : Obj) : ((w.alloc (.cells #[v] T)).alloc o).drew.cell? ⟨w.heap.size, 0, none⟩ = some v := by
  show ((w.alloc (.cells #[v] T)).alloc o).cell? _ = _
  have := new_cell0 w v T
  have h2 : (w.alloc (.cells #[v] T)).cell? ⟨w.heap.size, 0, none⟩ = some v := this
  rw [World.cell?_alloc_some _ _ _ (by rw [h2]; rfl), h2]
theorem new_cell2 (w : World) (v : Value) (T : TypeId) (o : Obj) : ((w.alloc o).alloc (.cells #[v] T)).drew.cell? ⟨w.heap.size + 1, 0, none⟩ = some v := by
  have := new_cell0 (w.alloc o) v T
  rw [World.size_alloc] at this
  exact this

def sets5 (W : World) (p : Nat) (v0 v1 v2 v3 v4 : Value) : World := ((((W.setCell ⟨p, 0, none⟩ v0).setCell ⟨p, 1, none⟩ v1).setCell ⟨p, 2, none⟩ v2).setCell ⟨p, 3, none⟩ v3).setCell ⟨p, 4, none⟩ v4
theorem sets5_at {W : World} {p : Nat} {a b c d e : Value} {T : TypeId} {fr : Nat × Nat} (h : W.heap[p]? = some (.cells #[a, b, c, d, e] T fr)) (v0 v1 v2 v3 v4 : Value) : (sets5 W p v0 v1 v2 v3 v4).heap[p]? = some (.cells #[v0, v1, v2, v3, v4] T fr) := by
  have h1 := block_set h 0 v0
  have h2 := block_set h1 1 v1
  have h3 := block_set h2 2 v2
  have h4 := block_set h3 3 v3
  have h5 := block_set h4 4 v4
  unfold sets5
  simpa using h5
theorem set_other (W : World) (p i k : Nat) (v : Value) (h : k ≠ p) : (W.setCell ⟨p, i, none⟩ v).heap[k]? = W.heap[k]? := Below.heap_setCell _ _ _ _ h
theorem sets5_other (W : World) (p k : Nat) (v0 v1 v2 v3 v4 : Value) (h : k ≠ p) : (sets5 W p v0 v1 v2 v3 v4).heap[k]? = W.heap[k]? := by
  unfold sets5
  rw [set_other _ _ _ _ _ h, set_other _ _ _ _ _ h, set_other _ _ _ _ _ h, set_other _ _ _ _ _ h, set_other _ _ _ _ _ h]
theorem below_sets5 {w W : World} {p : Nat} (h : Below p w W) (v0 v1 v2 v3 v4 : Value) : Below p w (sets5 W p v0 v1 v2 v3 v4) :=
  ((((h.setCell (Nat.le_refl _) _).setCell (Nat.le_refl _) _).setCell (Nat.le_refl _) _).setCell (Nat.le_refl _) _).setCell (Nat.le_refl _) _
theorem lookA (W : World) (a b : Obj) : ((W.alloc a).alloc b).drew.heap[W.heap.size]? = some a := by
  show ((W.alloc a).alloc b).heap[_]? = _
  rw [heap_alloc_old _ _ (by simp), heap_alloc_new]
theorem lookB (W : World) (a b : Obj) : ((W.alloc a).alloc b).drew.heap[W.heap.size + 1]? = some b := by
  show ((W.alloc a).alloc b).heap[_]? = _
  rw [← World.size_alloc W a, heap_alloc_new]
theorem NwP.mk {w W1 Wf : World} {V hb rb : Nat} (HS : Sh w.heap.size w W1) (hx : Below (w.heap.size + 1) W1 Wf) (h1 : w.heap.size + 1 ≤ hb) (h2 : w.heap.size + 1 ≤ rb) (hne : hb ≠ rb) (m : Wf.heap[hb]? = some (.cells (madeCells #[.bool false] (2 * V + 1)) 4 (0, 0))) (r : Wf.heap[rb]? = some (.cells (List.replicate (2 * V + 1) neg1).toArray 3 (0, 0))) :
    (sets5 Wf w.heap.size (.int .i64 (V : Int)) (.slice none 0 0) (.int .i64 0) (.slice (some ⟨hb, 0, none⟩) (2 * V + 1) (2 * V + 1)) (.slice (some ⟨rb, 0, none⟩) (2 * V + 1) (2 * V + 1))).heap[w.heap.size]? = some (.cells #[.int .i64 (V : Int), .slice none 0 0, .int .i64 0, .slice (some ⟨hb, 0, none⟩) (2 * V + 1) (2 * V + 1), .slice (some ⟨rb, 0, none⟩) (2 * V + 1) (2 * V + 1)] 53 (0, 0)) ∧
    NwP w V (.returned (.agg #[.int .i64 (V : Int), .slice none 0 0, .int .i64 0, .slice (some ⟨hb, 0, none⟩) (2 * V + 1) (2 * V + 1), .slice (some ⟨rb, 0, none⟩) (2 * V + 1) (2 * V + 1)])) (sets5 Wf w.heap.size (.int .i64 (V : Int)) (.slice none 0 0) (.int .i64 0) (.slice (some ⟨hb, 0, none⟩) (2 * V + 1) (2 * V + 1)) (.slice (some ⟨rb, 0, none⟩) (2 * V + 1) (2 * V + 1))) := by
  have hp : Wf.heap[w.heap.size]? = _ := (hx.block _ (by omega)).trans HS.2.1
  refine ⟨sets5_at hp _ _ _ _ _, hb, rb, rfl, by omega, by omega, hne, ?_, ?_, below_sets5 (HS.2.2.trans (hx.mono (by omega))) _ _ _ _ _⟩
  · rw [sets5_other _ _ _ _ _ _ _ _ (by omega)]; exact m
  · rw [sets5_other _ _ _ _ _ _ _ _ (by omega)]; exact r

set_option maxRecDepth 100000 in
set_option maxHeartbeats 4000000 in
theorem newPropagation_any (w : World) (V : Nat) (hV : V ≤ 100000) :
    Calls Tryd.prog 37 #[.int .i64 (V : Int)] w (NwP w V) := by
  have HR : Hid (∀ (W : World) (xb : Nat), W.cell? ⟨xb, 0, none⟩ = some neg1 → Calls Tryd.prog 55 #[.slice (some ⟨xb, 0, none⟩) 1 1, .int .i64 (2 * (V : Int) + 1)] W fun e w' => ∃ g, e = .returned (.slice (some ⟨g, 0, none⟩) (2 * V + 1) (2 * V + 1)) ∧ W.heap.size ≤ g ∧ w'.heap[g]? = some (.cells (List.replicate (2 * V + 1) neg1).toArray 3 (0, 0)) ∧ Below W.heap.size W w') := fun W xb h => by
    have := Repeat_any W xb (2 * V + 1) h (by omega) (by omega)
    push_cast at this
    exact this
  have hmk := fun W => run_make_row' (P := Tryd.prog) 29 4 (.bool false) 1 Tryd.underlying29 infoBool rfl .i64 .i64 (2 * V + 1) (by omega) (by omega) W
  push_cast at hmk
  have hw1 : IntKind.i64.wrap (2 * (V : Int)) = 2 * (V : Int) := IntWalk.i64_in _ (by omega)
  have hw2 : IntKind.i64.wrap (2 * (V : Int) + 1) = 2 * (V : Int) + 1 := IntWalk.i64_in _ (by omega)
  go_enter Tryd.func37, Tryd.ntmps37
  go_wp2_with fail
  have HS : Hid (Sh w.heap.size w (w.alloc (.cells #[.int .i64 0, .slice none 0 0, .int .i64 0, .slice none 0 0, .slice none 0 0] 53))) := by
    refine ⟨by simp, ?_, (Below.refl _ _).alloc (Nat.le_refl _) _⟩
    unfold World.alloc; simp
  generalize w.alloc (.cells #[.int .i64 0, .slice none 0 0, .int .i64 0, .slice none 0 0, .slice none 0 0] 53) = W1 at *
  refine wp_region_L (S := fun W' => Hid (Below (w.heap.size + 1) W1 W')) 12 (by kernel_rfl) (((Below.refl _ _).drew : Below (w.heap.size + 1) W1 W1.drew)) (fun hSx => ?_)
  refine wpAnyL_take (i := 0) (v := ?vg0_0) rfl (by kernel_rfl) (fun _ _ _ h => h) ?g0_0 rfl hSx ?_
  case g0_0 => (intro w' hSw; (try dsimp only at hSw); go_split_ands; go_simp; try with_reducible rfl)
  clear hSx; intro hSx
  try simp only [Act.put, List.getElem_toArray, List.getElem_cons_succ, List.getElem_cons_zero, List.setIfInBounds_toArray, List.set_cons_zero, List.set_cons_succ]
  refine wpAnyL_take (i := 1) (v := ?vg1_1) rfl (by kernel_rfl) (fun _ _ _ h => h) ?g1_1 rfl hSx ?_
  case g1_1 => (intro w' hSw; (try dsimp only at hSw); go_split_ands; go_simp; try with_reducible rfl)
  clear hSx; intro hSx
  try simp only [Act.put, List.getElem_toArray, List.getElem_cons_succ, List.getElem_cons_zero, List.setIfInBounds_toArray, List.set_cons_zero, List.set_cons_succ]
  refine wpAnyL_take (i := 2) (v := ?vg2_2) rfl (by kernel_rfl) (fun _ _ _ h => h) ?g2_2 rfl hSx ?_
  case g2_2 => (intro w' hSw; (try dsimp only at hSw); go_split_ands; go_simp; try with_reducible rfl)
  clear hSx; intro hSx
  try simp only [Act.put, List.getElem_toArray, List.getElem_cons_succ, List.getElem_cons_zero, List.setIfInBounds_toArray, List.set_cons_zero, List.set_cons_succ]
  refine wpAnyL_take (i := 3) (v := ?vg3_3) rfl (by kernel_rfl) (fun _ _ _ h => h) ?g3_3 rfl hSx ?_
  case g3_3 => (intro w' hSw; (try dsimp only at hSw); go_split_ands; go_simp; try with_reducible rfl)
  clear hSx; intro hSx
  try simp only [Act.put, List.getElem_toArray, List.getElem_cons_succ, List.getElem_cons_zero, List.setIfInBounds_toArray, List.set_cons_zero, List.set_cons_succ]
  refine wpAnyL_take (i := 6) (v := ?vg4_6) rfl (by kernel_rfl) (fun _ _ _ h => h) ?g4_6 rfl hSx ?_
  case g4_6 => (intro w' hSw; (try dsimp only at hSw); go_split_ands; go_simp; try with_reducible rfl)
  clear hSx; intro hSx
  try simp only [Act.put, List.getElem_toArray, List.getElem_cons_succ, List.getElem_cons_zero, List.setIfInBounds_toArray, List.set_cons_zero, List.set_cons_succ]
  refine wpAnyL_take (i := 7) (v := ?vg5_7) rfl (by kernel_rfl) (fun _ _ _ h => h) ?g5_7 rfl hSx ?_
  case g5_7 => (intro w' hSw; (try dsimp only at hSw); go_split_ands; go_simp; try with_reducible rfl)
  clear hSx; intro hSx
  try simp only [Act.put, List.getElem_toArray, List.getElem_cons_succ, List.getElem_cons_zero, List.setIfInBounds_toArray, List.set_cons_zero, List.set_cons_succ]
  refine wpAnyL_take (i := 8) (v := ?vg6_8) rfl (by kernel_rfl) (fun _ _ _ h => h) ?g6_8 rfl hSx ?_
  case g6_8 => (intro w' hSw; (try dsimp only at hSw); go_split_ands; go_simp; try with_reducible rfl)
  clear hSx; intro hSx
  try simp only [Act.put, List.getElem_toArray, List.getElem_cons_succ, List.getElem_cons_zero, List.setIfInBounds_toArray, List.set_cons_zero, List.set_cons_succ]
  (try dsimp only at hSx); go_split_ands
  refine' wpAnyL_two (i := 4) (j := 5) ?tag7_4 ?tbg7_4 ?tb2g7_4 ?tcg7_4 ?tc2g7_4 ?tdg7_4 ?teg7_4
  case tbg7_4 => rfl
  case tb2g7_4 => rfl
  case tag7_4 => kernel_rfl
  case tcg7_4 => rfl
  case tc2g7_4 => rfl
  case tdg7_4 =>
    intro K hK
    go_simp
    refine hK.out _ _ (bAl HS.out.1 hSx _) (fun hSx => ?_)
    clear hK K
    try simp only [Act.put, List.getElem_toArray, List.getElem_cons_succ, List.getElem_cons_zero, List.setIfInBounds_toArray, List.set_cons_zero, List.set_cons_succ]
    (try dsimp only at hSx); go_split_ands
    refine' wpAnyL_one (i := 5) ?tag8_5 ?tbg8_5 ?tcg8_5 ?tdg8_5
    case tbg8_5 => rfl
    case tag8_5 => kernel_rfl
    case tcg8_5 => rfl
    intro K hK
    go_simp
    refine hK.out _ _ (bAl HS.out.1 hSx _) (fun hSx => ?_)
    clear hK K
    try simp only [Act.put, List.getElem_toArray, List.getElem_cons_succ, List.getElem_cons_zero, List.setIfInBounds_toArray, List.set_cons_zero, List.set_cons_succ]
    (try dsimp only at hSx); go_split_ands
    refine' wpAnyL_one (i := 9) ?tag9_9 ?tbg9_9 ?tcg9_9 ?tdg9_9
    case tbg9_9 => rfl
    case tag9_9 => kernel_rfl
    case tcg9_9 => rfl
    intro K hK
    go_simp; refine (HR.out _ _ (by first | exact new_cell0 _ _ _ | exact new_cell1 _ _ _ _ | exact new_cell2 _ _ _ _)).mono ?_; rintro e w' ⟨g, rfl, hg1, hg2, hg3⟩; (try dsimp only)
    refine hK.out _ _ (bCall HS.out.1 hSx hg3) (fun hSx => ?_)
    clear hK K
    try simp only [Act.put, List.getElem_toArray, List.getElem_cons_succ, List.getElem_cons_zero, List.setIfInBounds_toArray, List.set_cons_zero, List.set_cons_succ]
    refine wpAnyL_take (i := 10) (v := ?vg10_10) rfl (by kernel_rfl) (fun _ _ _ h => h) ?g10_10 rfl hSx ?_
    case g10_10 => (intro w' hSw; (try dsimp only at hSw); go_split_ands; go_simp; try with_reducible rfl)
    clear hSx; intro hSx
    try simp only [Act.put, List.getElem_toArray, List.getElem_cons_succ, List.getElem_cons_zero, List.setIfInBounds_toArray, List.set_cons_zero, List.set_cons_succ]
    (try dsimp only at hSx); go_split_ands
    refine' wpAnyL_last (i := 11) ?tag11_11 ?tbg11_11 ?tcg11_11 ?tdg11_11
    case tbg11_11 => rfl
    case tag11_11 => kernel_rfl
    case tcg11_11 => rfl
    intro K hK
    obtain ⟨c0, c1, c2, c3, c4, z0, z1, z2, z3, z4⟩ := Sh.facts HS.out hSx.out; go_simp
    refine hK.out _ _ ?_
    clear hK K
    have hs := HS.out.1
    have hlg := lt_of_block hg2
    have hsz := hg3.size
    simp only [heap_drew, World.size_alloc] at hg1 hsz
    have E := by
      first
      | exact NwP.mk (V := V) (hb := W1.heap.size) (rb := g) HS.out hSx.out (by omega) (by omega) (by omega) ((hg3.block _ (by simp; omega)).trans (lookA _ _ _)) hg2
      | exact NwP.mk (V := V) (hb := W1.heap.size + 1) (rb := g) HS.out hSx.out (by omega) (by omega) (by omega) ((hg3.block _ (by simp)).trans (lookB _ _ _)) hg2
      | exact NwP.mk (V := V) (hb := w'.heap.size) (rb := g) HS.out hSx.out (by omega) (by omega) (by omega) (heap_alloc_new w' _) ((heap_alloc_old w' _ hlg).trans hg2)
    unfold sets5 at E
    go_wp2_with fail
    refine bodyPost_ret (v := _) (results_cell_row rfl _ _ w.heap.size 53 _ (0, 0) _ rfl E.1 Tryd.underlying53 rfl (by kernel_rfl)) rfl E.2
  case teg7_4 =>
    intro K hK
    go_simp
    refine hK.out _ _ (bAl HS.out.1 hSx _) (fun hSx => ?_)
    clear hK K
    try simp only [Act.put, List.getElem_toArray, List.getElem_cons_succ, List.getElem_cons_zero, List.setIfInBounds_toArray, List.set_cons_zero, List.set_cons_succ]
    (try dsimp only at hSx); go_split_ands
    refine' wpAnyL_two (i := 4) (j := 9) ?tag12_4 ?tbg12_4 ?tb2g12_4 ?tcg12_4 ?tc2g12_4 ?tdg12_4 ?teg12_4
    case tbg12_4 => rfl
    case tb2g12_4 => rfl
    case tag12_4 => kernel_rfl
    case tcg12_4 => rfl
    case tc2g12_4 => rfl
    case tdg12_4 =>
      intro K hK
      go_simp
      refine hK.out _ _ (bAl HS.out.1 hSx _) (fun hSx => ?_)
      clear hK K
      try simp only [Act.put, List.getElem_toArray, List.getElem_cons_succ, List.getElem_cons_zero, List.setIfInBounds_toArray, List.set_cons_zero, List.set_cons_succ]
      (try dsimp only at hSx); go_split_ands
      refine' wpAnyL_one (i := 9) ?tag13_9 ?tbg13_9 ?tcg13_9 ?tdg13_9
      case tbg13_9 => rfl
      case tag13_9 => kernel_rfl
      case tcg13_9 => rfl
      intro K hK
      go_simp; refine (HR.out _ _ (by first | exact new_cell0 _ _ _ | exact new_cell1 _ _ _ _ | exact new_cell2 _ _ _ _)).mono ?_; rintro e w' ⟨g, rfl, hg1, hg2, hg3⟩; (try dsimp only)
      refine hK.out _ _ (bCall HS.out.1 hSx hg3) (fun hSx => ?_)
      clear hK K
      try simp only [Act.put, List.getElem_toArray, List.getElem_cons_succ, List.getElem_cons_zero, List.setIfInBounds_toArray, List.set_cons_zero, List.set_cons_succ]
      refine wpAnyL_take (i := 10) (v := ?vg14_10) rfl (by kernel_rfl) (fun _ _ _ h => h) ?g14_10 rfl hSx ?_
      case g14_10 => (intro w' hSw; (try dsimp only at hSw); go_split_ands; go_simp; try with_reducible rfl)
      clear hSx; intro hSx
      try simp only [Act.put, List.getElem_toArray, List.getElem_cons_succ, List.getElem_cons_zero, List.setIfInBounds_toArray, List.set_cons_zero, List.set_cons_succ]
      (try dsimp only at hSx); go_split_ands
      refine' wpAnyL_last (i := 11) ?tag15_11 ?tbg15_11 ?tcg15_11 ?tdg15_11
      case tbg15_11 => rfl
      case tag15_11 => kernel_rfl
      case tcg15_11 => rfl
      intro K hK
      obtain ⟨c0, c1, c2, c3, c4, z0, z1, z2, z3, z4⟩ := Sh.facts HS.out hSx.out; go_simp
      refine hK.out _ _ ?_
      clear hK K
      have hs := HS.out.1
      have hlg := lt_of_block hg2
      have hsz := hg3.size
      simp only [heap_drew, World.size_alloc] at hg1 hsz
      have E := by
        first
        | exact NwP.mk (V := V) (hb := W1.heap.size) (rb := g) HS.out hSx.out (by omega) (by omega) (by omega) ((hg3.block _ (by simp; omega)).trans (lookA _ _ _)) hg2
        | exact NwP.mk (V := V) (hb := W1.heap.size + 1) (rb := g) HS.out hSx.out (by omega) (by omega) (by omega) ((hg3.block _ (by simp)).trans (lookB _ _ _)) hg2
        | exact NwP.mk (V := V) (hb := w'.heap.size) (rb := g) HS.out hSx.out (by omega) (by omega) (by omega) (heap_alloc_new w' _) ((heap_alloc_old w' _ hlg).trans hg2)
      unfold sets5 at E
      go_wp2_with fail
      refine bodyPost_ret (v := _) (results_cell_row rfl _ _ w.heap.size 53 _ (0, 0) _ rfl E.1 Tryd.underlying53 rfl (by kernel_rfl)) rfl E.2
    case teg12_4 =>
      intro K hK
      go_simp; refine (HR.out _ _ (by first | exact new_cell0 _ _ _ | exact new_cell1 _ _ _ _ | exact new_cell2 _ _ _ _)).mono ?_; rintro e w' ⟨g, rfl, hg1, hg2, hg3⟩; (try dsimp only)
      refine hK.out _ _ (bCall HS.out.1 hSx hg3) (fun hSx => ?_)
      clear hK K
      try simp only [Act.put, List.getElem_toArray, List.getElem_cons_succ, List.getElem_cons_zero, List.setIfInBounds_toArray, List.set_cons_zero, List.set_cons_succ]
      (try dsimp only at hSx); go_split_ands
      refine' wpAnyL_one (i := 4) ?tag16_4 ?tbg16_4 ?tcg16_4 ?tdg16_4
      case tbg16_4 => rfl
      case tag16_4 => kernel_rfl
      case tcg16_4 => rfl
      intro K hK
      go_simp
      refine hK.out _ _ (bAl HS.out.1 hSx _) (fun hSx => ?_)
      clear hK K
      try simp only [Act.put, List.getElem_toArray, List.getElem_cons_succ, List.getElem_cons_zero, List.setIfInBounds_toArray, List.set_cons_zero, List.set_cons_succ]
      refine wpAnyL_take (i := 10) (v := ?vg17_10) rfl (by kernel_rfl) (fun _ _ _ h => h) ?g17_10 rfl hSx ?_
      case g17_10 => (intro w' hSw; (try dsimp only at hSw); go_split_ands; go_simp; try with_reducible rfl)
      clear hSx; intro hSx
      try simp only [Act.put, List.getElem_toArray, List.getElem_cons_succ, List.getElem_cons_zero, List.setIfInBounds_toArray, List.set_cons_zero, List.set_cons_succ]
      (try dsimp only at hSx); go_split_ands
      refine' wpAnyL_last (i := 11) ?tag18_11 ?tbg18_11 ?tcg18_11 ?tdg18_11
      case tbg18_11 => rfl
      case tag18_11 => kernel_rfl
      case tcg18_11 => rfl
      intro K hK
      obtain ⟨c0, c1, c2, c3, c4, z0, z1, z2, z3, z4⟩ := Sh.facts HS.out hSx.out; go_simp
      refine hK.out _ _ ?_
      clear hK K
      have hs := HS.out.1
      have hlg := lt_of_block hg2
      have hsz := hg3.size
      simp only [heap_drew, World.size_alloc] at hg1 hsz
      have E := by
        first
        | exact NwP.mk (V := V) (hb := W1.heap.size) (rb := g) HS.out hSx.out (by omega) (by omega) (by omega) ((hg3.block _ (by simp; omega)).trans (lookA _ _ _)) hg2
        | exact NwP.mk (V := V) (hb := W1.heap.size + 1) (rb := g) HS.out hSx.out (by omega) (by omega) (by omega) ((hg3.block _ (by simp)).trans (lookB _ _ _)) hg2
        | exact NwP.mk (V := V) (hb := w'.heap.size) (rb := g) HS.out hSx.out (by omega) (by omega) (by omega) (heap_alloc_new w' _) ((heap_alloc_old w' _ hlg).trans hg2)
      unfold sets5 at E
      go_wp2_with fail
      refine bodyPost_ret (v := _) (results_cell_row rfl _ _ w.heap.size 53 _ (0, 0) _ rfl E.1 Tryd.underlying53 rfl (by kernel_rfl)) rfl E.2
end Go.Proofs.YthpamogomfleoaaDoor.Rc
/- A new checker: its memory, and what it knows. -/
namespace Go.Proofs.YthpamogomfleoaaDoor.Rc
open Go Go.RowKit Go.Lib Go.Proofs.YthpamogomfleoaaDoor.Up

def St.fresh (V : Nat) : St := { V := V, asg := [], head := 0, val := fun _ => false, rsn := fun _ => -1, N := 0, lits := fun _ => [], cps := fun _ => 0, plc := fun _ => none, sh := [], wat := fun _ => [], conf := -1, stale := false }
theorem new_base (V : Nat) : Base (St.fresh V) fun _ => False where
  t := ⟨fun l h => (by cases h), List.nodup_nil, fun n _ => iff_of_false Bool.false_ne_true (fun h => by cases h), fun l h => (by cases h), Nat.le_refl _⟩
  c := ⟨fun p h => absurd h (Nat.not_lt_zero p), fun p h => absurd h (Nat.not_lt_zero p), fun p h => absurd h (Nat.not_lt_zero p)⟩
  w := ⟨fun m _ p h => (by cases h), fun p h => absurd h (Nat.not_lt_zero p), fun m _ => List.nodup_nil⟩
  r := fun _ i l h => by cases h
  cf := fun h => absurd rfl h
  h := fun _ => ⟨fun p h => absurd h (Nat.not_lt_zero p), rfl⟩
  sh1 := fun p h => by cases h
  sh2 := fun p h => absurd h (Nat.not_lt_zero p)
  sh3 := List.nodup_nil
  un := fun _ p h => absurd h (Nat.not_lt_zero p)
theorem new_plc (V : Nat) : PlcOk (St.fresh V) := fun t p => iff_of_false (fun h => by cases h) (fun h => absurd h.1 (Nat.not_lt_zero p))
theorem new_cnt (V : Nat) : Cnt (St.fresh V) [] := fun t => rfl

def roleOf (s hb rb mb wb : Nat) (k : Nat) : Role := if k = s then .chk else if k = hb then .hol else if k = rb then .rsn else if k = mb then .map else if k = wb then .wat else .old
def sl (b n : Nat) : Value := .slice (some ⟨b, 0, none⟩) n n
def hdOf (V hb rb mb wb : Nat) : Array Value := #[.int .i64 (V : Int), .slice none 0 0, .int .i64 0, sl hb (2 * V + 1), sl rb (2 * V + 1), .slice none 0 0, .map (some mb), .slice none 0 0, sl wb (2 * V + 1), .int .i64 (-1), .bool false]
theorem made_at (z : Value) (n i : Nat) (h : i < n) : (madeCells #[z] n)[i]? = some z := by simp [madeCells, h, Nat.mod_one]
theorem own_none (w : World) (T : TypeId) (sz : Nat) : w.ownsRow 0 T sz (.slice none 0 0) 0 [] := ⟨by simp, Or.inl ⟨rfl, rfl⟩⟩

set_option maxHeartbeats 1000000 in
theorem new_mem {W : World} {V s hb rb mb wb : Nat} (hV : V ≤ 100000)
    (h1 : W.heap[s]? = some (.cells (hdOf V hb rb mb wb) 58 (0, 0)))
    (h2 : W.heap[hb]? = some (.cells (madeCells #[.bool false] (2 * V + 1)) 4 (0, 0)))
    (h3 : W.heap[rb]? = some (.cells (List.replicate (2 * V + 1) neg1).toArray 3 (0, 0)))
    (h4 : W.heap[mb]? = some (.map #[] 0))
    (h5 : W.heap[wb]? = some (.cells (madeCells #[.slice none 0 0] (2 * V + 1)) 23 (0, 0))) :
    ∃ Y, Y.s = s ∧ Mem W Y (St.fresh V) none ∧ ∀ B, B ≤ s → B ≤ hb → B ≤ rb → B ≤ mb → B ≤ wb → ∀ k, k < B → Y.ρ k = .old := by
  have e1 : hb ≠ s := by rintro rfl; rw [h1] at h2; simp at h2
  have e2 : rb ≠ s := by rintro rfl; rw [h1] at h3; simp at h3
  have e3 : rb ≠ hb := by rintro rfl; rw [h2] at h3; simp at h3
  have e4 : mb ≠ s := by rintro rfl; rw [h1] at h4; simp at h4
  have e5 : mb ≠ hb := by rintro rfl; rw [h2] at h4; simp at h4
  have e6 : mb ≠ rb := by rintro rfl; rw [h3] at h4; simp at h4
  have e7 : wb ≠ s := by rintro rfl; rw [h1] at h5; simp at h5
  have e8 : wb ≠ hb := by rintro rfl; rw [h2] at h5; simp at h5
  have e9 : wb ≠ rb := by rintro rfl; rw [h3] at h5; simp at h5
  have e10 : wb ≠ mb := by rintro rfl; rw [h4] at h5; simp at h5
  have l1 := lt_of_block h1
  have l2 := lt_of_block h2
  have l3 := lt_of_block h3
  have l4 := lt_of_block h4
  have l5 := lt_of_block h5
  refine ⟨⟨roleOf s hb rb mb wb, s, fun i => (hdOf V hb rb mb wb)[i]?.getD undef, fun _ => .slice none 0 0, fun _ => .slice none 0 0⟩, rfl, ?_, ?_⟩
  · intro f
    cases f with
    | chk =>
      refine ⟨⟨_, h1, rfl, fun i hi => ?_⟩, by simp [roleOf], hV, fun k hk => ?_⟩
      · have hs : (hdOf V hb rb mb wb).size = 11 := rfl
        have hi' : i < (hdOf V hb rb mb wb).size := by rw [hs]; exact hi
        show _ = some ((hdOf V hb rb mb wb)[i]?.getD undef)
        rw [Array.getElem?_eq_getElem hi']; rfl
      · show roleOf s hb rb mb wb k = .old
        unfold roleOf
        rw [if_neg (by omega), if_neg (by omega), if_neg (by omega), if_neg (by omega), if_neg (by omega)]
    | vars => rfl
    | asg => exact ⟨own_none _ _ _, fun g hg => by cases hg⟩
    | head => rfl
    | hol => exact ⟨hb, rfl, ⟨_, h2, by simp [size_madeCells, St.fresh], fun i hi => made_at _ _ _ hi⟩, by simp [roleOf, e1]⟩
    | rsn => exact ⟨rb, rfl, ⟨_, h3, by simp [St.fresh], fun i hi => by have hi2 : i < 2 * V + 1 := hi; simp [hi2]; rfl⟩, by simp [roleOf, e2, e3]⟩
    | rcs => exact ⟨own_none _ _ _, fun g hg => by cases hg⟩
    | lts => exact fun p hp => absurd hp (Nat.not_lt_zero p)
    | plc =>
      refine ⟨mb, .map [], rfl, by simp [roleOf, e4, e5, e6], ?_, ?_⟩
      · obtain ⟨es, clock, hbk, F, hs, hD⟩ := World.ownsMap_made (H := Unit) W Tryd.prog 9 (plainElem Tryd.prog 3)
        rw [show (W.alloc (.map #[] 0)).heap[W.heap.size]? = some (.map #[] 0) from heap_alloc_new _ _] at hbk
        injection hbk with hbk
        injection hbk with q1 q2
        subst q1; subst q2
        exact ⟨_, _, h4, F, hs, hD⟩
      · refine ⟨?_, fun k => ⟨fun p hp => (by cases hp), fun _ => rfl⟩⟩
        exact (World.ownsMap_made (H := Unit) W Tryd.prog 9 (plainElem Tryd.prog 3)).isMap
    | sht => exact ⟨own_none _ _ _, fun g hg => by cases hg⟩
    | wat => exact ⟨wb, rfl, ⟨_, h5, by simp [size_madeCells, St.fresh], fun i hi => made_at _ _ _ hi⟩, by simp [roleOf, e7, e8, e9, e10]⟩
    | wls => exact fun n _ _ => ⟨own_none _ _ _, fun g hg => by cases hg⟩
    | conf => exact ⟨rfl, by show (-1 : Int) ≤ -1; omega, by show (-1 : Int) ≤ _; omega⟩
    | stl => rfl
  · intro B b1 b2 b3 b4 b5 k hk
    show roleOf s hb rb mb wb k = .old
    unfold roleOf
    rw [if_neg (by omega), if_neg (by omega), if_neg (by omega), if_neg (by omega), if_neg (by omega)]
end Go.Proofs.YthpamogomfleoaaDoor.Rc
/- Contract of newChecker. -/
namespace Go.Proofs.YthpamogomfleoaaDoor.Rc
open Go Go.RowKit Go.Lib Go.Proofs.YthpamogomfleoaaDoor.Up

section
variable {P : Program} {ops : Array Oper} {Q : Exit → Act → World → Prop} {md : Region.Mode} {S : World → Prop}
/-- Numbers i, j and k may come up. -/
theorem wpAnyL_three {i j k : Nat} {o o2 o3 : Oper} {fuel : Nat} {listed : Array Bool} {a : Act} {w : World} (hr1 : (Region.ready md ops listed == [i, j, k]) = true) (ho : ops[i]? = some o) (ho2 : ops[j]? = some o2) (ho3 : ops[k]? = some o3) (hg : o.guard = none) (hg2 : o2.guard = none) (hg3 : o3.guard = none)
    (h : ∀ K : Act → World → Prop, Shut (∀ a' w', S w' → (S w' → wpAnyL P md ops Q S fuel (listed.setIfInBounds i true) a' w') → K a' w') → Oper.wp P o a w K Q)
    (h2 : ∀ K : Act → World → Prop, Shut (∀ a' w', S w' → (S w' → wpAnyL P md ops Q S fuel (listed.setIfInBounds j true) a' w') → K a' w') → Oper.wp P o2 a w K Q)
    (h3 : ∀ K : Act → World → Prop, Shut (∀ a' w', S w' → (S w' → wpAnyL P md ops Q S fuel (listed.setIfInBounds k true) a' w') → K a' w') → Oper.wp P o3 a w K Q) : wpAnyL P md ops Q S (fuel + 1) listed a w := by
  have hr : Region.ready md ops listed = [i, j, k] := by simpa using hr1
  refine ⟨fun h0 => (by rw [hr] at h0; cases h0), fun n hn => ?_⟩
  rw [hr] at hn
  rcases List.mem_cons.1 hn with rfl | hn
  · refine wpOp_step ho fun K' hK => ?_
    rw [if_pos (by simp [Region.wanted, hg])]
    exact h K' fun a' w' hS hW => hK a' w' ⟨fun _ => hS, hW hS⟩
  rcases List.mem_cons.1 hn with rfl | hn
  · refine wpOp_step ho2 fun K' hK => ?_
    rw [if_pos (by simp [Region.wanted, hg2])]
    exact h2 K' fun a' w' hS hW => hK a' w' ⟨fun _ => hS, hW hS⟩
  · obtain rfl : n = k := by simpa using hn
    refine wpOp_step ho3 fun K' hK => ?_
    rw [if_pos (by simp [Region.wanted, hg3])]
    exact h3 K' fun a' w' hS hW => hK a' w' ⟨fun _ => hS, hW hS⟩
end

theorem bStep {B : Nat} {w W W' : World} (h : Hid (Below B w W)) (hB : B ≤ w.heap.size) (hb : Below W.heap.size W W') : Hid (Below B w W') := h.out.trans (hb.mono (Nat.le_trans hB h.out.size))
theorem genNew {K : Act → World → Prop} {a : Act} {W : World} (o : Obj) (h : ∀ W', Below W.heap.size W W' → W'.heap[W.heap.size]? = some o → K a W') : K a (W.alloc o) :=
  h _ ((Below.refl _ _).alloc (Nat.le_refl _) _) (heap_alloc_new _ _)
theorem genNewD {K : Act → World → Prop} {a : Act} {W : World} (o : Obj) (h : ∀ W', Below W.heap.size W W' → W'.heap[W.heap.size]? = some o → K a W') : K a (W.alloc o).drew :=
  h _ ((Below.refl _ _).alloc (Nat.le_refl _) _).drew (heap_alloc_new _ _)
theorem Shut.keepF {k : Nat} {o : Obj} {W W' : World} (h : W.heap[k]? = some o) (hb : Below W.heap.size W W') : W'.heap[k]? = some o := (hb.block k (lt_of_block h)).trans h

/-- What newChecker answers. -/
def NwE (w : World) (V : Nat) (e : Ending) (w' : World) : Prop :=
  ∃ Y, e = .returned (.pointer (some ⟨Y.s, 0, none⟩)) ∧ Mem w' Y (St.fresh V) none ∧ (∀ k, k < w.heap.size → Y.ρ k = .old) ∧ Below w.heap.size w w'
theorem infoRow : (Tryd.prog.info? 23).map (fun i => (i.zero, i.size, i.bytes)) = some (some (.slice none 0 0), 1, 24) := by kernel_rfl

set_option maxRecDepth 100000 in
set_option maxHeartbeats 8000000 in
theorem newChecker_any (w : World) (V : Nat) (hV : V ≤ 100000) :
    Calls Tryd.prog 20 #[.int .i64 (V : Int)] w (NwE w V) := by
  have HP : Hid (∀ W : World, Calls Tryd.prog 37 #[.int .i64 (V : Int)] W (NwP W V)) := fun W => newPropagation_any W V hV
  have hmk := fun W => run_make_row' (P := Tryd.prog) 22 23 (.slice none 0 0) 24 Tryd.underlying22 infoRow rfl .i64 .i64 (2 * V + 1) (by omega) (by omega) W
  push_cast at hmk
  have hw1 : IntKind.i64.wrap (2 * (V : Int)) = 2 * (V : Int) := IntWalk.i64_in _ (by omega)
  have hw2 : IntKind.i64.wrap (2 * (V : Int) + 1) = 2 * (V : Int) + 1 := IntWalk.i64_in _ (by omega)
  go_enter Tryd.func20, Tryd.ntmps20
  go_wp2_with fail
  refine wp_region_L (S := fun W' => Hid (Below w.heap.size w W')) 10 (by kernel_rfl) (((Below.refl _ _).drew : Below w.heap.size w w.drew)) (fun hSx => ?_)
  refine wpAnyL_take (i := 0) (v := ?vg0_0) rfl (by kernel_rfl) (fun _ _ _ h => h) ?g0_0 rfl hSx ?_
  case g0_0 => (intro w' hSw; (try dsimp only at hSw); go_split_ands; go_simp; try with_reducible rfl)
  clear hSx; intro hSx
  try simp only [Act.put, List.getElem_toArray, List.getElem_cons_succ, List.getElem_cons_zero, List.setIfInBounds_toArray, List.set_cons_zero, List.set_cons_succ]
  refine wpAnyL_take (i := 3) (v := ?vg1_3) rfl (by kernel_rfl) (fun _ _ _ h => h) ?g1_3 rfl hSx ?_
  case g1_3 => (intro w' hSw; (try dsimp only at hSw); go_split_ands; go_simp; try with_reducible rfl)
  clear hSx; intro hSx
  try simp only [Act.put, List.getElem_toArray, List.getElem_cons_succ, List.getElem_cons_zero, List.setIfInBounds_toArray, List.set_cons_zero, List.set_cons_succ]
  refine wpAnyL_take (i := 4) (v := ?vg2_4) rfl (by kernel_rfl) (fun _ _ _ h => h) ?g2_4 rfl hSx ?_
  case g2_4 => (intro w' hSw; (try dsimp only at hSw); go_split_ands; go_simp; try with_reducible rfl)
  clear hSx; intro hSx
  try simp only [Act.put, List.getElem_toArray, List.getElem_cons_succ, List.getElem_cons_zero, List.setIfInBounds_toArray, List.set_cons_zero, List.set_cons_succ]
  refine wpAnyL_take (i := 5) (v := ?vg3_5) rfl (by kernel_rfl) (fun _ _ _ h => h) ?g3_5 rfl hSx ?_
  case g3_5 => (intro w' hSw; (try dsimp only at hSw); go_split_ands; go_simp; try with_reducible rfl)
  clear hSx; intro hSx
  try simp only [Act.put, List.getElem_toArray, List.getElem_cons_succ, List.getElem_cons_zero, List.setIfInBounds_toArray, List.set_cons_zero, List.set_cons_succ]
  (try dsimp only at hSx); go_split_ands
  refine' wpAnyL_three (i := 1) (j := 2) (k := 6) ?tag4_3 ?tbg4_3 ?tb2g4_3 ?tb3g4_3 ?tcg4_3 ?tc2g4_3 ?tc3g4_3 ?tdg4_3 ?teg4_3 ?tfg4_3
  case tbg4_3 => rfl
  case tb2g4_3 => rfl
  case tb3g4_3 => rfl
  case tag4_3 => kernel_rfl
  case tcg4_3 => rfl
  case tc2g4_3 => rfl
  case tc3g4_3 => rfl
  case tdg4_3 =>
    intro K hK
    go_simp; refine (HP.out _).mono ?_; rintro e wp ⟨hb, rb, rfl, p1, p2, p3, Fh, Fr, hBp⟩; (try dsimp only); (try replace Fh := Shut.keepF Fh hBp); (try replace Fr := Shut.keepF Fr hBp); (try replace Fm := Shut.keepF Fm hBp); (try replace Fw := Shut.keepF Fw hBp)
    refine hK.out _ _ (bStep hSx (Nat.le_refl _) hBp) (fun hSx => ?_)
    clear hK K
    try simp only [Act.put, List.getElem_toArray, List.getElem_cons_succ, List.getElem_cons_zero, List.setIfInBounds_toArray, List.set_cons_zero, List.set_cons_succ]
    (try dsimp only at hSx); go_split_ands
    refine' wpAnyL_two (i := 2) (j := 6) ?tag5_2 ?tbg5_2 ?tb2g5_2 ?tcg5_2 ?tc2g5_2 ?tdg5_2 ?teg5_2
    case tbg5_2 => rfl
    case tb2g5_2 => rfl
    case tag5_2 => kernel_rfl
    case tcg5_2 => rfl
    case tc2g5_2 => rfl
    case tdg5_2 =>
      intro K hK
      go_simp; first | refine genNew _ (fun wm hBm Fm => ?_) | refine genNewD _ (fun wm hBm Fm => ?_)
      (try replace Fh := Shut.keepF Fh hBm); (try replace Fr := Shut.keepF Fr hBm); (try replace Fm := Shut.keepF Fm hBm); (try replace Fw := Shut.keepF Fw hBm)
      refine hK.out _ _ (by first | exact bStep hSx (Nat.le_refl _) hBm | exact hBm) (fun hSx => ?_)
      clear hK K
      try simp only [Act.put, List.getElem_toArray, List.getElem_cons_succ, List.getElem_cons_zero, List.setIfInBounds_toArray, List.set_cons_zero, List.set_cons_succ]
      (try dsimp only at hSx); go_split_ands
      refine' wpAnyL_one (i := 6) ?tag6_6 ?tbg6_6 ?tcg6_6 ?tdg6_6
      case tbg6_6 => rfl
      case tag6_6 => kernel_rfl
      case tcg6_6 => rfl
      intro K hK
      go_simp; first | refine genNew _ (fun wk hBw Fw => ?_) | refine genNewD _ (fun wk hBw Fw => ?_)
      (try replace Fh := Shut.keepF Fh hBw); (try replace Fr := Shut.keepF Fr hBw); (try replace Fm := Shut.keepF Fm hBw); (try replace Fw := Shut.keepF Fw hBw)
      refine hK.out _ _ (by first | exact bStep hSx (Nat.le_refl _) hBw | exact hBw) (fun hSx => ?_)
      clear hK K
      try simp only [Act.put, List.getElem_toArray, List.getElem_cons_succ, List.getElem_cons_zero, List.setIfInBounds_toArray, List.set_cons_zero, List.set_cons_succ]
      refine wpAnyL_take (i := 7) (v := ?vg7_7) rfl (by kernel_rfl) (fun _ _ _ h => h) ?g7_7 rfl hSx ?_
      case g7_7 => (intro w' hSw; (try dsimp only at hSw); go_split_ands; go_simp; try with_reducible rfl)
      clear hSx; intro hSx
      try simp only [Act.put, List.getElem_toArray, List.getElem_cons_succ, List.getElem_cons_zero, List.setIfInBounds_toArray, List.set_cons_zero, List.set_cons_succ]
      (try dsimp only at hSx); go_split_ands
      refine' wpAnyL_one (i := 8) ?tag8_8 ?tbg8_8 ?tcg8_8 ?tdg8_8
      case tbg8_8 => rfl
      case tag8_8 => kernel_rfl
      case tcg8_8 => rfl
      intro K hK
      go_simp; first | refine genNew _ (fun wx hBx Fx => ?_) | refine genNewD _ (fun wx hBx Fx => ?_)
      (try replace Fh := Shut.keepF Fh hBx); (try replace Fr := Shut.keepF Fr hBx); (try replace Fm := Shut.keepF Fm hBx); (try replace Fw := Shut.keepF Fw hBx)
      refine hK.out _ _ (bStep hSx (Nat.le_refl _) hBx) (fun hSx => ?_)
      clear hK K
      try simp only [Act.put, List.getElem_toArray, List.getElem_cons_succ, List.getElem_cons_zero, List.setIfInBounds_toArray, List.set_cons_zero, List.set_cons_succ]
      (try dsimp only at hSx); go_split_ands
      refine' wpAnyL_last (i := 9) ?tag9_9 ?tbg9_9 ?tcg9_9 ?tdg9_9
      case tbg9_9 => rfl
      case tag9_9 => kernel_rfl
      case tcg9_9 => rfl
      intro K hK
      go_simp
      refine hK.out _ _ ?_
      clear hK K
      obtain ⟨Y, y1, y2, y3⟩ := new_mem hV Fx Fh Fr Fm Fw
      have q1 := hBp.size
      have q2 := hBm.size
      have q3 := hBw.size
      have q4 := hBx.size
      have q5 := hSx.out
      try simp only [heap_drew] at p1 p2 q1 q2 q3 q4
      have q6 := y3 w.heap.size (by omega) (by omega) (by omega) (by omega) (by omega)
      rw [← y1]
      clear Fx Fh Fr Fm Fw hBp hBm hBw hBx y1 y3 HP hmk
      go_wp2_with fail
      go_ret
      exact ⟨Y, rfl, y2, q6, q5⟩
    case teg5_2 =>
      intro K hK
      go_simp; first | refine genNew _ (fun wk hBw Fw => ?_) | refine genNewD _ (fun wk hBw Fw => ?_)
      (try replace Fh := Shut.keepF Fh hBw); (try replace Fr := Shut.keepF Fr hBw); (try replace Fm := Shut.keepF Fm hBw); (try replace Fw := Shut.keepF Fw hBw)
      refine hK.out _ _ (by first | exact bStep hSx (Nat.le_refl _) hBw | exact hBw) (fun hSx => ?_)
      clear hK K
      try simp only [Act.put, List.getElem_toArray, List.getElem_cons_succ, List.getElem_cons_zero, List.setIfInBounds_toArray, List.set_cons_zero, List.set_cons_succ]
      (try dsimp only at hSx); go_split_ands
      refine' wpAnyL_one (i := 2) ?tag10_2 ?tbg10_2 ?tcg10_2 ?tdg10_2
      case tbg10_2 => rfl
      case tag10_2 => kernel_rfl
      case tcg10_2 => rfl
      intro K hK
      go_simp; first | refine genNew _ (fun wm hBm Fm => ?_) | refine genNewD _ (fun wm hBm Fm => ?_)
      (try replace Fh := Shut.keepF Fh hBm); (try replace Fr := Shut.keepF Fr hBm); (try replace Fm := Shut.keepF Fm hBm); (try replace Fw := Shut.keepF Fw hBm)
      refine hK.out _ _ (by first | exact bStep hSx (Nat.le_refl _) hBm | exact hBm) (fun hSx => ?_)
      clear hK K
      try simp only [Act.put, List.getElem_toArray, List.getElem_cons_succ, List.getElem_cons_zero, List.setIfInBounds_toArray, List.set_cons_zero, List.set_cons_succ]
      refine wpAnyL_take (i := 7) (v := ?vg11_7) rfl (by kernel_rfl) (fun _ _ _ h => h) ?g11_7 rfl hSx ?_
      case g11_7 => (intro w' hSw; (try dsimp only at hSw); go_split_ands; go_simp; try with_reducible rfl)
      clear hSx; intro hSx
      try simp only [Act.put, List.getElem_toArray, List.getElem_cons_succ, List.getElem_cons_zero, List.setIfInBounds_toArray, List.set_cons_zero, List.set_cons_succ]
      (try dsimp only at hSx); go_split_ands
      refine' wpAnyL_one (i := 8) ?tag12_8 ?tbg12_8 ?tcg12_8 ?tdg12_8
      case tbg12_8 => rfl
      case tag12_8 => kernel_rfl
      case tcg12_8 => rfl
      intro K hK
      go_simp; first | refine genNew _ (fun wx hBx Fx => ?_) | refine genNewD _ (fun wx hBx Fx => ?_)
      (try replace Fh := Shut.keepF Fh hBx); (try replace Fr := Shut.keepF Fr hBx); (try replace Fm := Shut.keepF Fm hBx); (try replace Fw := Shut.keepF Fw hBx)
      refine hK.out _ _ (bStep hSx (Nat.le_refl _) hBx) (fun hSx => ?_)
      clear hK K
      try simp only [Act.put, List.getElem_toArray, List.getElem_cons_succ, List.getElem_cons_zero, List.setIfInBounds_toArray, List.set_cons_zero, List.set_cons_succ]
      (try dsimp only at hSx); go_split_ands
      refine' wpAnyL_last (i := 9) ?tag13_9 ?tbg13_9 ?tcg13_9 ?tdg13_9
      case tbg13_9 => rfl
      case tag13_9 => kernel_rfl
      case tcg13_9 => rfl
      intro K hK
      go_simp
      refine hK.out _ _ ?_
      clear hK K
      obtain ⟨Y, y1, y2, y3⟩ := new_mem hV Fx Fh Fr Fm Fw
      have q1 := hBp.size
      have q2 := hBm.size
      have q3 := hBw.size
      have q4 := hBx.size
      have q5 := hSx.out
      try simp only [heap_drew] at p1 p2 q1 q2 q3 q4
      have q6 := y3 w.heap.size (by omega) (by omega) (by omega) (by omega) (by omega)
      rw [← y1]
      clear Fx Fh Fr Fm Fw hBp hBm hBw hBx y1 y3 HP hmk
      go_wp2_with fail
      go_ret
      exact ⟨Y, rfl, y2, q6, q5⟩
  case teg4_3 =>
    intro K hK
    go_simp; first | refine genNew _ (fun wm hBm Fm => ?_) | refine genNewD _ (fun wm hBm Fm => ?_)
    (try replace Fh := Shut.keepF Fh hBm); (try replace Fr := Shut.keepF Fr hBm); (try replace Fm := Shut.keepF Fm hBm); (try replace Fw := Shut.keepF Fw hBm)
    refine hK.out _ _ (by first | exact bStep hSx (Nat.le_refl _) hBm | exact hBm) (fun hSx => ?_)
    clear hK K
    try simp only [Act.put, List.getElem_toArray, List.setIfInBounds_toArray, List.set_cons_zero, List.set_cons_succ]
    (try dsimp only at hSx); go_split_ands
    refine' wpAnyL_two (i := 1) (j := 6) ?tag14_1 ?tbg14_1 ?tb2g14_1 ?tcg14_1 ?tc2g14_1 ?tdg14_1 ?teg14_1
    case tbg14_1 => rfl
    case tb2g14_1 => rfl
    case tag14_1 => kernel_rfl
    case tcg14_1 => rfl
    case tc2g14_1 => rfl
    case tdg14_1 =>
      intro K hK
      go_simp; refine (HP.out _).mono ?_; rintro e wp ⟨hb, rb, rfl, p1, p2, p3, Fh, Fr, hBp⟩; (try dsimp only); (try replace Fh := Shut.keepF Fh hBp); (try replace Fr := Shut.keepF Fr hBp); (try replace Fm := Shut.keepF Fm hBp); (try replace Fw := Shut.keepF Fw hBp)
      refine hK.out _ _ (bStep hSx (Nat.le_refl _) hBp) (fun hSx => ?_)
      clear hK K
      try simp only [Act.put, List.getElem_toArray, List.getElem_cons_succ, List.getElem_cons_zero, List.setIfInBounds_toArray, List.set_cons_zero, List.set_cons_succ]
      (try dsimp only at hSx); go_split_ands
      refine' wpAnyL_one (i := 6) ?tag15_6 ?tbg15_6 ?tcg15_6 ?tdg15_6
      case tbg15_6 => rfl
      case tag15_6 => kernel_rfl
      case tcg15_6 => rfl
      intro K hK
      go_simp; first | refine genNew _ (fun wk hBw Fw => ?_) | refine genNewD _ (fun wk hBw Fw => ?_)
      (try replace Fh := Shut.keepF Fh hBw); (try replace Fr := Shut.keepF Fr hBw); (try replace Fm := Shut.keepF Fm hBw); (try replace Fw := Shut.keepF Fw hBw)
      refine hK.out _ _ (by first | exact bStep hSx (Nat.le_refl _) hBw | exact hBw) (fun hSx => ?_)
      clear hK K
      try simp only [Act.put, List.getElem_toArray, List.getElem_cons_succ, List.getElem_cons_zero, List.setIfInBounds_toArray, List.set_cons_zero, List.set_cons_succ]
      refine wpAnyL_take (i := 7) (v := ?vg16_7) rfl (by kernel_rfl) (fun _ _ _ h => h) ?g16_7 rfl hSx ?_
      case g16_7 => (intro w' hSw; (try dsimp only at hSw); go_split_ands; go_simp; try with_reducible rfl)
      clear hSx; intro hSx
      try simp only [Act.put, List.getElem_toArray, List.getElem_cons_succ, List.getElem_cons_zero, List.setIfInBounds_toArray, List.set_cons_zero, List.set_cons_succ]
      (try dsimp only at hSx); go_split_ands
      refine' wpAnyL_one (i := 8) ?tag17_8 ?tbg17_8 ?tcg17_8 ?tdg17_8
      case tbg17_8 => rfl
      case tag17_8 => kernel_rfl
      case tcg17_8 => rfl
      intro K hK
      go_simp; first | refine genNew _ (fun wx hBx Fx => ?_) | refine genNewD _ (fun wx hBx Fx => ?_)
      (try replace Fh := Shut.keepF Fh hBx); (try replace Fr := Shut.keepF Fr hBx); (try replace Fm := Shut.keepF Fm hBx); (try replace Fw := Shut.keepF Fw hBx)
      refine hK.out _ _ (bStep hSx (Nat.le_refl _) hBx) (fun hSx => ?_)
      clear hK K
      try simp only [Act.put, List.getElem_toArray, List.getElem_cons_succ, List.getElem_cons_zero, List.setIfInBounds_toArray, List.set_cons_zero, List.set_cons_succ]
      (try dsimp only at hSx); go_split_ands
      refine' wpAnyL_last (i := 9) ?tag18_9 ?tbg18_9 ?tcg18_9 ?tdg18_9
      case tbg18_9 => rfl
      case tag18_9 => kernel_rfl
      case tcg18_9 => rfl
      intro K hK
      go_simp
      refine hK.out _ _ ?_
      clear hK K
      obtain ⟨Y, y1, y2, y3⟩ := new_mem hV Fx Fh Fr Fm Fw
      have q1 := hBp.size
      have q2 := hBm.size
      have q3 := hBw.size
      have q4 := hBx.size
      have q5 := hSx.out
      try simp only [heap_drew] at p1 p2 q1 q2 q3 q4
      have q6 := y3 w.heap.size (by omega) (by omega) (by omega) (by omega) (by omega)
      rw [← y1]
      clear Fx Fh Fr Fm Fw hBp hBm hBw hBx y1 y3 HP hmk
      go_wp2_with fail
      go_ret
      exact ⟨Y, rfl, y2, q6, q5⟩
    case teg14_1 =>
      intro K hK
      go_simp; first | refine genNew _ (fun wk hBw Fw => ?_) | refine genNewD _ (fun wk hBw Fw => ?_)
      (try replace Fh := Shut.keepF Fh hBw); (try replace Fr := Shut.keepF Fr hBw); (try replace Fm := Shut.keepF Fm hBw); (try replace Fw := Shut.keepF Fw hBw)
      refine hK.out _ _ (by first | exact bStep hSx (Nat.le_refl _) hBw | exact hBw) (fun hSx => ?_)
      clear hK K
      try simp only [Act.put, List.getElem_toArray, List.getElem_cons_succ, List.getElem_cons_zero, List.setIfInBounds_toArray, List.set_cons_zero, List.set_cons_succ]
      (try dsimp only at hSx); go_split_ands
      refine' wpAnyL_one (i := 1) ?tag19_1 ?tbg19_1 ?tcg19_1 ?tdg19_1
      case tbg19_1 => rfl
      case tag19_1 => kernel_rfl
      case tcg19_1 => rfl
      intro K hK
      go_simp; refine (HP.out _).mono ?_; rintro e wp ⟨hb, rb, rfl, p1, p2, p3, Fh, Fr, hBp⟩; (try dsimp only); (try replace Fh := Shut.keepF Fh hBp); (try replace Fr := Shut.keepF Fr hBp); (try replace Fm := Shut.keepF Fm hBp); (try replace Fw := Shut.keepF Fw hBp)
      refine hK.out _ _ (bStep hSx (Nat.le_refl _) hBp) (fun hSx => ?_)
      clear hK K
      try simp only [Act.put, List.getElem_toArray, List.getElem_cons_succ, List.getElem_cons_zero, List.setIfInBounds_toArray, List.set_cons_zero, List.set_cons_succ]
      refine wpAnyL_take (i := 7) (v := ?vg20_7) rfl (by kernel_rfl) (fun _ _ _ h => h) ?g20_7 rfl hSx ?_
      case g20_7 => (intro w' hSw; (try dsimp only at hSw); go_split_ands; go_simp; try with_reducible rfl)
      clear hSx; intro hSx
      try simp only [Act.put, List.getElem_toArray, List.getElem_cons_succ, List.getElem_cons_zero, List.setIfInBounds_toArray, List.set_cons_zero, List.set_cons_succ]
      (try dsimp only at hSx); go_split_ands
      refine' wpAnyL_one (i := 8) ?tag21_8 ?tbg21_8 ?tcg21_8 ?tdg21_8
      case tbg21_8 => rfl
      case tag21_8 => kernel_rfl
      case tcg21_8 => rfl
      intro K hK
      go_simp; first | refine genNew _ (fun wx hBx Fx => ?_) | refine genNewD _ (fun wx hBx Fx => ?_)
      (try replace Fh := Shut.keepF Fh hBx); (try replace Fr := Shut.keepF Fr hBx); (try replace Fm := Shut.keepF Fm hBx); (try replace Fw := Shut.keepF Fw hBx)
      refine hK.out _ _ (bStep hSx (Nat.le_refl _) hBx) (fun hSx => ?_)
      clear hK K
      try simp only [Act.put, List.getElem_toArray, List.getElem_cons_succ, List.getElem_cons_zero, List.setIfInBounds_toArray, List.set_cons_zero, List.set_cons_succ]
      (try dsimp only at hSx); go_split_ands
      refine' wpAnyL_last (i := 9) ?tag22_9 ?tbg22_9 ?tcg22_9 ?tdg22_9
      case tbg22_9 => rfl
      case tag22_9 => kernel_rfl
      case tcg22_9 => rfl
      intro K hK
      go_simp
      refine hK.out _ _ ?_
      clear hK K
      obtain ⟨Y, y1, y2, y3⟩ := new_mem hV Fx Fh Fr Fm Fw
      have q1 := hBp.size
      have q2 := hBm.size
      have q3 := hBw.size
      have q4 := hBx.size
      have q5 := hSx.out
      try simp only [heap_drew] at p1 p2 q1 q2 q3 q4
      have q6 := y3 w.heap.size (by omega) (by omega) (by omega) (by omega) (by omega)
      rw [← y1]
      clear Fx Fh Fr Fm Fw hBp hBm hBw hBx y1 y3 HP hmk
      go_wp2_with fail
      go_ret
      exact ⟨Y, rfl, y2, q6, q5⟩
  case tfg4_3 =>
    intro K hK
    go_simp; first | refine genNew _ (fun wk hBw Fw => ?_) | refine genNewD _ (fun wk hBw Fw => ?_)
    (try replace Fh := Shut.keepF Fh hBw); (try replace Fr := Shut.keepF Fr hBw); (try replace Fm := Shut.keepF Fm hBw); (try replace Fw := Shut.keepF Fw hBw)
    refine hK.out _ _ (by first | exact bStep hSx (Nat.le_refl _) hBw | exact hBw) (fun hSx => ?_)
    clear hK K
    try simp only [Act.put, List.getElem_toArray, List.getElem_cons_succ, List.getElem_cons_zero, List.setIfInBounds_toArray, List.set_cons_zero, List.set_cons_succ]
    (try dsimp only at hSx); go_split_ands
    refine' wpAnyL_two (i := 1) (j := 2) ?tag23_1 ?tbg23_1 ?tb2g23_1 ?tcg23_1 ?tc2g23_1 ?tdg23_1 ?teg23_1
    case tbg23_1 => rfl
    case tb2g23_1 => rfl
    case tag23_1 => kernel_rfl
    case tcg23_1 => rfl
    case tc2g23_1 => rfl
    case tdg23_1 =>
      intro K hK
      go_simp; refine (HP.out _).mono ?_; rintro e wp ⟨hb, rb, rfl, p1, p2, p3, Fh, Fr, hBp⟩; (try dsimp only); (try replace Fh := Shut.keepF Fh hBp); (try replace Fr := Shut.keepF Fr hBp); (try replace Fm := Shut.keepF Fm hBp); (try replace Fw := Shut.keepF Fw hBp)
      refine hK.out _ _ (bStep hSx (Nat.le_refl _) hBp) (fun hSx => ?_)
      clear hK K
      try simp only [Act.put, List.getElem_toArray, List.getElem_cons_succ, List.getElem_cons_zero, List.setIfInBounds_toArray, List.set_cons_zero, List.set_cons_succ]
      (try dsimp only at hSx); go_split_ands
      refine' wpAnyL_one (i := 2) ?tag24_2 ?tbg24_2 ?tcg24_2 ?tdg24_2
      case tbg24_2 => rfl
      case tag24_2 => kernel_rfl
      case tcg24_2 => rfl
      intro K hK
      go_simp; first | refine genNew _ (fun wm hBm Fm => ?_) | refine genNewD _ (fun wm hBm Fm => ?_)
      (try replace Fh := Shut.keepF Fh hBm); (try replace Fr := Shut.keepF Fr hBm); (try replace Fm := Shut.keepF Fm hBm); (try replace Fw := Shut.keepF Fw hBm)
      refine hK.out _ _ (by first | exact bStep hSx (Nat.le_refl _) hBm | exact hBm) (fun hSx => ?_)
      clear hK K
      try simp only [Act.put, List.setIfInBounds_toArray, List.set_cons_zero, List.set_cons_succ]
      refine wpAnyL_take (i := 7) (v := ?vg25_7) rfl (by kernel_rfl) (fun _ _ _ h => h) ?g25_7 rfl hSx ?_
      case g25_7 => (intro w' hSw; (try dsimp only at hSw); go_split_ands; go_simp; try with_reducible rfl)
      clear hSx; intro hSx
      try simp only [Act.put, List.getElem_toArray, List.getElem_cons_succ, List.getElem_cons_zero, List.setIfInBounds_toArray, List.set_cons_zero, List.set_cons_succ]
      (try dsimp only at hSx); go_split_ands
      refine' wpAnyL_one (i := 8) ?tag26_8 ?tbg26_8 ?tcg26_8 ?tdg26_8
      case tbg26_8 => rfl
      case tag26_8 => kernel_rfl
      case tcg26_8 => rfl
      intro K hK
      go_simp; first | refine genNew _ (fun wx hBx Fx => ?_) | refine genNewD _ (fun wx hBx Fx => ?_)
      (try replace Fh := Shut.keepF Fh hBx); (try replace Fr := Shut.keepF Fr hBx); (try replace Fm := Shut.keepF Fm hBx); (try replace Fw := Shut.keepF Fw hBx)
      refine hK.out _ _ (bStep hSx (Nat.le_refl _) hBx) (fun hSx => ?_)
      clear hK K
      try simp only [Act.put, List.getElem_toArray, List.getElem_cons_succ, List.getElem_cons_zero, List.setIfInBounds_toArray, List.set_cons_zero, List.set_cons_succ]
      (try dsimp only at hSx); go_split_ands
      refine' wpAnyL_last (i := 9) ?tag27_9 ?tbg27_9 ?tcg27_9 ?tdg27_9
      case tbg27_9 => rfl
      case tag27_9 => kernel_rfl
      case tcg27_9 => rfl
      intro K hK
      go_simp
      refine hK.out _ _ ?_
      clear hK K
      obtain ⟨Y, y1, y2, y3⟩ := new_mem hV Fx Fh Fr Fm Fw
      have q1 := hBp.size
      have q2 := hBm.size
      have q3 := hBw.size
      have q4 := hBx.size
      have q5 := hSx.out
      try simp only [heap_drew] at p1 p2 q1 q2 q3 q4
      have q6 := y3 w.heap.size (by omega) (by omega) (by omega) (by omega) (by omega)
      rw [← y1]
      clear Fx Fh Fr Fm Fw hBp hBm hBw hBx y1 y3 HP hmk
      go_wp2_with fail
      go_ret
      exact ⟨Y, rfl, y2, q6, q5⟩
    case teg23_1 =>
      intro K hK
      go_simp; first | refine genNew _ (fun wm hBm Fm => ?_) | refine genNewD _ (fun wm hBm Fm => ?_)
      (try replace Fh := Shut.keepF Fh hBm); (try replace Fr := Shut.keepF Fr hBm); (try replace Fm := Shut.keepF Fm hBm); (try replace Fw := Shut.keepF Fw hBm)
      refine hK.out _ _ (by first | exact bStep hSx (Nat.le_refl _) hBm | exact hBm) (fun hSx => ?_)
      clear hK K
      try simp only [Act.put, List.setIfInBounds_toArray, List.set_cons_zero, List.set_cons_succ]
      (try dsimp only at hSx); go_split_ands
      refine' wpAnyL_one (i := 1) ?tag28_1 ?tbg28_1 ?tcg28_1 ?tdg28_1
      case tbg28_1 => rfl
      case tag28_1 => kernel_rfl
      case tcg28_1 => rfl
      intro K hK
      go_simp; refine (HP.out _).mono ?_; rintro e wp ⟨hb, rb, rfl, p1, p2, p3, Fh, Fr, hBp⟩; (try dsimp only); (try replace Fh := Shut.keepF Fh hBp); (try replace Fr := Shut.keepF Fr hBp); (try replace Fm := Shut.keepF Fm hBp); (try replace Fw := Shut.keepF Fw hBp)
      refine hK.out _ _ (bStep hSx (Nat.le_refl _) hBp) (fun hSx => ?_)
      clear hK K
      try simp only [Act.put, List.getElem_toArray, List.getElem_cons_succ, List.getElem_cons_zero, List.setIfInBounds_toArray, List.set_cons_zero, List.set_cons_succ]
      refine wpAnyL_take (i := 7) (v := ?vg29_7) rfl (by kernel_rfl) (fun _ _ _ h => h) ?g29_7 rfl hSx ?_
      case g29_7 => (intro w' hSw; (try dsimp only at hSw); go_split_ands; go_simp; try with_reducible rfl)
      clear hSx; intro hSx
      try simp only [Act.put, List.getElem_toArray, List.getElem_cons_succ, List.getElem_cons_zero, List.setIfInBounds_toArray, List.set_cons_zero, List.set_cons_succ]
      (try dsimp only at hSx); go_split_ands
      refine' wpAnyL_one (i := 8) ?tag30_8 ?tbg30_8 ?tcg30_8 ?tdg30_8
      case tbg30_8 => rfl
      case tag30_8 => kernel_rfl
      case tcg30_8 => rfl
      intro K hK
      go_simp; first | refine genNew _ (fun wx hBx Fx => ?_) | refine genNewD _ (fun wx hBx Fx => ?_)
      (try replace Fh := Shut.keepF Fh hBx); (try replace Fr := Shut.keepF Fr hBx); (try replace Fm := Shut.keepF Fm hBx); (try replace Fw := Shut.keepF Fw hBx)
      refine hK.out _ _ (bStep hSx (Nat.le_refl _) hBx) (fun hSx => ?_)
      clear hK K
      try simp only [Act.put, List.getElem_toArray, List.getElem_cons_succ, List.getElem_cons_zero, List.setIfInBounds_toArray, List.set_cons_zero, List.set_cons_succ]
      (try dsimp only at hSx); go_split_ands
      refine' wpAnyL_last (i := 9) ?tag31_9 ?tbg31_9 ?tcg31_9 ?tdg31_9
      case tbg31_9 => rfl
      case tag31_9 => kernel_rfl
      case tcg31_9 => rfl
      intro K hK
      go_simp
      refine hK.out _ _ ?_
      clear hK K
      obtain ⟨Y, y1, y2, y3⟩ := new_mem hV Fx Fh Fr Fm Fw
      have q1 := hBp.size
      have q2 := hBm.size
      have q3 := hBw.size
      have q4 := hBx.size
      have q5 := hSx.out
      try simp only [heap_drew] at p1 p2 q1 q2 q3 q4
      have q6 := y3 w.heap.size (by omega) (by omega) (by omega) (by omega) (by omega)
      rw [← y1]
      clear Fx Fh Fr Fm Fw hBp hBm hBw hBx y1 y3 HP hmk
      go_wp2_with fail
      go_ret
      exact ⟨Y, rfl, y2, q6, q5⟩
end Go.Proofs.YthpamogomfleoaaDoor.Rc
