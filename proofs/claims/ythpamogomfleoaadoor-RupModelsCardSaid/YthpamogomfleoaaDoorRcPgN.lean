/- What propagate leaves as it is, and what it ends with (no memory). -/
import Derived.Test.YthpamogomfleoaaDoorRcStep
namespace Go.Proofs.YthpamogomfleoaaDoor.Rc
open Go Go.RowKit Go.Lib

/-- Literals follow; the literals of clauses change places; watches move. All else stays. -/
structure Kept (σ σ' : St) : Prop where
  V : σ'.V = σ.V
  N : σ'.N = σ.N
  cps : σ'.cps = σ.cps
  plc : σ'.plc = σ.plc
  sh : σ'.sh = σ.sh
  conf : σ'.conf = σ.conf
  stale : σ'.stale = σ.stale
  asg : σ.asg <+: σ'.asg
  lits : ∀ q, (σ'.lits q).Perm (σ.lits q)
theorem Kept.refl (σ : St) : Kept σ σ := ⟨rfl, rfl, rfl, rfl, rfl, rfl, rfl, List.prefix_refl _, fun _ => .refl _⟩
theorem Kept.trans {a b c : St} (h : Kept a b) (k : Kept b c) : Kept a c :=
  ⟨k.V.trans h.V, k.N.trans h.N, k.cps.trans h.cps, k.plc.trans h.plc, k.sh.trans h.sh, k.conf.trans h.conf, k.stale.trans h.stale, h.asg.trans k.asg, fun q => (k.lits q).trans (h.lits q)⟩
theorem Kept.swap {σ : St} {p i j : Nat} (hi : i < (σ.lits p).length) (hj : j < (σ.lits p).length) (X : Int → List Nat) : Kept σ { σ with lits := upd σ.lits p (swp (σ.lits p) i j), wat := X } := by
  refine ⟨rfl, rfl, rfl, rfl, rfl, rfl, rfl, List.prefix_refl _, fun q => ?_⟩
  show (upd σ.lits p (swp (σ.lits p) i j) q).Perm _
  by_cases e : q = p
  · subst e; rw [upd_same]; exact swp_perm hi hj
  · rw [upd_ne _ _ _ e]
theorem Kept.snd {σ : St} {p : Nat} {n : Int} (h : 2 ≤ (σ.lits p).length) : Kept σ (σ.snd p n) := by
  unfold St.snd
  split
  · exact Kept.swap (by omega) (by omega) σ.wat
  · exact Kept.refl _
theorem Kept.asn (σ : St) (a r : Int) : Kept σ (σ.asn a r) := ⟨rfl, rfl, rfl, rfl, rfl, rfl, rfl, List.prefix_append _ _, fun _ => .refl _⟩
theorem Kept.watH (σ : St) (X : Int → List Nat) (k : Nat) : Kept σ { σ with wat := X, head := k } := ⟨rfl, rfl, rfl, rfl, rfl, rfl, rfl, List.prefix_refl _, fun _ => .refl _⟩
theorem WkTo.kept {σ0 σ : St} {n : Int} {K R : List Nat} {b : Option Nat} {so : List Int} (h : WkTo σ0 n σ K R) (h0 : Run σ0 n [] (σ0.wat n) b so) : Kept σ0 σ ∧ σ.head = σ0.head := by
  induction h with
  | start => exact ⟨Kept.refl _, rfl⟩
  | dead _ _ ih => exact ih
  | sat hw hc hv ih => exact ⟨ih.1.trans (Kept.snd (hw.run h0).cur.2.1), (snd_head _ _ _).trans ih.2⟩
  | @move σ K p R i hw hc h2 hi hv ih =>
    have l2 := (hw.run h0).cur.2.1
    exact ⟨ih.1.trans ((Kept.snd l2).trans (Kept.swap (by omega) hi _)), (snd_head _ _ _).trans ih.2⟩
  | @unit σ K p R hw hc h0v hj h0f ih => exact ⟨ih.1.trans ((Kept.snd (hw.run h0).cur.2.1).trans (Kept.asn _ _ _)), (snd_head _ _ _).trans ih.2⟩
theorem WkEnd.kept {σ0 σ : St} {n c : Int} {b : Option Nat} {so : List Int} (h : WkEnd σ0 n σ c) (h0 : Run σ0 n [] (σ0.wat n) b so) : Kept σ0 σ ∧ σ.head = σ0.head := by
  cases h with
  | done hw => exact ⟨(hw.kept h0).1.trans (Kept.watH _ _ _), (hw.kept h0).2⟩
  | @bad σ1 K p R hw hc hj h1 => exact ⟨(hw.kept h0).1.trans ((Kept.snd (hw.run h0).cur.2.1).trans (Kept.watH _ _ _)), (snd_head _ _ _).trans (hw.kept h0).2⟩

/-- The next literal is looked at. -/
theorem Inv.run {σ : St} {b : Option Nat} {so : List Int} (h : Inv σ σ.wat b so fun _ _ => False) (hb : ∀ k, b = some k → k ≤ σ.head) (hlt : σ.head < σ.asg.length) {n : Int} (hn : n = -σ.asg[σ.head]!) : Run { σ with head := σ.head + 1 } n [] (σ.wat n) b so := by
  obtain ⟨l, hl⟩ : ∃ l, l = σ.asg[σ.head]! := ⟨_, rfl⟩
  have hll : σ.asg[σ.head]? = some l := by rw [hl, getElem!_pos σ.asg σ.head hlt, List.getElem?_eq_getElem hlt]
  have hm : l ∈ σ.asg := List.mem_of_getElem? hll
  have hL := h.t.lt l hm
  have hnl : -n = l := by rw [hn, ← hl]; omega
  have hnL : Lt σ.V n := by rw [hn, ← hl]; exact hL.neg
  have ew : updI σ.wat n ([] ++ σ.wat n) = σ.wat := updI_self _ _
  refine ⟨⟨⟨h.t.lt, h.t.nd, h.t.val, h.t.con, hlt⟩, ⟨h.c.nd, h.c.lt, h.c.len⟩, ?_, fun p hp hc m hw he hm' => ?_, h.r, h.b⟩, by rw [hnl]; exact hm, hnL, fun k hk q => ?_⟩
  · show Wts { σ with head := σ.head + 1 } (updI σ.wat n ([] ++ σ.wat n))
    rw [ew]; exact ⟨h.w.entr, h.w.has, h.w.uniq⟩
  · have hm' : -m ∈ σ.asg.take (σ.head + 1) := hm'
    rw [List.take_add_one, hll] at hm'
    rcases List.mem_append.1 hm' with q | q
    · exact h.h p hp hc m hw (fun z => z) q
    · have e : -m = l := by simpa using q
      have e2 : m = n := by omega
      exact absurd ⟨e2, by rw [e2] at hw; exact h.w.has p hp hc n hw⟩ he
  · rw [hnl] at q
    obtain ⟨i, hi, hil⟩ := take_idx q
    have := nodup_idx h.t.nd hil hll
    have := hb k hk
    omega

/-- What propagate ends with: all follows from what is there (-1), or a clause is false. -/
structure PgEnd (σ σ' : St) (c : Int) (b : Option Nat) (so : List Int) : Prop where
  kept : Kept σ σ'
  good : c = -1 → Inv σ' σ'.wat b so (fun _ _ => False) ∧ σ'.head = σ'.asg.length
  bad : c ≠ -1 → ∃ (p : Nat) (n : Int), c = (p : Int) ∧ p < σ'.N ∧ σ'.cps p ≠ 0 ∧ (∀ m ∈ σ'.lits p, -m ∈ σ'.asg) ∧ Inv σ' σ'.wat b so (fun _ m => m = n) ∧ ∀ k, b = some k → -n ∉ σ'.asg.take k
  hd : σ.head ≤ σ'.head
end Go.Proofs.YthpamogomfleoaaDoor.Rc
