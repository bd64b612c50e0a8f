/- A step of wake keeps what always holds (no memory). -/
import Derived.Test.YthpamogomfleoaaDoorRcInv
namespace Go.Proofs.YthpamogomfleoaaDoor.Rc
open Go Go.RowKit Go.Lib

/-- Wake is under way: those of K are kept, those of R are left. -/
structure Run (σ : St) (n : Int) (K R : List Nat) (b : Option Nat) (so : List Int) : Prop where
  inv : Inv σ (updI σ.wat n (K ++ R)) b so (fun q m => m = n ∧ q ∈ R)
  neg : -n ∈ σ.asg
  lt : Lt σ.V n
  lv : ∀ k, b = some k → -n ∉ σ.asg.take k

section
variable {σ : St} {n : Int} {K R : List Nat} {b : Option Nat} {so : List Int} {p : Nat}
theorem Run.off (h : Run σ n K R b so) : n ∉ σ.asg := fun q => h.inv.t.con n q h.neg
theorem Run.cur (h : Run σ n K (p :: R) b so) : p < σ.N ∧ W2 σ p n := h.inv.w.entr n h.lt.in' p (by rw [updI_same]; simp)
theorem Run.all (h : Run σ n K R b so) {o : Int} (ho : o ∈ σ.asg) : -n ∈ tk b σ.asg → o ∈ tk b σ.asg := by
  cases hb : b with
  | none => exact fun _ => ho
  | some k => exact fun q => absurd q (h.lv k hb)
theorem Run.snd (h : Run σ n K (p :: R) b so) : Run (σ.snd p n) n K (p :: R) b so := by
  have hi := h.inv.snd (p := p) h.cur.2.1 h.off
  rw [← snd_wat σ p n] at hi
  exact ⟨hi, by rw [snd_asg]; exact h.neg, by rw [snd_V]; exact h.lt, by rw [snd_asg]; exact h.lv⟩

/-- Fewer are watched by n: one is dead. -/
theorem wts_drop {wat : Int → List Nat} (h : Wts σ (updI wat n (K ++ p :: R))) (hd : σ.cps p ≠ 0 → ¬ W2 σ p n) : Wts σ (updI wat n (K ++ R)) := by
  refine ⟨fun m hm q hq => h.entr m hm q ?_, fun q hq hc m hm => ?_, fun m hm => ?_⟩
  · by_cases e : m = n
    · subst e; rw [updI_same] at hq ⊢
      rcases List.mem_append.1 hq with z | z
      · exact List.mem_append_left _ z
      · exact List.mem_append_right _ (List.mem_cons_of_mem _ z)
    · rw [updI_ne _ _ _ e] at hq ⊢; exact hq
  · have hh := h.has q hq hc m hm
    by_cases e : m = n
    · subst e; rw [updI_same] at hh ⊢
      rcases List.mem_append.1 hh with z | z
      · exact List.mem_append_left _ z
      · rcases List.mem_cons.1 z with z | z
        · subst z; exact absurd hm (hd hc)
        · exact List.mem_append_right _ z
    · rw [updI_ne _ _ _ e] at hh ⊢; exact hh
  · have hh := h.uniq m hm
    by_cases e : m = n
    · subst e; rw [updI_same] at hh ⊢
      exact hh.sublist (List.Sublist.append_left (List.sublist_cons_self _ _) _)
    · rw [updI_ne _ _ _ e] at hh ⊢; exact hh
theorem Run.dead (h : Run σ n K (p :: R) b so) (hd : σ.cps p = 0) : Run σ n K R b so := by
  refine ⟨⟨h.inv.t, h.inv.c, wts_drop h.inv.w (fun q => absurd hd q), fun q hq hc m hm he hn => ?_, h.inv.r, h.inv.b⟩, h.neg, h.lt, h.lv⟩
  refine h.inv.h q hq hc m hm (fun z => he ⟨z.1, ?_⟩) hn
  rcases List.mem_cons.1 z.2 with e | e
  · subst e; exact absurd hd hc
  · exact e
/-- The one in front is kept: it has a true literal. -/
theorem Run.keep (h : Run σ n K (p :: R) b so) {o : Int} (ho : o ∈ σ.lits p) (ha : o ∈ σ.asg) : Run σ n (K ++ [p]) R b so := by
  have e : K ++ [p] ++ R = K ++ p :: R := by simp
  refine ⟨⟨h.inv.t, h.inv.c, by rw [e]; exact h.inv.w, fun q hq hc m hm he hn => ?_, h.inv.r, h.inv.b⟩, h.neg, h.lt, h.lv⟩
  by_cases z : m = n ∧ q = p
  · obtain ⟨rfl, rfl⟩ := z
    exact ⟨o, ho, ha, h.all ha⟩
  · refine h.inv.h q hq hc m hm (fun z2 => ?_) hn
    rcases List.mem_cons.1 z2.2 with e | e
    · exact z ⟨z2.1, e⟩
    · exact he ⟨z2.1, e⟩
/-- A literal follows while wake is under way. -/
theorem Run.asn (h : Run σ n K (p :: R) b so) (hc : σ.cps p ≠ 0) {a : Int} (ha : a = (σ.lits p)[0]!) (h1 : a ∉ σ.asg) (h2 : -a ∉ σ.asg) (hf : ∀ m ∈ σ.lits p, m ≠ a → -m ∈ σ.asg) : Run (σ.asn a (p : Int)) n (K ++ [p]) R b so := by
  have hp := h.cur
  have hl : 0 < (σ.lits p).length := by have := hp.2.1; omega
  have hm : a ∈ σ.lits p := by rw [ha]; exact mem! hl
  have hi := h.inv.asn (h.inv.c.lt p hp.1 a hm) h1 h2 (fun _ => Or.inr ⟨p, rfl, hp.1, hc, hl, ha.symm, hf⟩)
  have hr : Run (σ.asn a (p : Int)) n K (p :: R) b so := ⟨hi, List.mem_append_left _ h.neg, h.lt, fun k hk q => h.lv k hk (by
    have hq : -n ∈ (σ.asg ++ [a]).take k := q
    rwa [List.take_append_of_le_length (h.inv.b k hk)] at hq)⟩
  exact hr.keep (o := a) hm (List.mem_append_right _ (List.mem_singleton.2 rfl))
/-- The one in front is watched by another literal, that is not false. -/
theorem Run.move (h : Run σ n K (p :: R) b so) (h1 : (σ.lits p)[1]! = n) {i : Nat} (hi2 : 2 ≤ i) (hi : i < (σ.lits p).length) (hf : -(σ.lits p)[i]! ∉ σ.asg) : Run (σ.rew p i) n K R b so := by
  obtain ⟨hp, hl2, _⟩ := h.cur
  have hnd := h.inv.c.nd p hp
  obtain ⟨m, hm⟩ : ∃ m, m = (σ.lits p)[i]! := ⟨_, rfl⟩
  have hmn : m ≠ n := by rw [hm, ← h1]; exact nodup_ne hnd hi (by omega) (by omega)
  have hm0 : m ≠ (σ.lits p)[0]! := by rw [hm]; exact nodup_ne hnd hi (by omega) (by omega)
  have hn0 : (σ.lits p)[0]! ≠ n := by rw [← h1]; exact nodup_ne hnd (by omega) (by omega) (by decide)
  have hmL : Lt σ.V m := by rw [hm]; exact h.inv.c.lt p hp _ (mem! hi)
  have hperm := swp_perm (ls := σ.lits p) (i := 1) (j := i) (by omega) hi
  have g0 : (swp (σ.lits p) 1 i)[0]! = (σ.lits p)[0]! := by rw [swp_get (by omega) hi (by omega), if_neg (by omega), if_neg (by omega)]
  have g1 : (swp (σ.lits p) 1 i)[1]! = m := by rw [swp_get (by omega) hi (by omega), if_neg (by omega), if_pos rfl, hm]
  have mem : ∀ q m', m' ∈ (σ.rew p i).lits q ↔ m' ∈ σ.lits q := fun q m' => by
    show m' ∈ upd σ.lits p _ q ↔ _
    by_cases e : q = p
    · subst e; rw [upd_same]; exact hperm.mem_iff
    · rw [upd_ne _ _ _ e]
  have w2o : ∀ q m', q ≠ p → (W2 (σ.rew p i) q m' ↔ W2 σ q m') := fun q m' e => by
    unfold W2; show 2 ≤ (upd σ.lits p _ q).length ∧ (m' = (upd σ.lits p _ q)[0]! ∨ m' = (upd σ.lits p _ q)[1]!) ↔ _
    rw [upd_ne _ _ _ e]
  have w2p : ∀ m', W2 (σ.rew p i) p m' ↔ m' = (σ.lits p)[0]! ∨ m' = m := fun m' => by
    unfold W2; show 2 ≤ (upd σ.lits p _ p).length ∧ (m' = (upd σ.lits p _ p)[0]! ∨ m' = (upd σ.lits p _ p)[1]!) ↔ _
    rw [upd_same, swp_length, g0, g1]
    exact ⟨fun q => q.2, fun q => ⟨hl2, q⟩⟩
  have hwm : (updI σ.wat n (K ++ p :: R)) m = σ.wat m := updI_ne _ _ _ hmn
  have hpm : p ∉ σ.wat m := fun q => by
    have := (h.inv.w.entr m hmL.in' p (by rw [hwm]; exact q)).2.2
    rw [h1] at this
    rcases this with e | e
    · exact hm0 e
    · exact hmn e
  have hu := h.inv.w.uniq n h.lt.in'
  rw [updI_same] at hu
  have hpK : p ∉ K ++ R := by
    intro q
    rw [List.nodup_append] at hu
    rcases List.mem_append.1 q with z | z
    · exact hu.2.2 p z p (by simp) rfl
    · exact (List.nodup_cons.1 hu.2.1).1 z
  have hW : Wts (σ.rew p i) (updI (σ.rew p i).wat n (K ++ R)) := by
    have ew : ∀ m', m' ≠ n → (updI (σ.rew p i).wat n (K ++ R)) m' = if m' = m then σ.wat m ++ [p] else σ.wat m' := fun m' e => by
      rw [updI_ne _ _ _ e]
      show updI σ.wat (σ.lits p)[i]! (σ.wat (σ.lits p)[i]! ++ [p]) m' = _
      rw [← hm]; rfl
    refine ⟨fun m' hm' q hq => ?_, fun q hq hc m' hw => ?_, fun m' hm' => ?_⟩
    · by_cases e : m' = n
      · subst e
        rw [updI_same] at hq
        have hqp : q ≠ p := fun z => hpK (z ▸ hq)
        have := h.inv.w.entr m' hm' q (by
          rw [updI_same]
          rcases List.mem_append.1 hq with z | z
          · exact List.mem_append_left _ z
          · exact List.mem_append_right _ (List.mem_cons_of_mem _ z))
        exact ⟨this.1, (w2o q m' hqp).2 this.2⟩
      · rw [ew m' e] at hq
        by_cases e2 : m' = m
        · subst e2
          rw [if_pos rfl] at hq
          rcases List.mem_append.1 hq with z | z
          · have := h.inv.w.entr m' hm' q (by rw [hwm]; exact z)
            exact ⟨this.1, (w2o q m' (fun y => hpm (y ▸ z))).2 this.2⟩
          · rw [List.mem_singleton.1 z]; exact ⟨hp, (w2p m').2 (Or.inr rfl)⟩
        · rw [if_neg e2] at hq
          have := h.inv.w.entr m' hm' q (by rw [updI_ne _ _ _ e]; exact hq)
          by_cases e3 : q = p
          · subst e3
            refine ⟨hp, (w2p m').2 (Or.inl ?_)⟩
            have h3 := this.2.2
            rw [h1] at h3
            exact h3.resolve_right e
          · exact ⟨this.1, (w2o q m' e3).2 this.2⟩
    · by_cases e3 : q = p
      · subst e3
        rcases (w2p m').1 hw with e | e
        · subst e
          rw [ew _ hn0, if_neg (fun z => hm0 z.symm)]
          have := h.inv.w.has q hq hc _ (⟨hl2, Or.inl rfl⟩ : W2 σ q (σ.lits q)[0]!)
          rwa [updI_ne _ _ _ hn0] at this
        · subst e
          rw [ew _ hmn, if_pos rfl]; simp
      · have := h.inv.w.has q hq hc m' ((w2o q m' e3).1 hw)
        by_cases e : m' = n
        · subst e
          rw [updI_same] at this ⊢
          rcases List.mem_append.1 this with z | z
          · exact List.mem_append_left _ z
          · rcases List.mem_cons.1 z with z | z
            · exact absurd z e3
            · exact List.mem_append_right _ z
        · rw [updI_ne _ _ _ e] at this
          rw [ew m' e]
          split
          · rename_i e2; subst e2; exact List.mem_append_left _ this
          · exact this
    · by_cases e : m' = n
      · subst e; rw [updI_same]
        exact hu.sublist (List.Sublist.append_left (List.sublist_cons_self _ _) _)
      · rw [ew m' e]
        have := h.inv.w.uniq m' hm'
        rw [updI_ne _ _ _ e] at this
        split
        · rename_i e2; subst e2
          rw [List.nodup_append]
          exact ⟨this, by simp, fun x hx y hy z => hpm (by rw [← List.mem_singleton.1 hy, ← z]; exact hx)⟩
        · exact this
  refine ⟨⟨⟨h.inv.t.lt, h.inv.t.nd, h.inv.t.val, h.inv.t.con, h.inv.t.head⟩, ⟨fun q hq => ?_, fun q hq m' hm' => h.inv.c.lt q hq m' ((mem q m').1 hm'), fun q hq => ?_⟩, hW, fun q hq hc m' hw he hn => ?_, fun hs j l hj => ?_, h.inv.b⟩, h.neg, h.lt, h.lv⟩
  · show (upd σ.lits p _ q).Nodup
    by_cases e : q = p
    · subst e; rw [upd_same]; exact hperm.nodup_iff.2 hnd
    · rw [upd_ne _ _ _ e]; exact h.inv.c.nd q hq
  · show (upd σ.lits p _ q).length ≤ _
    by_cases e : q = p
    · subst e; rw [upd_same, swp_length]; exact h.inv.c.len q hq
    · rw [upd_ne _ _ _ e]; exact h.inv.c.len q hq
  · by_cases e : q = p
    · subst e
      rcases (w2p m').1 hw with e | e
      · obtain ⟨o, o1, o2, o3⟩ := h.inv.h q hq hc m' ⟨hl2, Or.inl e⟩ (fun z => hn0 (by rw [← e]; exact z.1)) hn
        exact ⟨o, (mem q o).2 o1, o2, o3⟩
      · subst e
        exact absurd (List.mem_of_mem_take hn) (by rw [hm]; exact hf)
    · obtain ⟨o, o1, o2, o3⟩ := h.inv.h q hq hc m' ((w2o q m' e).1 hw) (fun z => by
        rcases List.mem_cons.1 z.2 with y | y
        · exact e y
        · exact he ⟨z.1, y⟩) hn
      exact ⟨o, (mem q o).2 o1, o2, o3⟩
  · rcases h.inv.r hs j l hj with q | ⟨q, p1, p2, p3, p4, p5, p6⟩
    · exact Or.inl q
    · refine Or.inr ⟨q, p1, p2, p3, ?_, ?_, fun m' hm' hne => p6 m' ((mem q m').1 hm') hne⟩
      · show 0 < (upd σ.lits p _ q).length
        by_cases e : q = p
        · subst e; rw [upd_same, swp_length]; exact p4
        · rw [upd_ne _ _ _ e]; exact p4
      · show (upd σ.lits p _ q)[0]! = l
        by_cases e : q = p
        · subst e; rw [upd_same, g0]; exact p5
        · rw [upd_ne _ _ _ e]; exact p5
end

theorem not_mem_of_false {σ : St} (h : Trl σ) {n : Int} (hn : In σ.V n) (hv : σ.val n = false) : n ∉ σ.asg := h.no hn hv
/-- All that wake does keeps it. -/
theorem WkTo.run {σ0 σ : St} {n : Int} {K R : List Nat} {b : Option Nat} {so : List Int} (h : WkTo σ0 n σ K R) (h0 : Run σ0 n [] (σ0.wat n) b so) : Run σ n K R b so := by
  induction h with
  | start => exact h0
  | dead _ hd ih => exact ih.dead hd
  | @sat σ K p R hw hc hv ih =>
    have hr := ih.snd
    have h2 := ih.cur.2.1
    have hl : ((σ.snd p n).lits p)[0]! ∈ (σ.snd p n).lits p := mem! (by rw [snd_len]; omega)
    have hL : Lt (σ.snd p n).V ((σ.snd p n).lits p)[0]! := hr.inv.c.lt p (by rw [snd_N]; exact ih.cur.1) _ hl
    exact hr.keep hl (hr.inv.t.yes hL.in' (by rw [snd_val]; exact hv))
  | @move σ K p R i hw hc h2 hi hv ih =>
    have hr := ih.snd
    have hL := hr.inv.c.lt p (by rw [snd_N]; exact ih.cur.1) _ (mem! hi)
    exact hr.move (snd_second ih.cur.2 (ih.inv.c.nd p ih.cur.1)).1 h2 hi (hr.inv.t.no hL.neg.in' (by rw [snd_val]; exact hv))
  | @unit σ K p R hw hc h0v hj h0f ih =>
    have hr := ih.snd
    have hp : p < (σ.snd p n).N := by rw [snd_N]; exact ih.cur.1
    have l2 : 2 ≤ ((σ.snd p n).lits p).length := by rw [snd_len]; exact ih.cur.2.1
    have hL := hr.inv.c.lt p hp _ (mem! (j := 0) (by omega))
    refine hr.asn (by rw [snd_cps]; exact hc) rfl (hr.inv.t.no hL.in' (by rw [snd_val]; exact h0v)) (hr.inv.t.no hL.neg.in' (by rw [snd_val]; exact h0f)) fun m hm hne => ?_
    obtain ⟨j, hjl, hje⟩ := idx_of_mem hm
    have hjm : ((σ.snd p n).lits p)[j]! = m := by rw [getElem!_pos _ j hjl]; exact (List.getElem?_eq_some_iff.1 hje).2
    match j, hjl, hjm with
    | 0, _, hjm => exact absurd hjm.symm hne
    | 1, _, hjm =>
      rw [(snd_second ih.cur.2 (ih.inv.c.nd p ih.cur.1)).1] at hjm
      rw [← hjm]; exact hr.neg
    | j + 2, hjl, hjm =>
      have := hj (j + 2) (by omega) hjl
      rw [hjm] at this
      exact hr.inv.t.yes (hr.inv.c.lt p hp m hm).neg.in' (by rw [snd_val]; exact this)

/-- What wake leaves. -/
structure WkOut (σ' : St) (n c : Int) (b : Option Nat) (so : List Int) : Prop where
  inv : Inv σ' σ'.wat b so (fun _ m => c ≠ -1 ∧ m = n)
  lv : ∀ k, b = some k → -n ∉ σ'.asg.take k
  bad : c ≠ -1 → ∃ p : Nat, c = (p : Int) ∧ p < σ'.N ∧ σ'.cps p ≠ 0 ∧ ∀ m ∈ σ'.lits p, -m ∈ σ'.asg
theorem WkEnd.out {σ0 σ : St} {n c : Int} {b : Option Nat} {so : List Int} (h : WkEnd σ0 n σ c) (h0 : Run σ0 n [] (σ0.wat n) b so) : WkOut σ n c b so := by
  cases h with
  | @done σ K hw =>
    have hr := hw.run h0
    have e : K ++ [] = K := List.append_nil K
    refine ⟨⟨⟨hr.inv.t.lt, hr.inv.t.nd, hr.inv.t.val, hr.inv.t.con, hr.inv.t.head⟩, ⟨hr.inv.c.nd, hr.inv.c.lt, hr.inv.c.len⟩, ?_, fun q hq hc m hm he hn => hr.inv.h q hq hc m hm (fun z => by cases z.2) hn, hr.inv.r, hr.inv.b⟩, hr.lv, fun q => absurd rfl q⟩
    have hW := hr.inv.w
    rw [e] at hW
    exact ⟨hW.entr, hW.has, hW.uniq⟩
  | @bad σ K p R hw hc hj h0f =>
    have hr0 := hw.run h0
    have hr := hr0.snd
    have hp : p < (σ.snd p n).N := by rw [snd_N]; exact hr0.cur.1
    have l2 : 2 ≤ ((σ.snd p n).lits p).length := by rw [snd_len]; exact hr0.cur.2.1
    refine ⟨⟨⟨hr.inv.t.lt, hr.inv.t.nd, hr.inv.t.val, hr.inv.t.con, hr.inv.t.head⟩, ⟨hr.inv.c.nd, hr.inv.c.lt, hr.inv.c.len⟩, ?_, fun q hq hc m hm he hn => hr.inv.h q hq hc m hm (fun z => he ⟨by omega, z.1⟩) hn, hr.inv.r, hr.inv.b⟩, hr.lv, fun _ => ⟨p, rfl, hp, by show (σ.snd p n).cps p ≠ 0; rw [snd_cps]; exact hc, fun m hm => ?_⟩⟩
    · have hW := hr.inv.w
      rw [snd_wat] at hW
      exact ⟨hW.entr, hW.has, hW.uniq⟩
    · have hm : m ∈ (σ.snd p n).lits p := hm
      show -m ∈ (σ.snd p n).asg
      obtain ⟨j, hjl, hje⟩ := idx_of_mem hm
      have hjm : ((σ.snd p n).lits p)[j]! = m := by rw [getElem!_pos _ j hjl]; exact (List.getElem?_eq_some_iff.1 hje).2
      have hmL := hr.inv.c.lt p hp m hm
      match j, hjl, hjm with
      | 0, _, hjm => exact hr.inv.t.yes hmL.neg.in' (by rw [snd_val, ← hjm]; exact h0f)
      | 1, _, hjm =>
        rw [(snd_second hr0.cur.2 (hr0.inv.c.nd p hr0.cur.1)).1] at hjm
        rw [← hjm]; exact hr.neg
      | j + 2, hjl, hjm =>
        have := hj (j + 2) (by omega) hjl
        rw [hjm] at this
        exact hr.inv.t.yes hmL.neg.in' (by rw [snd_val]; exact this)
end Go.Proofs.YthpamogomfleoaaDoor.Rc
