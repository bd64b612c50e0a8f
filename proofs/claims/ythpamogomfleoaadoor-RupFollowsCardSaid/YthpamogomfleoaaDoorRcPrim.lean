/- What a store, or an append, makes of a checker in memory. -/
import Derived.Test.YthpamogomfleoaaDoorRcMem
namespace Go.Proofs.YthpamogomfleoaaDoor.Rc
open Go Go.RowKit Go.Lib

section
variable {w w1 : World} {Y : Lay} {σ : St} {x : Option Int}

def sChk : Role → Bool | .chk => true | _ => false
theorem Mem.setF (h : Mem w Y σ x) (i : Nat) (u : Value) : Frm Y.ρ sChk w (w.setCell ⟨Y.s, i, none⟩ u) ∧ RowAt (w.setCell ⟨Y.s, i, none⟩ u) Y.s 58 11 (upd Y.hd i u) :=
  ⟨(Frm.refl _ _ _).set (fun _ => by rw [h.srole]; rfl) u, (h .chk).1.set i u⟩

theorem Mem.setHead (h : Mem w Y σ x) (k : Nat) : Mem (w.setCell ⟨Y.s, 2, none⟩ (.int .i64 (k : Int))) { Y with hd := upd Y.hd 2 (.int .i64 (k : Int)) } { σ with head := k } x := by
  obtain ⟨F, R⟩ := h.setF 2 (.int .i64 (k : Int))
  intro f; have K := (h f).keep F (fun _ _ => rfl) (h.dom F.size); cases f
  case chk => exact ⟨R, (h .chk).2.1, (h .chk).2.2.1, h.dom F.size⟩
  case head => exact rfl
  all_goals exact K (by first | exact True.intro | rfl | exact fun _ => rfl)
theorem Mem.setConf (h : Mem w Y σ x) (k : Int) (h0 : -1 ≤ k) (h1 : k ≤ 9223372036854775807) : Mem (w.setCell ⟨Y.s, 9, none⟩ (.int .i64 k)) { Y with hd := upd Y.hd 9 (.int .i64 k) } { σ with conf := k } x := by
  obtain ⟨F, R⟩ := h.setF 9 (.int .i64 k)
  intro f; have K := (h f).keep F (fun _ _ => rfl) (h.dom F.size); cases f
  case chk => exact ⟨R, (h .chk).2.1, (h .chk).2.2.1, h.dom F.size⟩
  case conf => exact ⟨rfl, h0, h1⟩
  all_goals exact K (by first | exact True.intro | rfl | exact fun _ => rfl)
theorem Mem.setStl (h : Mem w Y σ x) (k : Bool) : Mem (w.setCell ⟨Y.s, 10, none⟩ (.bool k)) { Y with hd := upd Y.hd 10 (.bool k) } { σ with stale := k } x := by
  obtain ⟨F, R⟩ := h.setF 10 (.bool k)
  intro f; have K := (h f).keep F (fun _ _ => rfl) (h.dom F.size); cases f
  case chk => exact ⟨R, (h .chk).2.1, (h .chk).2.2.1, h.dom F.size⟩
  case stl => exact rfl
  all_goals exact K (by first | exact True.intro | rfl | exact fun _ => rfl)

/-- A slice of the checker's own is shortened. -/
theorem OwnR.take {ρ : Nat → Role} {r : Role} {ty : TypeId} {g n cap m : Nat} {xs : List Value} (h : OwnR w ρ r ty 1 (.slice (some ⟨g, 0, none⟩) n cap) n xs) (hm : m ≤ n) : OwnR w ρ r ty 1 (.slice (some ⟨g, 0, none⟩) m cap) m (xs.take m) := by
  obtain ⟨⟨h1, h2⟩, h3⟩ := h
  refine ⟨⟨by rw [List.length_take]; omega, ?_⟩, fun g' hg => h3 g' (by simpa [Value.ownBlock] using hg)⟩
  rcases h2 with ⟨e, _⟩ | ⟨g', cap', cur, hv, hb, hh, h5, h6, h7, h8⟩
  · cases e
  · simp only [Value.slice.injEq, Option.some.injEq, Addr.mk.injEq, and_true, true_and] at hv
    obtain ⟨rfl, rfl⟩ := hv
    refine Or.inr ⟨g, cap, cur, rfl, hb, hh, by omega, h6, h7, ?_⟩
    rw [← h8, Nat.mul_one, Nat.mul_one, List.take_take]
    congr 1
    omega
theorem OwnR.setAt {ρ : Nat → Role} {r : Role} {ty : TypeId} {g n c sz : Nat} {xs : List Value} (h : OwnR w ρ r ty sz (.slice (some ⟨g, 0, none⟩) n c) n xs) (i : Nat) (_ : i < n * sz) (u : Value) :
    OwnR (w.setCell ⟨g, i, none⟩ u) ρ r ty sz (.slice (some ⟨g, 0, none⟩) n c) n (xs.set i u) := by
  obtain ⟨⟨h1, h2⟩, h3⟩ := h
  refine ⟨⟨by simpa using h1, ?_⟩, h3⟩
  rcases h2 with ⟨e, _⟩ | ⟨g', cap', cur, hv, hb, hh, h5, h6, h7, h8⟩
  · cases e
  · simp only [Value.slice.injEq, Option.some.injEq, Addr.mk.injEq, and_true, true_and] at hv
    obtain ⟨rfl, rfl⟩ := hv
    refine Or.inr ⟨g, c, cur.setIfInBounds i u, rfl, hb, block_set hh i u, h5, h6, by simpa using h7, ?_⟩
    rw [Array.toList_setIfInBounds, ← h8, List.take_set]
theorem OwnR.free {ρ : Nat → Role} {r : Role} {ty : TypeId} {sz g n c : Nat} {xs : List Value} (h : OwnR w ρ r ty sz (.slice (some ⟨g, 0, none⟩) n c) n xs) (i : Nat) : w.frozen? ⟨g, i, none⟩ = false := by
  rcases h.1.2 with ⟨e, _⟩ | ⟨g', cap', cur, hv, hb, hh, _⟩
  · cases e
  · simp only [Value.slice.injEq, Option.some.injEq, Addr.mk.injEq, and_true, true_and] at hv
    obtain ⟨rfl, rfl⟩ := hv
    simp [World.frozen?, hh]
/-- The value of a slice of the checker's own. -/
theorem own_form {ρ : Nat → Role} {r : Role} {ty : TypeId} {sz : Nat} {v : Value} {n : Nat} {xs : List Value} (h : OwnR w ρ r ty sz v n xs) : ∃ a c, v = .slice a n c ∧ n ≤ c ∧ c ≤ 9223372036854775807 := by
  rcases h.1.2 with ⟨rfl, rfl⟩ | ⟨g, cap, cur, rfl, _, _, h1, h2, _⟩
  · exact ⟨none, 0, rfl, Nat.le_refl _, by omega⟩
  · exact ⟨_, cap, rfl, h1, by unfold maxLen at h2; omega⟩
theorem own_form1 {ρ : Nat → Role} {r : Role} {ty : TypeId} {sz : Nat} {v : Value} {n : Nat} {xs : List Value} (h : OwnR w ρ r ty sz v n xs) (hn : 0 < n) : ∃ g c, v = .slice (some ⟨g, 0, none⟩) n c ∧ n ≤ c ∧ c ≤ 9223372036854775807 ∧ g < w.heap.size ∧ ρ g = r := by
  have hr := h.2
  rcases h.1.2 with ⟨_, rfl⟩ | ⟨g, cap, cur, rfl, _, hh, h1, h2, _⟩
  · omega
  · exact ⟨g, cap, rfl, h1, by unfold maxLen at h2; omega, lt_of_block hh, hr g rfl⟩
theorem OwnR.cellAt {ρ : Nat → Role} {r : Role} {ty : TypeId} {g n c sz : Nat} {xs : List Value} (h : OwnR w ρ r ty sz (.slice (some ⟨g, 0, none⟩) n c) n xs) {i : Nat} {u : Value} (hu : xs[i]? = some u) : w.cell? ⟨g, i, none⟩ = some u := by
  have := h.1.cells (g := g) rfl i u hu
  unfold Addr.add at this
  split at this
  · rename_i e; rw [e]; exact this
  · simpa using this
theorem OwnR.cellM {α : Type} [Inhabited α] {E : α → Value} {ρ : Nat → Role} {r : Role} {ty : TypeId} {g n c sz : Nat} {zs : List α} (h : OwnR w ρ r ty sz (.slice (some ⟨g, 0, none⟩) n c) n (zs.map E)) {i : Nat} (hi : i < zs.length) : w.cell? ⟨g, i, none⟩ = some (E zs[i]!) :=
  h.cellAt (by rw [List.getElem?_map, getElem!_pos zs i hi, List.getElem?_eq_getElem hi]; rfl)

theorem Mem.cutAsg (h : Mem w Y σ x) {k : Nat} {v : Value} (hk : k ≤ σ.asg.length) (hv : (v = Y.hd 1 ∧ k = σ.asg.length) ∨ ∃ g cap, Y.hd 1 = .slice (some ⟨g, 0, none⟩) σ.asg.length cap ∧ v = .slice (some ⟨g, 0, none⟩) k cap) : Mem (w.setCell ⟨Y.s, 1, none⟩ v) { Y with hd := upd Y.hd 1 v } { σ with asg := σ.asg.take k } x := by
  obtain ⟨F, R⟩ := h.setF 1 v
  intro f; have K := (h f).keep F (fun _ _ => rfl) (h.dom F.size); cases f
  case chk => exact ⟨R, (h .chk).2.1, (h .chk).2.2.1, h.dom F.size⟩
  case asg =>
    have hh : OwnR w Y.ρ .asg 3 1 (Y.hd 1) σ.asg.length (σ.asg.map encL) := h .asg
    show OwnR _ Y.ρ .asg _ 1 v (σ.asg.take k).length ((σ.asg.take k).map encL)
    rcases hv with ⟨rfl, rfl⟩ | ⟨g, cap, e1, rfl⟩
    · rw [List.take_length]; exact hh.keep F rfl (fun _ _ => rfl)
    · rw [e1] at hh
      rw [List.length_take, Nat.min_eq_left hk, List.map_take]
      exact (hh.take hk).keep F rfl (fun _ _ => rfl)
  all_goals exact K (by first | exact True.intro | rfl | exact fun _ => rfl)

/-! ### Arrays -/
def sHol : Role → Bool | .hol => true | _ => false
def sRsn : Role → Bool | .rsn => true | _ => false
theorem Mem.setVal (h : Mem w Y σ x) {b : Nat} (hv : Y.hd 3 = .slice (some ⟨b, 0, none⟩) (2 * σ.V + 1) (2 * σ.V + 1)) (hρ : Y.ρ b = .hol) {n : Int} (hn : In σ.V n) (z : Bool) : Mem (w.setCell ⟨b, ix σ.V n, none⟩ (.bool z)) Y { σ with val := updI σ.val n z } x := by
  have F : Frm Y.ρ sHol w (w.setCell ⟨b, ix σ.V n, none⟩ (.bool z)) := (Frm.refl _ _ _).set (fun _ => by rw [hρ]; rfl) _
  intro f; have K := (h f).keep F (fun _ _ => rfl) (h.dom F.size); cases f
  case hol =>
    obtain ⟨b', e1, e2, e3⟩ := h .hol
    obtain rfl : b = b' := by rw [hv] at e1; simpa using e1
    exact ⟨b, hv, (e2.set _ _).congr fun j _ => updIx Value.bool σ.val hn z j, hρ⟩
  all_goals exact K (by first | exact True.intro | rfl | exact fun _ => rfl)
theorem Mem.setRsn (h : Mem w Y σ x) {b : Nat} (hv : Y.hd 4 = .slice (some ⟨b, 0, none⟩) (2 * σ.V + 1) (2 * σ.V + 1)) (hρ : Y.ρ b = .rsn) {n : Int} (hn : In σ.V n) (z : Int) : Mem (w.setCell ⟨b, ix σ.V n, none⟩ (.int .i64 z)) Y { σ with rsn := updI σ.rsn n z } x := by
  have F : Frm Y.ρ sRsn w (w.setCell ⟨b, ix σ.V n, none⟩ (.int .i64 z)) := (Frm.refl _ _ _).set (fun _ => by rw [hρ]; rfl) _
  intro f; have K := (h f).keep F (fun _ _ => rfl) (h.dom F.size); cases f
  case rsn =>
    obtain ⟨b', e1, e2, e3⟩ := h .rsn
    obtain rfl : b = b' := by rw [hv] at e1; simpa using e1
    exact ⟨b, hv, (e2.set _ _).congr fun j _ => updIx encL σ.rsn hn z j, hρ⟩
  all_goals exact K (by first | exact True.intro | rfl | exact fun _ => rfl)

/-! ### Appends -/
theorem ownB {g a b k : Nat} (h : (Value.slice (some ⟨g, 0, none⟩) a b).ownBlock = some k) : g = k := by simpa [Value.ownBlock] using h
/-- Where an appended slice lies: in its old block, or in a new one. -/
structure Gr (w w1 : World) (ρ : Nat → Role) (r : Role) (v : Value) (g : Nat) : Prop where
  grow : w.grownBy w1 v.ownBlock
  at' : v.ownBlock = some g ∨ w.heap.size ≤ g
  role : ∀ k, v.ownBlock = some k → ρ k = r
  lt : g < w1.heap.size
def newρ (ρ : Nat → Role) (g : Nat) (r : Role) : Nat → Role := upd ρ g r
theorem Gr.dom {w2 : World} {r : Role} {v : Value} {g : Nat} (G : Gr w w1 Y.ρ r v g) (h : Mem w Y σ x) (hs : w1.heap.size ≤ w2.heap.size) : ∀ k, w2.heap.size ≤ k → newρ Y.ρ g r k = .old := by
  intro k hk
  unfold newρ
  rw [upd_ne _ _ _ (by have := G.lt; omega)]
  exact h.dom G.grow.size k (by omega)
theorem Gr.ext {ρ : Nat → Role} {r : Role} {v : Value} {g : Nat} (h : Gr w w1 ρ r v g) : ∀ k, k < w.heap.size → newρ ρ g r k = ρ k := by
  intro k hk
  unfold newρ
  by_cases e : k = g
  · subst e
    rw [upd_same]
    rcases h.at' with q | q
    · exact (h.role _ q).symm
    · omega
  · rw [upd_ne _ _ _ e]
theorem Gr.frm {ρ : Nat → Role} {r : Role} {v : Value} {g : Nat} {S : Role → Bool} (h : Gr w w1 ρ r v g) (hS : S r = true) : Frm ρ S w w1 :=
  Frm.grown h.grow fun k hk _ => by rw [h.role k hk]; exact hS
theorem Gr.ne {r : Role} {v : Value} {g : Nat} (G : Gr w w1 Y.ρ r v g) (h : Mem w Y σ x) (hr : r ≠ .chk) : g ≠ Y.s := by
  intro e
  subst e
  rcases G.at' with q | q
  · exact hr ((G.role _ q).symm.trans h.srole)
  · have := h.slt; omega
theorem Gr.mk' {ρ : Nat → Role} {r : Role} {ty : TypeId} {sz n : Nat} {xs : List Value} {v : Value} {g H : Nat} (ho : OwnR w ρ r ty sz v n xs) (hgrow : w.grownBy w1 v.ownBlock) (hat : v.ownBlock = some g ∨ g = H) (hH : w.heap.size = H) (hlt : g < w1.heap.size) : Gr w w1 ρ r v g :=
  ⟨hgrow, hat.imp id fun e => by omega, ho.2, hlt⟩

/-- The new slice is stored into the checker's field i. -/
theorem Mem.appF {r : Role} {g i : Nat} {S : Role → Bool} (h : Mem w Y σ x) (G : Gr w w1 Y.ρ r (Y.hd i) g) (hr : S r = true) (hs : S .chk = true) (hne : (Y.hd i).ownBlock ≠ some Y.s) (u : Value) :
    Frm Y.ρ S w (w1.setCell ⟨Y.s, i, none⟩ u) ∧ RowAt (w1.setCell ⟨Y.s, i, none⟩ u) Y.s 58 11 (upd Y.hd i u) :=
  ⟨(G.frm hr).set (fun _ => by rw [h.srole]; exact hs) u, ((h .chk).1.of_heap (G.grow.block _ h.slt fun e => hne e.symm)).set i u⟩

def sAsg : Role → Bool | .asg => true | .chk => true | _ => false
def sSht : Role → Bool | .sht => true | .chk => true | _ => false
def sRcs : Role → Bool | .rcs => true | .chk => true | _ => false
theorem Mem.appAsg {g cap : Nat} {l : Int} (h : Mem w Y σ x) (G : Gr w w1 Y.ρ .asg (Y.hd 1) g) (hg : g ≠ Y.s)
    (ho : w1.ownsRow 0 3 1 (.slice (some ⟨g, 0, none⟩) (σ.asg.length + 1) cap) (σ.asg.length + 1) (σ.asg.map encL ++ [encL l])) :
    Mem (w1.setCell ⟨Y.s, 1, none⟩ (.slice (some ⟨g, 0, none⟩) (σ.asg.length + 1) cap)) { Y with hd := upd Y.hd 1 (.slice (some ⟨g, 0, none⟩) (σ.asg.length + 1) cap), ρ := newρ Y.ρ g .asg } { σ with asg := σ.asg ++ [l] } x
    ∧ Nxt sAsg w Y (w1.setCell ⟨Y.s, 1, none⟩ (.slice (some ⟨g, 0, none⟩) (σ.asg.length + 1) cap)) { Y with hd := upd Y.hd 1 (.slice (some ⟨g, 0, none⟩) (σ.asg.length + 1) cap), ρ := newρ Y.ρ g .asg } := by
  obtain ⟨F, R⟩ := h.appF (S := sAsg) G rfl rfl (fun e => by have := G.role _ e; rw [h.srole] at this; cases this) (.slice (some ⟨g, 0, none⟩) (σ.asg.length + 1) cap)
  refine ⟨?_, F, rfl, G.ext⟩
  intro f; have KE := (h f).keep F G.ext (G.dom h (by simp [World.setCell])); cases f
  case chk => exact ⟨R, by show newρ Y.ρ g .asg Y.s = _; rw [G.ext _ h.slt]; exact h.srole, h.nle, G.dom h (by simp [World.setCell])⟩
  case asg =>
    refine ⟨?_, fun k hk => ?_⟩
    · show World.ownsRow _ 0 _ 1 (.slice (some ⟨g, 0, none⟩) (σ.asg.length + 1) cap) (σ.asg ++ [l]).length ((σ.asg ++ [l]).map encL)
      rw [List.length_append, List.map_append]
      exact owns_of_heap ho fun k hk => Below.heap_setCell _ _ _ _ (by rw [← ownB hk]; exact hg)
    · obtain rfl : g = k := ownB hk
      exact upd_same _ _ _
  all_goals exact KE (by first | exact True.intro | rfl | exact fun _ => rfl)
theorem Mem.appSht {g cap : Nat} {l : Nat} (h : Mem w Y σ x) (G : Gr w w1 Y.ρ .sht (Y.hd 7) g) (hg : g ≠ Y.s)
    (ho : w1.ownsRow 0 3 1 (.slice (some ⟨g, 0, none⟩) (σ.sh.length + 1) cap) (σ.sh.length + 1) (σ.sh.map encN ++ [encN l])) :
    Mem (w1.setCell ⟨Y.s, 7, none⟩ (.slice (some ⟨g, 0, none⟩) (σ.sh.length + 1) cap)) { Y with hd := upd Y.hd 7 (.slice (some ⟨g, 0, none⟩) (σ.sh.length + 1) cap), ρ := newρ Y.ρ g .sht } { σ with sh := σ.sh ++ [l] } x
    ∧ Nxt sSht w Y (w1.setCell ⟨Y.s, 7, none⟩ (.slice (some ⟨g, 0, none⟩) (σ.sh.length + 1) cap)) { Y with hd := upd Y.hd 7 (.slice (some ⟨g, 0, none⟩) (σ.sh.length + 1) cap), ρ := newρ Y.ρ g .sht } := by
  obtain ⟨F, R⟩ := h.appF (S := sSht) G rfl rfl (fun e => by have := G.role _ e; rw [h.srole] at this; cases this) (.slice (some ⟨g, 0, none⟩) (σ.sh.length + 1) cap)
  refine ⟨?_, F, rfl, G.ext⟩
  intro f; have KE := (h f).keep F G.ext (G.dom h (by simp [World.setCell])); cases f
  case chk => exact ⟨R, by show newρ Y.ρ g .sht Y.s = _; rw [G.ext _ h.slt]; exact h.srole, h.nle, G.dom h (by simp [World.setCell])⟩
  case sht =>
    refine ⟨?_, fun k hk => ?_⟩
    · show World.ownsRow _ 0 _ 1 (.slice (some ⟨g, 0, none⟩) (σ.sh.length + 1) cap) (σ.sh ++ [l]).length ((σ.sh ++ [l]).map encN)
      rw [List.length_append, List.map_append]
      exact owns_of_heap ho fun k hk => Below.heap_setCell _ _ _ _ (by rw [← ownB hk]; exact hg)
    · obtain rfl : g = k := ownB hk
      exact upd_same _ _ _
  all_goals exact KE (by first | exact True.intro | rfl | exact fun _ => rfl)

/-! ### Records -/
theorem recC_length (lv : Nat → Value) (cp : Nat → Nat) (n : Nat) : (recC lv cp n).length = n * 2 := by
  induction n with
  | zero => rfl
  | succ n ih => rw [recC, List.length_append, ih]; simp; omega
theorem recC_0 (lv : Nat → Value) (cp : Nat → Nat) {n p : Nat} (h : p < n) : (recC lv cp n)[p * 2]? = some (lv p) := by
  induction n with
  | zero => omega
  | succ n ih =>
    rw [recC]
    by_cases e : p = n
    · subst e
      rw [List.getElem?_append_right (by rw [recC_length]; omega), recC_length, show p * 2 - p * 2 = 0 by omega]; rfl
    · rw [List.getElem?_append_left (by rw [recC_length]; omega)]; exact ih (by omega)
theorem recC_1 (lv : Nat → Value) (cp : Nat → Nat) {n p : Nat} (h : p < n) : (recC lv cp n)[p * 2 + 1]? = some (encN (cp p)) := by
  induction n with
  | zero => omega
  | succ n ih =>
    rw [recC]
    by_cases e : p = n
    · subst e
      rw [List.getElem?_append_right (by rw [recC_length]; omega), recC_length, show p * 2 + 1 - p * 2 = 1 by omega]; rfl
    · rw [List.getElem?_append_left (by rw [recC_length]; omega)]; exact ih (by omega)
theorem recC_congr {lv lv' : Nat → Value} {cp cp' : Nat → Nat} {n : Nat} (h1 : ∀ p, p < n → lv p = lv' p) (h2 : ∀ p, p < n → cp p = cp' p) : recC lv cp n = recC lv' cp' n := by
  induction n with
  | zero => rfl
  | succ n ih => rw [recC, recC, ih (fun p hp => h1 p (by omega)) (fun p hp => h2 p (by omega)), h1 n (by omega), h2 n (by omega)]
theorem recC_set (lv : Nat → Value) (cp : Nat → Nat) {n p : Nat} (h : p < n) (k : Nat) : (recC lv cp n).set (p * 2 + 1) (encN k) = recC lv (upd cp p k) n := by
  induction n with
  | zero => omega
  | succ n ih =>
    rw [recC, recC]
    by_cases e : p = n
    · subst e
      rw [List.set_append_right _ _ (by rw [recC_length]; omega), recC_length, show p * 2 + 1 - p * 2 = 1 by omega, upd_same]
      rw [recC_congr (lv' := lv) (cp' := upd cp p k) (fun _ _ => rfl) (fun q hq => (upd_ne _ _ _ (by omega)).symm)]; rfl
    · rw [List.set_append_left _ _ (by rw [recC_length]; omega), ih (by omega), upd_ne _ _ _ (Ne.symm e)]
theorem Mem.recAt (h : Mem w Y σ x) {p : Nat} (hp : p < σ.N) : ∃ g c, Y.hd 5 = .slice (some ⟨g, 0, none⟩) σ.N c ∧ σ.N ≤ c ∧ c ≤ 9223372036854775807 ∧ g < w.heap.size ∧ Y.ρ g = .rcs ∧ w.cell? ⟨g, p * 2, none⟩ = some (Y.litV p) ∧ w.cell? ⟨g, p * 2 + 1, none⟩ = some (encN (σ.cps p)) ∧ ∀ i, w.frozen? ⟨g, i, none⟩ = false := by
  have hr : OwnR w Y.ρ .rcs 72 2 (Y.hd 5) σ.N (recC Y.litV σ.cps σ.N) := h .rcs
  obtain ⟨g, c, e, h1, h2, h3, h4⟩ := own_form1 hr (by omega)
  rw [e] at hr
  exact ⟨g, c, e, h1, h2, h3, h4, hr.cellAt (recC_0 _ _ hp), hr.cellAt (recC_1 _ _ hp), hr.free⟩
theorem Mem.setCps (h : Mem w Y σ x) {g c p : Nat} (hv : Y.hd 5 = .slice (some ⟨g, 0, none⟩) σ.N c) (hp : p < σ.N) (k : Nat) : Mem (w.setCell ⟨g, p * 2 + 1, none⟩ (.int .i64 (k : Int))) Y { σ with cps := upd σ.cps p k } x ∧ Frm Y.ρ sRcs w (w.setCell ⟨g, p * 2 + 1, none⟩ (.int .i64 (k : Int))) := by
  have hr : OwnR w Y.ρ .rcs 72 2 (Y.hd 5) σ.N (recC Y.litV σ.cps σ.N) := h .rcs
  have hρ : Y.ρ g = .rcs := hr.2 g (by rw [hv]; rfl)
  have F : Frm Y.ρ sRcs w (w.setCell ⟨g, p * 2 + 1, none⟩ (.int .i64 (k : Int))) := (Frm.refl _ _ _).set (fun _ => by rw [hρ]; rfl) _
  have hs : g ≠ Y.s := fun e => by have := h.srole; rw [← e, hρ] at this; cases this
  refine ⟨?_, F⟩
  intro f; have K := (h f).keep F (fun _ _ => rfl) (h.dom F.size); cases f
  case chk => exact ⟨(h .chk).1.of_heap (Below.heap_setCell _ _ _ _ (Ne.symm hs)), h.srole, h.nle, h.dom F.size⟩
  case rcs =>
    show OwnR _ Y.ρ .rcs _ 2 (Y.hd 5) σ.N (recC Y.litV (upd σ.cps p k) σ.N)
    rw [hv] at hr ⊢
    rw [← recC_set _ _ hp]
    exact hr.setAt _ (by omega) _
  all_goals exact K (by first | exact True.intro | rfl | exact fun _ => rfl)
end
end Go.Proofs.YthpamogomfleoaaDoor.Rc
