/- What is made of watch lists and of clauses' literals in memory. -/
import Derived.Test.YthpamogomfleoaaDoorRcA
namespace Go.Proofs.YthpamogomfleoaaDoor.Rc
open Go Go.RowKit Go.Lib

section
variable {w w1 : World} {Y : Lay} {σ : St} {x : Option Int}

/-- A list is under way. -/
theorem Mem.hold (h : Mem w Y σ none) (x : Option Int) : Mem w Y σ x := by
  intro f; have K := h f; cases f
  case wls => exact fun n h0 _ => K n h0 (by simp)
  all_goals exact K

def sWl (n : Int) : Role → Bool | .wl k => k == n | .wat => true | _ => false
def sWat : Role → Bool | .wat => true | _ => false
def St.wat1 (σ : St) (n : Int) (p : Nat) : St := { σ with wat := updI σ.wat n (σ.wat n ++ [p]) }
theorem Mem.appWl {g cap wB : Nat} {n : Int} {p : Nat} (h : Mem w Y σ x) (hn : In σ.V n) (hx : some n ≠ x) (hv : Y.hd 8 = .slice (some ⟨wB, 0, none⟩) (2 * σ.V + 1) (2 * σ.V + 1)) (hρ : Y.ρ wB = .wat) (G : Gr w w1 Y.ρ (.wl n) (Y.watV (ix σ.V n)) g)
    (ho : w1.ownsRow 0 3 1 (.slice (some ⟨g, 0, none⟩) ((σ.wat n).length + 1) cap) ((σ.wat n).length + 1) ((σ.wat n).map encN ++ [encN p])) :
    Mem (w1.setCell ⟨wB, ix σ.V n, none⟩ (.slice (some ⟨g, 0, none⟩) ((σ.wat n).length + 1) cap)) { Y with watV := upd Y.watV (ix σ.V n) (.slice (some ⟨g, 0, none⟩) ((σ.wat n).length + 1) cap), ρ := newρ Y.ρ g (.wl n) } (σ.wat1 n p) x
    ∧ Nxt (sWl n) w Y (w1.setCell ⟨wB, ix σ.V n, none⟩ (.slice (some ⟨g, 0, none⟩) ((σ.wat n).length + 1) cap)) { Y with watV := upd Y.watV (ix σ.V n) (.slice (some ⟨g, 0, none⟩) ((σ.wat n).length + 1) cap), ρ := newρ Y.ρ g (.wl n) } := by
  obtain ⟨wB', e1, r1, _⟩ := h .wat
  obtain rfl : wB = wB' := by rw [hv] at e1; simpa using e1
  have hgw : g ≠ wB := by
    intro e
    rcases G.at' with q | q
    · have := G.role _ q; rw [e, hρ] at this; cases this
    · have := r1.lt; omega
  have F1 : Frm Y.ρ (sWl n) w w1 := G.frm (by simp [sWl])
  have F : Frm Y.ρ (sWl n) w (w1.setCell ⟨wB, ix σ.V n, none⟩ (.slice (some ⟨g, 0, none⟩) ((σ.wat n).length + 1) cap)) := F1.set (fun _ => by rw [hρ]; rfl) _
  refine ⟨?_, F, rfl, G.ext⟩
  intro f; have KE := (h f).keep F G.ext (G.dom h (by simp [World.setCell])); cases f
  case wat =>
    have r2 : RowAt w1 wB _ _ _ := r1.of_heap (G.grow.block _ r1.lt fun e => by have := G.role _ e.symm; rw [hρ] at this; cases this)
    exact ⟨wB, hv, r2.set _ _, by show newρ Y.ρ g _ wB = _; rw [G.ext _ r1.lt]; exact hρ⟩
  case wls =>
    intro k k0 k1
    have k0 : In σ.V k := k0
    by_cases e : k = n
    · subst e
      show OwnR _ (newρ Y.ρ g (.wl k)) (.wl k) _ 1 (upd Y.watV (ix σ.V k) _ (ix σ.V k)) (updI σ.wat k _ k).length ((updI σ.wat k _ k).map encN)
      rw [upd_same, updI_same, List.length_append, List.map_append]
      refine ⟨?_, fun q hq => by rw [← ownB hq]; exact upd_same _ _ _⟩
      exact owns_of_heap ho fun q hq => Below.heap_setCell _ _ _ _ (by rw [← ownB hq]; exact hgw)
    · show OwnR _ (newρ Y.ρ g (.wl n)) (.wl k) _ 1 (upd Y.watV (ix σ.V n) _ (ix σ.V k)) (updI σ.wat n _ k).length ((updI σ.wat n _ k).map encN)
      rw [upd_ne _ _ _ (fun q => e (ix_inj k0 hn q)), updI_ne _ _ _ e]
      exact (h .wls k k0 k1).keep F (by simp [sWl, e]) G.ext
  all_goals exact KE (by first | exact True.intro | rfl | exact fun _ => rfl)

/-- The list that was under way is laid back. -/
theorem Mem.layWl {wB : Nat} {n : Int} {v : Value} {ws : List Nat} (h : Mem w Y σ (some n)) (hn : In σ.V n) (hv : Y.hd 8 = .slice (some ⟨wB, 0, none⟩) (2 * σ.V + 1) (2 * σ.V + 1)) (hρ : Y.ρ wB = .wat)
    (ho : OwnR w Y.ρ (.wl n) 3 1 v ws.length (ws.map encN)) :
    Mem (w.setCell ⟨wB, ix σ.V n, none⟩ v) { Y with watV := upd Y.watV (ix σ.V n) v } { σ with wat := updI σ.wat n ws } none ∧ Nxt sWat w Y (w.setCell ⟨wB, ix σ.V n, none⟩ v) { Y with watV := upd Y.watV (ix σ.V n) v } := by
  obtain ⟨wB', e1, r1, _⟩ := h .wat
  obtain rfl : wB = wB' := by rw [hv] at e1; simpa using e1
  have F : Frm Y.ρ sWat w (w.setCell ⟨wB, ix σ.V n, none⟩ v) := (Frm.refl _ _ _).set (fun _ => by rw [hρ]; rfl) _
  refine ⟨?_, F, rfl, fun _ _ => rfl⟩
  intro f; have K := (h f).keep F (fun _ _ => rfl) (h.dom F.size); cases f
  case wat => exact ⟨wB, hv, r1.set _ _, hρ⟩
  case wls =>
    intro k k0 _
    have k0 : In σ.V k := k0
    by_cases e : k = n
    · subst e
      show OwnR _ Y.ρ (.wl k) _ 1 (upd Y.watV (ix σ.V k) v (ix σ.V k)) (updI σ.wat k _ k).length ((updI σ.wat k _ k).map encN)
      rw [upd_same, updI_same]
      exact ho.keep F rfl (fun _ _ => rfl)
    · show OwnR _ Y.ρ (.wl k) _ 1 (upd Y.watV (ix σ.V n) _ (ix σ.V k)) (updI σ.wat n _ k).length ((updI σ.wat n _ k).map encN)
      rw [upd_ne _ _ _ (fun q => e (ix_inj k0 hn q)), updI_ne _ _ _ e]
      exact (h .wls k k0 (by simpa using e)).keep F rfl (fun _ _ => rfl)
  all_goals exact K (by first | exact True.intro | rfl | exact fun _ => rfl)

def sLits (p : Nat) : Role → Bool | .lit k => k == p | _ => false
/-- A literal of a clause is laid anew. -/
theorem Mem.setLit {p g c : Nat} (h : Mem w Y σ x) (hp : p < σ.N) (hv : Y.litV p = .slice (some ⟨g, 0, none⟩) (σ.lits p).length c) (i : Nat) (hi : i < (σ.lits p).length) (a : Int) :
    Mem (w.setCell ⟨g, i, none⟩ (.int .i64 a)) Y { σ with lits := upd σ.lits p ((σ.lits p).set i a) } x ∧ Frm Y.ρ (sLits p) w (w.setCell ⟨g, i, none⟩ (.int .i64 a)) := by
  obtain ⟨a0, c0, hR1, hR2⟩ := h .lts p hp
  obtain ⟨g', arr, rfl, hb, hρ', hcs⟩ := hR2.resolve_left (fun e => by rw [e] at hi; simp at hi)
  rw [hv] at hR1
  simp only [Value.slice.injEq, Option.some.injEq, Addr.mk.injEq, and_true, true_and] at hR1
  obtain ⟨rfl, rfl⟩ := hR1
  have F : Frm Y.ρ (sLits p) w (w.setCell ⟨g, i, none⟩ (.int .i64 a)) := (Frm.refl _ _ _).set (fun _ => by rw [hρ']; simp [sLits]) _
  refine ⟨?_, F⟩
  intro f; have K := (h f).keep F (fun _ _ => rfl) (h.dom F.size); cases f
  case lts =>
    intro q hq
    by_cases e : q = p
    · subst e
      show LitR _ Y.ρ q (Y.litV q) (upd σ.lits q _ q)
      rw [upd_same]
      refine ⟨some ⟨g, 0, none⟩, c, by rw [List.length_set]; exact hv, Or.inr ⟨g, _, rfl, block_set hb i _, hρ', fun j hj => ?_⟩⟩
      rw [List.length_set] at hj
      have hlt : i < arr.size := (Array.getElem?_eq_some_iff.1 (hcs i hi)).1
      rw [Array.getElem?_setIfInBounds, getElem!_pos _ j (by rw [List.length_set]; exact hj), List.getElem_set]
      by_cases e2 : i = j
      · subst e2; rw [if_pos rfl, if_pos rfl, if_pos hlt]
      · rw [if_neg e2, if_neg e2, hcs j hj, getElem!_pos (σ.lits q) j hj]
    · have := (h .lts q hq).keep F (by simp [sLits, e]) (fun _ _ => rfl)
      show LitR _ Y.ρ q (Y.litV q) (upd σ.lits p _ q)
      rw [upd_ne _ _ _ e]
      exact this
  all_goals exact K (by first | exact True.intro | rfl | exact fun _ => rfl)
theorem Mem.swap {p g c : Nat} (h : Mem w Y σ x) (hp : p < σ.N) (hv : Y.litV p = .slice (some ⟨g, 0, none⟩) (σ.lits p).length c) (i j : Nat) (hi : i < (σ.lits p).length) (hj : j < (σ.lits p).length) (m m1 : Int) (hm : m = (σ.lits p)[j]!) (hm1 : m1 = (σ.lits p)[i]!) :
    Mem ((w.setCell ⟨g, i, none⟩ (.int .i64 m)).setCell ⟨g, j, none⟩ (.int .i64 m1)) Y { σ with lits := upd σ.lits p (swp (σ.lits p) i j) } x ∧ Frm Y.ρ (sLits p) w ((w.setCell ⟨g, i, none⟩ (.int .i64 m)).setCell ⟨g, j, none⟩ (.int .i64 m1)) := by
  obtain ⟨h1, F1⟩ := h.setLit hp hv i hi m
  have hv2 : Y.litV p = .slice (some ⟨g, 0, none⟩) (upd σ.lits p ((σ.lits p).set i m) p).length c := by rw [upd_same, List.length_set]; exact hv
  obtain ⟨h2, F2⟩ := h1.setLit (p := p) hp hv2 j (by show j < (upd σ.lits p ((σ.lits p).set i m) p).length; rw [upd_same, List.length_set]; exact hj) m1
  refine ⟨?_, F1.trans F2 (fun _ _ => rfl)⟩
  have e : upd (upd σ.lits p ((σ.lits p).set i m)) p ((upd σ.lits p ((σ.lits p).set i m) p).set j m1) = upd σ.lits p (swp (σ.lits p) i j) := by
    funext k
    unfold swp
    rw [upd_same, hm, hm1]
    unfold upd
    split <;> rfl
  have h3 : Mem ((w.setCell ⟨g, i, none⟩ (.int .i64 m)).setCell ⟨g, j, none⟩ (.int .i64 m1)) Y { σ with lits := upd (upd σ.lits p ((σ.lits p).set i m)) p ((upd σ.lits p ((σ.lits p).set i m) p).set j m1) } x := h2
  rw [e] at h3
  exact h3
/-- The literals of a clause, where there are any. -/
theorem Mem.litAt {p : Nat} (h : Mem w Y σ x) (hp : p < σ.N) (hl : 0 < (σ.lits p).length) : ∃ g c, Y.litV p = .slice (some ⟨g, 0, none⟩) (σ.lits p).length c ∧ g < w.heap.size ∧ Y.ρ g = .lit p ∧ (∀ i, i < (σ.lits p).length → w.cell? ⟨g, i, none⟩ = some (.int .i64 (σ.lits p)[i]!)) ∧ ∀ i, w.frozen? ⟨g, i, none⟩ = false := by
  obtain ⟨a, c, h1, h2⟩ := h .lts p hp
  obtain ⟨g, arr, rfl, hb, hρ, hcs⟩ := h2.resolve_left (fun e => by rw [e] at hl; simp at hl)
  refine ⟨g, c, h1, lt_of_block hb, hρ, fun i hi => ?_, fun i => by simp [World.frozen?, hb]⟩
  simp only [World.cell?, hb]
  simpa using hcs i hi
/-- The value of a clause's literals. -/
theorem Mem.litV {p : Nat} (h : Mem w Y σ x) (hp : p < σ.N) : ∃ a c, Y.litV p = .slice a (σ.lits p).length c := by
  obtain ⟨a, c, h1, _⟩ := h .lts p hp
  exact ⟨a, c, h1⟩
end
end Go.Proofs.YthpamogomfleoaaDoor.Rc
