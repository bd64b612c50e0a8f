/- Appending a slice, whatever its shape, to one of the call's own. -/
import Derived.Test.YthpamogomfleoaaDoorClP
import Derived.Test.YthpamogomfleoaaDoorUpPlain
import Derived.Laws.AppendOwnNone
import Derived.OwnWalk
namespace Go.Proofs.YthpamogomfleoaaDoor.Cl
open Go Go.RowKit Go.Lib

theorem RowIn.nil_of_none {α : Type} [Inhabited α] {enc : α → Value} {w : World} {zs : List α} (h : RowIn enc w none zs) : zs = [] := by
  rcases h with h | ⟨b, off, h, _⟩
  · exact h
  · cases h

theorem wpList_append_row {α : Type} [Inhabited α] (enc : α → Value) {P : Program} {w : World} {ops : Array Oper} {rest : List Oper} {o : Oper} {a : Act} {Q : Exit → Act → World → Prop} (hgd : o.guard = none) (s x : Operand) (t : TypeId)
    (ho : o.op = .call { callee := .builtin .append, args := #[s, x], argTypes := #[t, t] })
    (base : Nat) (e : TypeId) (i : TypeInfo) (z : Value) (bytes : Nat) (ht : P.underlying t = some (.slice e)) (hi : P.info? e = some i) (hz : i.zero = some z)
    (hsize : i.size = 1) (hby : i.bytes = bytes) (hzs : z.cells.size = 1)
    (v : Value) (n : Nat) (xs : List Value) (hs : a.eval s = v) (hown : w.ownsRow base e 1 v n xs)
    (b : Option Addr) (d : Nat) (zs : List α) (m : Nat) (hm : zs.length = m) (hx : a.eval x = .slice b m d) (hr : RowIn enc w b zs) (hd : b = none → d = 0) (h1 : ∀ y, (enc y).oneCell' = true)
    (h63 : n + zs.length ≤ maxLen) (hbytes : (n + zs.length) * bytes ≤ 140737488355328) (hbase : base ≤ w.heap.size)
    (h : ∀ v' w', w'.ownsRow base e 1 v' (n + zs.length) (xs ++ zs.map enc) → w.grownBy w' v.ownBlock → wpList P ops Q rest (a.put o.dst v') w') : wpList P ops Q (o :: rest) a w := by
  subst hm
  cases b with
  | none =>
    have h0 := hr.nil_of_none
    subst h0
    rw [hd rfl] at hx
    refine wpList_append_own_none hgd s x t ho base e i 1 ht hi v n xs hs hown hx ?_
    refine h v w ?_ ⟨rfl, rfl, rfl, Nat.le_refl _, fun _ _ _ => rfl⟩
    simpa using hown
  | some ad =>
    refine wpList_append_own w hgd s x t ho base e i z 1 bytes ht hi hz hsize hby hzs (by decide) v n xs hs hown ad zs.length d (zs.map enc) hx (by simp) ?_ ?_ h63 hbytes hbase fun v' w' g1 g2 _ => h v' w' g1 g2
    · intro j u hj
      rw [List.getElem?_map] at hj
      obtain ⟨y, hy, rfl⟩ := Option.map_eq_some_iff.1 hj
      obtain ⟨hj', hy'⟩ := List.getElem?_eq_some_iff.1 hy
      obtain ⟨bb, off, hb, _, hc⟩ := hr.pos hj'
      simp only [Option.some.injEq] at hb
      subst hb
      rw [Addr.add_lit, hc j hj', getElem!_pos zs j hj', hy']
    · intro u hu
      obtain ⟨y, _, rfl⟩ := List.mem_map.1 hu
      exact h1 y

/-- What the call owns is a row. -/
theorem own_row {α : Type} [Inhabited α] {enc : α → Value} {w : World} {base g cap n : Nat} {e : TypeId} {xs : List Value} {zs : List α} (h : w.ownsRow base e 1 (.slice (some ⟨g, 0, none⟩) n cap) n xs) (hx : xs = zs.map enc) (hn : n = zs.length) : RowIn enc w (some ⟨g, 0, none⟩) zs := by
  subst hx; subst hn
  have hg : g < w.heap.size := by
    rcases h.2 with ⟨h2, _⟩ | ⟨g', cap', cur, h2, _, hh, _⟩
    · cases h2
    · simp only [Value.slice.injEq, Option.some.injEq, Addr.mk.injEq, and_true, true_and] at h2
      rw [h2.1]
      exact (Array.getElem?_eq_some_iff.1 hh).1
  refine Or.inr ⟨g, 0, rfl, hg, fun j hj => ?_⟩
  rw [Nat.zero_add, h.cellAt j (by omega), List.getElem?_map, List.getElem?_eq_getElem hj, getElem!_pos zs j hj]
  rfl

/-- What the call owns, as a row. -/
theorem own_val {α : Type} [Inhabited α] {enc : α → Value} {w : World} {base : Nat} {e : TypeId} {v : Value} {zs : List α} (h : w.ownsRow base e 1 v zs.length (zs.map enc)) :
    ∃ a c, v = .slice a zs.length c ∧ RowIn enc w a zs ∧ (a = none → c = 0) ∧ zs.length ≤ c ∧ c ≤ 9223372036854775807 ∧ (∀ x, a = some x → ∃ g, x = ⟨g, 0, none⟩) := by
  rcases h.2 with ⟨h1, h2⟩ | ⟨g, cap, cur, h1, h2, h3, h4, h5, _⟩
  · have := List.eq_nil_of_length_eq_zero h2
    subst this
    exact ⟨none, 0, h1, Or.inl rfl, fun _ => rfl, Nat.le_refl _, by omega, fun x hx => by cases hx⟩
  · exact ⟨some ⟨g, 0, none⟩, cap, h1, own_row (h1 ▸ h) rfl rfl, fun q => (by cases q), h4, by unfold maxLen at h5; omega, fun x hx => ⟨g, by cases hx; rfl⟩⟩
theorem owns_below {w w' : World} {base : Nat} {e : TypeId} {size : Nat} {v : Value} {n : Nat} {xs : List Value} (h : w.ownsRow base e size v n xs) (hb : Below w.heap.size w w') : w'.ownsRow base e size v n xs := by
  obtain ⟨h1, h2⟩ := h
  refine ⟨h1, ?_⟩
  rcases h2 with h2 | ⟨g, cap, cur, hv, hg, hh, r⟩
  · exact Or.inl h2
  · exact Or.inr ⟨g, cap, cur, hv, hg, by rw [hb.block g (Array.getElem?_eq_some_iff.1 hh).1]; exact hh, r⟩
theorem RowIn.drop {α : Type} [Inhabited α] {enc : α → Value} {w : World} {b off : Nat} {zs : List α} (h : RowIn enc w (some ⟨b, off, none⟩) zs) (k : Nat) : RowIn enc w (some ⟨b, off + k, none⟩) (zs.drop k) := by
  rcases h with h | ⟨b', off', h1, h2, h3⟩
  · subst h; exact Or.inl (by simp)
  · simp only [Option.some.injEq, Addr.mk.injEq, and_true] at h1
    obtain ⟨rfl, rfl⟩ := h1
    refine Or.inr ⟨b, off + k, rfl, h2, fun j hj => ?_⟩
    have hj2 : k + j < zs.length := by rw [List.length_drop] at hj; omega
    rw [Nat.add_assoc, h3 (k + j) hj2, getElem!_pos zs (k + j) hj2, getElem!_pos (zs.drop k) j hj, List.getElem_drop]

theorem below_more {B : Nat} {a w : World} (h : Below B a w) (q : Nat) : Below B a (w.drewN q) := ⟨h.os, h.tape, h.output, h.size, h.block⟩

theorem RowIn.take {α : Type} [Inhabited α] {enc : α → Value} {w : World} {a : Option Addr} {zs : List α} (h : RowIn enc w a zs) (k : Nat) : RowIn enc w a (zs.take k) := by
  rcases h with h | ⟨b, off, h1, h2, h3⟩
  · subst h; exact Or.inl (by simp)
  · refine Or.inr ⟨b, off, h1, h2, fun j hj => ?_⟩
    have hj2 : j < zs.length := by rw [List.length_take] at hj; omega
    rw [h3 j hj2, getElem!_pos zs j hj2, getElem!_pos (zs.take k) j hj, List.getElem_take]
end Go.Proofs.YthpamogomfleoaaDoor.Cl
