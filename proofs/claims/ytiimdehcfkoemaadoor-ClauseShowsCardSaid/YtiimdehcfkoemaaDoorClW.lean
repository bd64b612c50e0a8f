/- The contract of clause.clauses: the words behind the header as clauses. -/
import Derived.Test.YtiimdehcfkoemaaDoorClV
namespace Go.Proofs.YtiimdehcfkoemaaDoor.Cl
open Go Go.RowKit Go.Lib Go.Sort

theorem info_ints : (Tryd.prog.info? 22).map (fun i => (i.zero, i.size, i.bytes)) = some (some (.slice none 0 0), 1, 24) := by kernel_rfl

/-- The clauses that are done, the one that is open, and whether one is. -/
structure PSt where
  cs : List (List Int)
  c : List Int
  opn : Bool
def pstep (V : Int) (st : Option PSt) (w : List UInt8) : Option PSt :=
  match st, entryV w with
  | some s, some n => if vr n ≤ V then (if n = 0 then some ⟨s.cs ++ [s.c], [], false⟩ else some ⟨s.cs, s.c ++ [n], true⟩) else none
  | _, _ => none
def parsed (V : Int) (L : List (List UInt8)) : Option PSt := L.foldl (pstep V) (some ⟨[], [], false⟩)
def clausesR (V : Int) (L : List (List UInt8)) : Option (List (List Int)) := (parsed V L).bind fun s => if s.opn then none else some s.cs
theorem parsed_snoc (V : Int) (L : List (List UInt8)) (w : List UInt8) : parsed V (L ++ [w]) = pstep V (parsed V L) w := by simp [parsed]
theorem pstep_none (V : Int) (w : List UInt8) : pstep V none w = none := rfl
theorem parsed_dead (V : Int) : ∀ (L : List (List UInt8)), L.foldl (pstep V) none = none
  | [] => rfl
  | w :: L => by rw [List.foldl_cons, pstep_none]; exact parsed_dead V L
/-- Once it has failed it stays so. -/
theorem parsed_fail {V : Int} {L : List (List UInt8)} {k : Nat} (h : parsed V (L.take k) = none) : parsed V L = none := by
  have e : L = L.take k ++ L.drop k := (List.take_append_drop k L).symm
  unfold parsed at *
  rw [e, List.foldl_append, h]; exact parsed_dead V _
theorem entryV_bd {l : List UInt8} {n : Int} (h : entryV l = some n) : -100000 ≤ n ∧ n ≤ 100000 := by
  unfold entryV at h
  split at h
  · split at h
    · rename_i h1; cases h; omega
    · cases h
  · split at h
    · rename_i h1; cases h; omega
    · cases h

/-- A clause that is done: it lies in a block of its own below B. -/
def RowOwn (w : World) (B : Nat) (r : Row) : Prop :=
  r.zs = [] ∨ ∃ g cur, r.a = some ⟨g, 0, none⟩ ∧ g < B ∧ w.heap[g]? = some (.cells cur 3 (0, 0)) ∧ cur.toList.take r.zs.length = r.zs.map (Value.int .i64)
theorem RowOwn.row {w : World} {B : Nat} {r : Row} (h : RowOwn w B r) : RowIn (Value.int .i64) w r.a r.zs := by
  rcases h with h | ⟨g, cur, ha, hg, hh, ht⟩
  · exact Or.inl h
  · refine Or.inr ⟨g, 0, ha, (Array.getElem?_eq_some_iff.1 hh).1, fun j hj => ?_⟩
    rw [Lib.cell_of_heap hh, Nat.zero_add]
    have h1 : (cur.toList.take r.zs.length)[j]? = some (.int .i64 r.zs[j]!) := by rw [ht, List.getElem?_map, getElem!_pos r.zs j hj, List.getElem?_eq_getElem hj]; rfl
    rw [List.getElem?_take_of_lt hj] at h1
    simpa using h1
theorem RowOwn.mono {w : World} {B B' : Nat} {r : Row} (h : RowOwn w B r) (hB : B ≤ B') : RowOwn w B' r := by
  rcases h with h | ⟨g, cur, ha, hg, rest⟩
  · exact Or.inl h
  · exact Or.inr ⟨g, cur, ha, Nat.lt_of_lt_of_le hg hB, rest⟩
/-- It stays where the world grows by new blocks and by a write to another block. -/
theorem RowOwn.kept {w w' : World} {B : Nat} {row : Option Nat} {r : Row} (h : RowOwn w B r) (hg : w.grownBy w' row) (hne : ∀ g cur, g < B → w.heap[g]? = some (.cells cur 3 (0, 0)) → row ≠ some g) : RowOwn w' B r := by
  rcases h with h | ⟨g, cur, ha, hgB, hh, ht⟩
  · exact Or.inl h
  · exact Or.inr ⟨g, cur, ha, hgB, (hg.block g (Array.getElem?_eq_some_iff.1 hh).1 (fun e => hne g cur hgB hh e.symm)).trans hh, ht⟩
theorem RowOwn.below {w w' : World} {B : Nat} {r : Row} (h : RowOwn w B r) (hb : Below w.heap.size w w') : RowOwn w' B r := by
  rcases h with h | ⟨g, cur, ha, hgB, hh, ht⟩
  · exact Or.inl h
  · exact Or.inr ⟨g, cur, ha, hgB, (hb.block g (Array.getElem?_eq_some_iff.1 hh).1).trans hh, ht⟩
/-- The open clause, closed. -/
theorem RowOwn.close {w : World} {B : Nat} {v : Value} {zs : List Int} (h : w.ownsRow B 3 1 v zs.length (zs.map (Value.int .i64))) : ∃ r : Row, v = r.val ∧ r.zs = zs ∧ RowOwn w w.heap.size r := by
  rcases h.2 with ⟨rfl, h0⟩ | ⟨g, cap, cur, rfl, _, hg, _, _, _, ht⟩
  · have : zs = [] := List.eq_nil_of_length_eq_zero h0
    subst this
    exact ⟨⟨none, 0, []⟩, rfl, rfl, Or.inl rfl⟩
  · refine ⟨⟨some ⟨g, 0, none⟩, cap, zs⟩, rfl, rfl, Or.inr ⟨g, cur, rfl, (Array.getElem?_eq_some_iff.1 hg).1, hg, ?_⟩⟩
    rw [Nat.mul_one] at ht; exact ht
/-- Blocks of one kind of element are not blocks of another. -/
theorem block_apart {w : World} {base n size g : Nat} {v : Value} {xs : List Value} {e T : TypeId} {cur : Array Value} (h : w.ownsRow base e size v n xs) (hg : w.heap[g]? = some (.cells cur T (0, 0))) (hne : T ≠ e) : v.ownBlock ≠ some g := by
  rcases h.2 with ⟨rfl, _⟩ | ⟨g', cap, cur', rfl, _, hg', _⟩
  · intro hh; simp [Value.ownBlock] at hh
  · intro hh
    simp [Value.ownBlock] at hh
    subst hh
    rw [hg] at hg'
    have := Option.some.inj hg'
    injection this with _ h2 _
    exact hne h2

theorem own_rows_snoc {w : World} {base : Nat} {v : Value} {O : List Row} {x : Row} (h : w.ownsRow base 22 1 v (O.length + 1) (O.map Row.val ++ [x.val])) : w.ownsRow base 22 1 v (O ++ [x]).length ((O ++ [x]).map Row.val) := by
  rw [List.length_append, List.map_append]; exact h
theorem own_rows {w : World} {base : Nat} {v : Value} {m : List Row} (h : w.ownsRow base 22 1 v m.length (m.map Row.val)) : ∃ a c, v = .slice a m.length c ∧ RowIn Row.val w a m ∧ m.length ≤ c := by
  rcases h.2 with ⟨rfl, h0⟩ | ⟨g, cap, cur, rfl, _, hg, hcap, _, _, ht⟩
  · rw [List.eq_nil_of_length_eq_zero h0]; exact ⟨none, 0, rfl, Or.inl rfl, Nat.le_refl _⟩
  · refine ⟨_, cap, rfl, Or.inr ⟨g, 0, rfl, (Array.getElem?_eq_some_iff.1 hg).1, fun j hj => ?_⟩, hcap⟩
    have := h.cells (g := g) (by simp [Value.ownBlock]) j (m[j]!.val) (by rw [List.getElem?_map, getElem!_pos m j hj, List.getElem?_eq_getElem hj]; rfl)
    rwa [Addr.add_lit] at this

/-- What clauses answers: the clauses, or that there are none. -/
def Claused (V : Int) (L : List (List UInt8)) (w : World) (e : Ending) (w' : World) : Prop :=
  Below w.heap.size w w' ∧ ((clausesR V L = none ∧ ∃ v, e = .returned (.tuple #[v, .bool false])) ∨ ∃ a c rs, clausesR V L = some (rs.map Row.zs) ∧ e = .returned (.tuple #[.slice a rs.length c, .bool true]) ∧ RowsIn w' a rs)
end Go.Proofs.YtiimdehcfkoemaaDoor.Cl
