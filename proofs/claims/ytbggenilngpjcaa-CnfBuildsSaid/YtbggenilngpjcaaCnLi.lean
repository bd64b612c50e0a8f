/- Clauses in memory as the document's own functions take them. -/
import Derived.Test.YtbggenilngpjcaaCnMem
import Derived.Test.YtbggenilngpjcaaClSeven
namespace Go.Proofs.Ytbggenilngpjcaa.Cn
open Go Go.RowKit Go.Lib Go.Maps Go.Proofs.Ytbggenilngpjcaa.Gr Go.Proofs.Ytbggenilngpjcaa.Cl

def addrOf : Value → Option Addr
  | .slice a _ _ => a
  | _ => none
def rowsOf : List Value → List (List Int) → List Cl.Row
  | v :: rs, c :: cs => ⟨addrOf v, c.length, c⟩ :: rowsOf rs cs
  | _, _ => []
theorem rowsOf_len : ∀ (rs : List Value) (cs : List (List Int)), rs.length = cs.length → (rowsOf rs cs).length = cs.length
  | [], [], _ => rfl
  | v :: rs, c :: cs, h => by simp [rowsOf, rowsOf_len rs cs (by simpa using h)]
  | [], c :: cs, h => by simp at h
  | v :: rs, [], h => by simp at h
theorem rowsOf_zs : ∀ (rs : List Value) (cs : List (List Int)), rs.length = cs.length → (rowsOf rs cs).map Cl.Row.zs = cs
  | [], [], _ => rfl
  | v :: rs, c :: cs, h => by simp [rowsOf, rowsOf_zs rs cs (by simpa using h)]
  | [], c :: cs, h => by simp at h
  | v :: rs, [], h => by simp at h
theorem rowsOf_get : ∀ (rs : List Value) (cs : List (List Int)) (j : Nat) (v : Value) (c : List Int), rs[j]? = some v → cs[j]? = some c → (rowsOf rs cs)[j]? = some ⟨addrOf v, c.length, c⟩
  | [], _, j, v, c, h, _ => by simp at h
  | _ :: _, [], j, v, c, _, h => by simp at h
  | v' :: rs, c' :: cs, 0, v, c, h1, h2 => by simp at h1 h2; subst h1 h2; rfl
  | v' :: rs, c' :: cs, j + 1, v, c, h1, h2 => by
    simp only [List.getElem?_cons_succ] at h1 h2
    rw [rowsOf, List.getElem?_cons_succ]; exact rowsOf_get rs cs j v c h1 h2

/-- They are rows. -/
theorem Cls.rows {w : World} {base : Nat} {v : Value} {n : Nat} {rs : List Value} {cs : List (List Int)} (ho : w.ownsRow base 26 1 v n rs) (h : Cls w rs cs) (hs : ∀ c ∈ cs, c.length ≤ 9223372036854775807) :
    ∃ a k R, v = .slice a n k ∧ n = R.length ∧ Cl.RowsIn w a R ∧ R.map Cl.Row.zs = cs := by
  obtain ⟨a, k, e, _, _, hz, hof⟩ := own_form ho
  have hn : rs.length = n := by have := ho.1; omega
  have hl := rowsOf_len rs cs h.1
  rw [e] at ho
  refine ⟨a, k, rowsOf rs cs, e, by rw [hl, ← h.1, hn], ⟨?_, fun r hr => ?_, fun r hr => ?_⟩, rowsOf_zs rs cs h.1⟩
  · cases a with
    | none =>
      left
      have := (hz rfl).1
      exact List.eq_nil_of_length_eq_zero (by rw [hl, ← h.1, hn, this])
    | some ad =>
      obtain ⟨b, off, sp⟩ := ad
      obtain ⟨rfl, rfl⟩ : off = 0 ∧ sp = none := hof _ rfl
      refine Or.inr ⟨b, 0, rfl, (ho.lt b rfl).2, fun j hj => ?_⟩
      have h1 : j < rs.length := by rw [hl, ← h.1] at hj; exact hj
      have h2 : j < cs.length := by rw [← h.1]; exact h1
      have hv := List.getElem?_eq_getElem h1
      have hc := List.getElem?_eq_getElem h2
      have hg := rowsOf_get rs cs j _ _ hv hc
      have hx : (rowsOf rs cs)[j]! = ⟨addrOf rs[j], cs[j].length, cs[j]⟩ := by
        rw [getElem!_pos (rowsOf rs cs) j hj]
        exact Option.some.inj ((List.getElem?_eq_getElem hj).symm.trans hg)
      obtain ⟨g, e2, _⟩ := h.2 j _ _ hv hc
      rw [Nat.zero_add, hx]
      rw [own_cell ho hv, e2]
      rfl
  · obtain ⟨j, hj⟩ := List.getElem?_of_mem hr
    have hj2 := (List.getElem?_eq_some_iff.1 hj).1
    have h1 : j < rs.length := by rw [hl, ← h.1] at hj2; exact hj2
    have h2 : j < cs.length := by rw [← h.1]; exact h1
    have hv := List.getElem?_eq_getElem h1
    have hc := List.getElem?_eq_getElem h2
    have hg := rowsOf_get rs cs j _ _ hv hc
    rw [hj] at hg
    obtain rfl := Option.some.inj hg
    obtain ⟨g, e2, hb⟩ := h.2 j _ _ hv hc
    rw [e2]
    refine Or.inr ⟨g, 0, rfl, lt_of_block hb, fun i hi => ?_⟩
    rw [Nat.zero_add]
    have hi' : i < (cs[j]).length := hi
    simp only [World.cell?, hb]
    simp [hi']
  · have hm : r.zs ∈ (rowsOf rs cs).map Cl.Row.zs := List.mem_map.2 ⟨r, hr, rfl⟩
    rw [rowsOf_zs rs cs h.1] at hm
    exact hs _ hm

/-- Two lists of the same clauses. -/
theorem Lists_cls {w : World} {base base2 : Nat} {v u : Value} {n m : Nat} {rs qs : List Value} {cs : List (List Int)} (ho : w.ownsRow base 26 1 v n rs) (h : Cls w rs cs) (ho2 : w.ownsRow base2 26 1 u m qs) (h2 : Cls w qs cs) (hs : ∀ c ∈ cs, c.length ≤ 9223372036854775807) (hl : cs.length ≤ 1000000) :
    Calls Try.prog 15 #[v, u] w fun e w' => e = .returned (.bool true) ∧ Below w.heap.size w w' := by
  obtain ⟨a, k, R, rfl, e1, r1, z1⟩ := Cls.rows ho h hs
  obtain ⟨b, j, R2, rfl, e2, r2, z2⟩ := Cls.rows ho2 h2 hs
  subst e1 e2
  refine Lists_same a b k j R R2 w r1 r2 ?_ (z1.trans z2.symm)
  have := congrArg List.length z1
  simp at this; omega
/-- Whether all hold in a model. -/
theorem All_cls {w : World} {base : Nat} {v : Value} {n : Nat} {rs : List Value} {cs : List (List Int)} (ho : w.ownsRow base 26 1 v n rs) (h : Cls w rs cs) (hs : ∀ c ∈ cs, c.length ≤ 9223372036854775807) (ma : Option Addr) (mc : Nat) (mv : List Bool) (hm : Cl.RowIn Value.bool w ma mv) :
    Calls Try.prog 17 #[v, .slice ma mv.length mc] w fun e w' => e = .returned (.bool (allB cs mv)) ∧ w = w' := by
  obtain ⟨a, k, R, rfl, e1, r1, z1⟩ := Cls.rows ho h hs
  subst e1
  have hl := ho.1
  have := RefAll_any a k R ma mc mv w r1 (by obtain ⟨a', k', e', h1, h2, _⟩ := own_form ho; unfold maxLen at h2; omega) hm
  rw [z1] at this
  exact this
end Go.Proofs.Ytbggenilngpjcaa.Cn
