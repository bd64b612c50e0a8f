/- The laws' own calls: awake, edge, Ints; what a law holds of the graph and of its list of edges. -/
import Derived.Test.YtbggenilngpjcaaGrG
namespace Go.Proofs.Ytbggenilngpjcaa.Gr
open Go Go.RowKit Go.Lib Go.Maps

/-- What a law holds of its graph: it lies in the call's own memory. -/
structure Law (W w : World) (G : Loc) (L : List Nd) : Prop where
  rep : Rep w G L
  wf : Wf L
  below : Below W.heap.size W w
  new : ∀ k, G.has k → W.heap.size ≤ k
theorem Law.op {W w w' : World} {G G' : Loc} {L L' : List Nd} (h : Law W w G L) (hr : Rep w' G' L') (hf : Fr G w w' G') (hw : Wf L') : Law W w' G' L' :=
  ⟨hr, hw, h.below.trans (hf.below h.below.size h.new), hf.from h.below.size h.new⟩
theorem Law.after {W w w' : World} {G : Loc} {L : List Nd} (h : Law W w G L) (hb : Below w.heap.size w w') : Law W w' G L :=
  ⟨h.rep.below hb (Nat.le_refl _), h.wf, h.below.trans (hb.mono h.below.size), h.new⟩

/-- A list of edges that the law makes. -/
def encN (e : Nat) : Value := .int .i64 (e : Int)
def EsS (W w : World) (G : Loc) (v : Value) (es : List Nat) : Prop := w.ownsRow W.heap.size 3 1 v es.length (es.map encN) ∧ ∀ k, v.ownBlock = some k → ¬ G.has k
theorem EsS.op {W w w' : World} {G G' : Loc} {v : Value} {es : List Nat} (h : EsS W w G v es) (hf : Fr G w w' G') : EsS W w' G' v es := by
  refine ⟨owns_of_heap h.1 fun g hg => hf.block g (h.1.lt g hg).2 (h.2 g hg), fun k hk q => ?_⟩
  rcases hf.own k q with q | q
  · exact h.2 k hk q
  · have := (h.1.lt k hk).2; omega
theorem EsS.after {W w w' : World} {G : Loc} {v : Value} {es : List Nat} (h : EsS W w G v es) (hb : Below w.heap.size w w') : EsS W w' G v es :=
  ⟨owns_of_heap h.1 fun g hg => hb.block g (h.1.lt g hg).2, h.2⟩
theorem EsS.arg {W w : World} {G : Loc} {v : Value} {es : List Nat} (h : EsS W w G v es) : ∃ a c, v = .slice a es.length c ∧ es.length ≤ c ∧ c ≤ maxLen ∧ ArgI w a es.length (fun j => (es.getD j 0 : Int)) := by
  obtain ⟨a, c, e, h1, h2, h3, h4⟩ := own_form h.1
  refine ⟨a, c, e, h1, h2, ?_⟩
  have ho := h.1
  rw [e] at ho
  cases a with
  | none => exact Or.inl (h3 rfl).1
  | some ad =>
    obtain ⟨b, off, sp⟩ := ad
    obtain ⟨rfl, rfl⟩ : off = 0 ∧ sp = none := h4 _ rfl
    refine Or.inr ⟨b, 0, rfl, (ho.lt b rfl).2, fun j hj => ?_⟩
    rw [Nat.zero_add]
    refine own_cell ho ?_
    rw [List.getElem?_map, List.getElem?_eq_getElem hj]
    simp [encN, hj]

/-- An edge that was answered, turned if odd. -/
def edgeF (E : Nat → Nat) (m n : Nat) : Nat := if n % 2 = 1 then neg (E (n / 2 % m)) else E (n / 2 % m)
theorem edgeF_lt {E : Nat → Nat} {m n k : Nat} (hm : 0 < m) (h : ∀ j, j < m → E j < 2 * k) : edgeF E m n < 2 * k := by
  have := h (n / 2 % m) (Nat.mod_lt _ hm)
  unfold edgeF; split
  · exact neg_lt this
  · exact this

set_option maxHeartbeats 1000000 in
theorem Ints_eq (w : World) (a b : Option Addr) (n c d : Nat) (Z : Nat → Int) (ha : ArgI w a n Z) (hb : ArgI w b n Z) (hn : n ≤ 1000) :
    Calls Try.prog 27 #[.slice a n c, .slice b n d] w fun e w' => e = .returned (.bool true) ∧ ∃ q, w' = w.drewN q := by
  have HA := Lib.hid (And.intro ha hb)
  have n9 : (n : Int) ≤ 1000 := by omega
  clear ha hb
  go_enter Try.func27, Try.ntmps27
  go_wp2_with fail
  go_loopw [5] (fun iv wr => ∃ k q : Nat, iv = .int .i64 (k : Int) ∧ k ≤ n ∧ wr = w.drewN q) (fun iv _ => n - (intOf iv).toNat)
  case atStart => exact ⟨0, 0, rfl, Nat.zero_le _, rfl⟩
  case round =>
    obtain ⟨k, q, rfl, hk, rfl⟩ := hrel
    by_cases hlt : k < n
    · obtain ⟨b1, o1, rfl, _, c1⟩ := HA.out.1.resolve_left (by omega)
      obtain ⟨b2, o2, rfl, _, c2⟩ := HA.out.2.resolve_left (by omega)
      have d1 : w.cell? ⟨b1, o1 + k, none⟩ = some (.int .i64 (Z k)) := c1 k hlt
      have d2 : w.cell? ⟨b2, o2 + k, none⟩ = some (.int .i64 (Z k)) := c2 k hlt
      have hlz : (k : Int) < (n : Int) := by omega
      have k0 : (0 : Int) ≤ (k : Int) := by omega
      generalize Z k = z at *
      clear c1 c2
      go_wp2_with fail
      go_quiet (fail)
      go_wp2_with fail
      go_roundw
      case rel => exact ⟨k + 1, _, by go_num, by omega, rfl⟩
      case measure => simp [intOf]; omega
    · obtain rfl : k = n := by omega
      have hlz : ¬ (k : Int) < (k : Int) := by omega
      go_wp2_with fail
      go_ret
      exact ⟨rfl, _, rfl⟩

end Go.Proofs.Ytbggenilngpjcaa.Gr
