/- The laws' own calls: awake, edge, Ints; what a law holds of the graph and of its list of edges. -/
import Derived.Test.YthnbocgippjhgaaGrG
namespace Go.Proofs.Ythnbocgippjhgaa.Gr
open Go Go.RowKit Go.Lib Go.Maps

/-- What a law holds of its graph: it lies in the call's own memory. -/
structure Law (W w : World) (G : Loc) (L : List Nd) : Prop where
  rep : Rep w G L
  wf : Wf L
  below : Below W.heap.size W w
  new : ∀ k, G.has k → W.heap.size ≤ k
theorem Law.op {W w w' : World} {G G' : Loc} {L L' : List Nd} (h : Law W w G L) (hr : Rep w' G' L') (hf : Fr G w w' G') (hw : Wf L') : Law W w' G' L' :=
  ⟨hr, hw, h.below.trans (hf.below h.below.size h.new), hf.from h.below.size h.new⟩
theorem Law.after {W w w' : World} {G : Loc} {L : List Nd} (h : Law W w G L) (hb : Below w.heap.size w w') : Law W w' G L :=
  ⟨h.rep.below hb (Nat.le_refl _), h.wf, h.below.trans (hb.mono h.below.size), h.new⟩

/-- A list of edges that the law makes. -/
def encN (e : Nat) : Value := .int .i64 (e : Int)
def EsS (W w : World) (G : Loc) (v : Value) (es : List Nat) : Prop := w.ownsRow W.heap.size 3 1 v es.length (es.map encN) ∧ ∀ k, v.ownBlock = some k → ¬ G.has k
theorem EsS.op {W w w' : World} {G G' : Loc} {v : Value} {es : List Nat} (h : EsS W w G v es) (hf : Fr G w w' G') : EsS W w' G' v es := by
  refine ⟨owns_of_heap h.1 fun g hg => hf.block g (h.1.lt g hg).2 (h.2 g hg), fun k hk q => ?_⟩
  rcases hf.own k q with q | q
  · exact h.2 k hk q
  · have := (h.1.lt k hk).2; omega
theorem EsS.after {W w w' : World} {G : Loc} {v : Value} {es : List Nat} (h : EsS W w G v es) (hb : Below w.heap.size w w') : EsS W w' G v es :=
  ⟨owns_of_heap h.1 fun g hg => hb.block g (h.1.lt g hg).2, h.2⟩
theorem EsS.arg {W w : World} {G : Loc} {v : Value} {es : List Nat} (h : EsS W w G v es) : ∃ a c, v = .slice a es.length c ∧ es.length ≤ c ∧ c ≤ maxLen ∧ ArgI w a es.length (fun j => (es.getD j 0 : Int)) := by
  obtain ⟨a, c, e, h1, h2, h3, h4⟩ := own_form h.1
  refine ⟨a, c, e, h1, h2, ?_⟩
  have ho := h.1
  rw [e] at ho
  cases a with
  | none => exact Or.inl (h3 rfl).1
  | some ad =>
    obtain ⟨b, off, sp⟩ := ad
    obtain ⟨rfl, rfl⟩ : off = 0 ∧ sp = none := h4 _ rfl
    refine Or.inr ⟨b, 0, rfl, (ho.lt b rfl).2, fun j hj => ?_⟩
    rw [Nat.zero_add]
    refine own_cell ho ?_
    rw [List.getElem?_map, List.getElem?_eq_getElem hj]
    simp [encN, hj]

/-- An edge that was answered, turned if odd. -/
def edgeF (E : Nat → Nat) (m n : Nat) : Nat := if n % 2 = 1 then neg (E (n / 2 % m)) else E (n / 2 % m)
theorem edgeF_lt {E : Nat → Nat} {m n k : Nat} (hm : 0 < m) (h : ∀ j, j < m → E j < 2 * k) : edgeF E m n < 2 * k := by
  have := h (n / 2 % m) (Nat.mod_lt _ hm)
  unfold edgeF; split
  · exact neg_lt this
  · exact this

set_option maxHeartbeats 1000000 in
theorem edge_any (w : World) (a : Option Addr) (m c : Nat) (E : Nat → Nat) (ha : ArgI w a m (fun j => (E j : Int))) (hm : 0 < m) (hm2 : m ≤ 1000) (hE : ∀ j, j < m → E j < 1000000) (k : Nat) (hk : (k : Int) ≤ 9223372036854775807) :
    Calls Try.prog 7 #[.slice a m c, .int .i64 (k : Int)] w fun e w' => e = .returned (.int .i64 (edgeF E m k : Int)) ∧ w = w' := by
  obtain ⟨b, off, rfl, hb, hc⟩ := ha.resolve_left (by omega)
  obtain ⟨q, hq⟩ : ∃ q, q = k / 2 := ⟨_, rfl⟩
  obtain ⟨s, hs⟩ : ∃ s, s = q % m := ⟨_, rfl⟩
  have hsm : s < m := by rw [hs]; exact Nat.mod_lt _ hm
  have hd : (k : Int).tdiv 2 = (q : Int) := by rw [Int.tdiv_eq_ediv_of_nonneg (by omega), hq]; omega
  have hr : (q : Int).tmod (m : Int) = (s : Int) := by rw [Int.tmod_eq_emod_of_nonneg (by omega), hs]; exact (Int.natCast_emod q m).symm
  have hm3 : (k : Int).tmod 2 = ((k % 2 : Nat) : Int) := by rw [Int.tmod_eq_emod_of_nonneg (by omega)]; omega
  have ck : w.cell? ⟨b, off + s, none⟩ = some (.int .i64 (E s : Int)) := hc s hsm
  have HN := Lib.hid (Not_any (E s) w (hE s hsm))
  have q9 : (q : Int) ≤ 9223372036854775807 := by omega
  have q0 : (0 : Int) ≤ (q : Int) := by omega
  have s0 : (0 : Int) ≤ (s : Int) := by omega
  have s1 : (s : Int) < (m : Int) := by omega
  have m0 : ¬ (m : Int) = 0 := by omega
  have m9 : (m : Int) ≤ 1000 := by omega
  have k0 : ¬ (k : Int) < 0 := by omega
  have HE : Hid (edgeF E m k = if k % 2 = 1 then neg (E s) else E s) := by rw [Hid, hs, hq]; rfl
  rcases Nat.mod_two_eq_zero_or_one k with h | h
  · rw [h] at hm3
    have HE2 : Hid (edgeF E m k = E s) := by rw [Hid, HE.out, if_neg (by omega)]
    generalize E s = x at *
    clear hq hs hsm hc hb hE hk h HE hm hm2
    go_enter Try.func7, Try.ntmps7
    go_wp2
    go_ret
    rw [HE2.out]
    exact ⟨rfl, rfl⟩
  · rw [h] at hm3
    have HE2 : Hid (edgeF E m k = neg (E s)) := by rw [Hid, HE.out, if_pos h]
    generalize E s = x at *
    clear hq hs hsm hc hb hE hk h HE hm hm2
    go_enter Try.func7, Try.ntmps7
    go_wp2_with fail
    refine HN.out.mono ?_
    rintro e w' ⟨rfl, rfl⟩
    go_wp2_with fail
    go_ret
    rw [HE2.out]
    exact ⟨rfl, rfl⟩

set_option maxHeartbeats 1000000 in
theorem awake_any (w : World) : Calls Try.prog 5 #[] w fun e w' => e = .returned (.bool true) ∧ Below w.heap.size w w' := by
  have HN := Lib.hid (New_any w)
  go_enter Try.func5, Try.ntmps5
  go_wp2_with fail
  refine HN.out.mono ?_
  rintro e w1 ⟨G, rfl, r1, r2, r3⟩
  have HL : Hid (Law w w1 G []) := ⟨r1, Wf.nil, r2, r3⟩
  have HI := Lib.hid (Input_any r1 (by decide))
  clear r1 r2 r3
  go_wp2_with fail
  refine HI.out.mono ?_
  intro e w2 hop
  obtain ⟨rfl, G2, g2, s1, s2⟩ := hop.thenE
  have HL2 : Hid (Law w w2 G2 [none]) := HL.out.op s1 s2 Wf.nil.input
  have HA : Hid (Calls Try.prog 10 #[.pointer (some ⟨G.h, 0, none⟩), .int .i64 2, .int .i64 1] w2 (OpE w2 G2 (2, [none]))) := by rw [← g2]; exact And_any s1 2 1 (by omega) (by omega) (by decide)
  clear s1 s2 hop
  go_wp2_with fail
  refine HA.out.mono ?_
  intro e w3 hop
  obtain ⟨rfl, G3, g3, s1, s2⟩ := hop.thenE
  have HL3 : Hid (Law w w3 G3 [none]) := HL2.out.op s1 s2 HL2.out.wf
  have HB : Hid (Calls Try.prog 10 #[.pointer (some ⟨G.h, 0, none⟩), .int .i64 2, .int .i64 3] w3 (OpE w3 G3 (0, [none]))) := by rw [← g2, ← g3]; exact And_any s1 2 3 (by omega) (by omega) (by decide)
  have HNT : Hid (Calls Try.prog 22 #[.int .i64 2] w3 fun r w' => r = .returned (.int .i64 3) ∧ w3 = w') := Not_any 2 w3 (by omega)
  clear s1 s2 hop
  go_wp2_with fail
  refine HNT.out.mono ?_
  rintro e w' ⟨rfl, rfl⟩
  go_wp2_with fail
  refine HB.out.mono ?_
  intro e w4 hop
  obtain ⟨rfl, G4, g4, s1, s2⟩ := hop.thenE
  have HL4 : Hid (Law w w4 G4 [none]) := HL3.out.op s1 s2 HL3.out.wf
  have HC : Hid (Calls Try.prog 12 #[.pointer (some ⟨G.h, 0, none⟩)] w4 fun e w' => e = .returned (.int .i64 2) ∧ w4 = w') := by rw [← g2, ← g3, ← g4]; exact Nodes_any s1 2 rfl
  clear s1 s2 hop
  go_wp2_with fail
  refine HC.out.mono ?_
  rintro e w' ⟨rfl, rfl⟩
  go_wp2_with fail
  go_ret
  exact ⟨rfl, HL4.out.below⟩
end Go.Proofs.Ythnbocgippjhgaa.Gr
