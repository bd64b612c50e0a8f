/- Contracts of join, And, Input. -/
import Derived.Test.YtbggenilngpjcaaGrB
namespace Go.Proofs.Ytbggenilngpjcaa.Gr
open Go Go.RowKit Go.Lib Go.Maps

/-- What a call that lays something answers. -/
def OpE (w : World) (G : Loc) (r : Nat × List Nd) (e : Ending) (w' : World) : Prop :=
  e = .returned (.int .i64 (r.1 : Int)) ∧ ∃ G', Rep w' G' r.2 ∧ Fr G w w' G'

theorem lookup_at {w : World} {G : Loc} {L M : List Nd} {j : Nat} (h : RepX w G L M j) (a b : Nat) (h1 : a < 1000000) (h2 : b < 1000000) :
    (∀ n, look M (a, b) = some n → (Instr.lookup 71 (.map (some G.b)) (.agg #[.int .i64 (a : Int), .int .i64 (b : Int)]) true).run Try.prog w = .ok (.tuple #[.int .i64 ((2 * (n + 1) : Nat) : Int), .bool true]) w) ∧
    (look M (a, b) = none → ∃ c : Int, (Instr.lookup 71 (.map (some G.b)) (.agg #[.int .i64 (a : Int), .int .i64 (b : Int)]) true).run Try.prog w = .ok (.tuple #[.int .i64 c, .bool false]) w) := by
  obtain ⟨D, m1, _, m2⟩ := h.map
  obtain ⟨v, ps, hrun, hv⟩ := m1.look_ok lawPair Try.underlying71 (zeroInt w) (zd := .lit (.int .i64 0)) (zp := []) (plainElem_int Try.underlying3 (by decide)) (key_pair (p := (a, b)) h1 h2)
  obtain ⟨c, rfl, hc, _⟩ := plainElem_int_inv Try.underlying3 hv
  have hc1 : D.atKey (keyL (a, b)) (.lit (.int .i64 0)) = .lit (.int .i64 c) := congrArg Prod.fst hc
  obtain ⟨q1, q2⟩ := m2 (a, b) h1 h2
  refine ⟨fun n hn => ?_, fun hn => ⟨c, ?_⟩⟩
  · obtain ⟨r1, r2⟩ := q1 n hn
    rw [r1] at hrun
    rw [r2] at hc1
    simp only [DataW.lit.injEq, Lit.int.injEq, true_and] at hc1
    rw [hc1]; exact hrun
  · rw [q2 hn] at hrun; exact hrun

theorem store_at {w : World} {G : Loc} {L M : List Nd} {j : Nat} (h : RepX w G L M j) (a b K : Nat) (h1 : a < 1000000) (h2 : b < 1000000) (hK : K = 2 * (M.length + 1)) (hl : M.length < 1000000) (hn : look M (a, b) = none) :
    ∃ w', (Instr.mapUpdate 71 (.map (some G.b)) (.agg #[.int .i64 (a : Int), .int .i64 (b : Int)]) (.int .i64 (K : Int))).run Try.prog w = .ok () w' ∧ RepX w' G L (M ++ [some (a, b)]) j ∧ Fr G w w' G := by
  obtain ⟨D, m1, m2⟩ := h.map
  obtain ⟨w', hrun, ho, ht⟩ := m1.store lawPair Try.underlying71 (by unfold maxLen; omega) (key_pair (p := (a, b)) h1 h2) (plainElem_int Try.underlying3 (wf_i (x := (K : Int)) (by omega)))
  have := h.putMap (M' := M ++ [some (a, b)]) ho (by simp) ht.grown (by rw [hK]; exact m2.put hn h1 h2)
  exact ⟨w', hrun, this.1, this.2⟩

/-- join, of a pair. -/
def jn (L : List Nd) (p : Nat × Nat) : Nat × List Nd :=
  match look L p with
  | some n => (2 * (n + 1), L)
  | none => (2 * (L.length + 1), L ++ [some p])

set_option maxRecDepth 100000 in
set_option maxHeartbeats 4000000 in
theorem join_any {w : World} {G : Loc} {L : List Nd} (h : Rep w G L) (a b : Nat) (ha : a < 1000000) (hb : b < 1000000) (hl : L.length < 150000) :
    Calls Try.prog 40 #[.pointer (some ⟨G.h, 0, none⟩), .agg #[.int .i64 (a : Int), .int .i64 (b : Int)]] w (OpE w G (jn L (a, b))) := by
  have HR : Hid (Rep (w.alloc (.cells #[.int .i64 (a : Int), .int .i64 (b : Int)] 69)).drew G L) := (h.alloc _).drew
  have HF : Hid (Fr G w (w.alloc (.cells #[.int .i64 (a : Int), .int .i64 (b : Int)] 69)).drew G) := (Fr.alloc _ _ _).trans (Fr.drew _ _)
  have HX : Hid ((w.alloc (.cells #[.int .i64 (a : Int), .int .i64 (b : Int)] 69)).drew.heap[w.heap.size]? = some (.cells #[.int .i64 (a : Int), .int .i64 (b : Int)] 69 (0, 0))) := heap_alloc_new w _
  have HLA := Lib.hid (lookup_at HR.out a b ha hb)
  have c1 := HR.out.c1
  have hx0 : (w.alloc (.cells #[.int .i64 (a : Int), .int .i64 (b : Int)] 69)).drew.cell? ⟨w.heap.size, 0, none⟩ = some (.int .i64 (a : Int)) := by simp only [World.cell?, HX.out]; rfl
  have hx1 : (w.alloc (.cells #[.int .i64 (a : Int), .int .i64 (b : Int)] 69)).drew.cell? ⟨w.heap.size, 1, none⟩ = some (.int .i64 (b : Int)) := by simp only [World.cell?, HX.out]; rfl
  have HXS : Hid (w.heap.size < (w.alloc (.cells #[.int .i64 (a : Int), .int .i64 (b : Int)] 69)).drew.heap.size ∧ ¬ G.has w.heap.size) := ⟨by simp, fun q => Nat.lt_irrefl _ (h.lt _ q)⟩
  cases e : look L (a, b) with
  | some n =>
    have HRUN := HLA.out.1 n e
    have HE : Hid (jn L (a, b) = (2 * (n + 1), L)) := by unfold Hid jn; rw [e]
    obtain ⟨K, hK⟩ : ∃ K, K = 2 * (n + 1) := ⟨_, rfl⟩
    rw [← hK] at HRUN HE
    clear h ha hb hl HLA e hK
    go_enter Try.func40, Try.ntmps40
    go_wp2_with fail
    go_region_law (refine step_lookup (by rfl) _ _ 71 (by rfl) (.map (some G.b)) (.agg #[.int .i64 (a : Int), .int .i64 (b : Int)]) _ (by rfl) (by rfl) HRUN ?_)
    all_goals
      go_wp2_with fail
      go_ret
      rw [HE.out]
      exact ⟨rfl, G, HR.out, HF.out⟩
  | none =>
    obtain ⟨c, HRUN⟩ := HLA.out.2 e
    have HE : Hid (jn L (a, b) = (2 * (L.length + 1), L ++ [some (a, b)])) := by unfold Hid jn; rw [e]
    have HADD := Lib.hid (add_any HR.out (some (a, b)) hl)
    obtain ⟨K, hK⟩ : ∃ K, K = 2 * (L.length + 1) := ⟨_, rfl⟩
    have HKK := Lib.hid hK
    have HB := Lib.hid (And.intro ha (And.intro hb (And.intro hl e)))
    rw [← hK] at HE
    have hne : ((K : Int) == 0) = false := by simp; omega
    clear h ha hb hl HLA e hK
    go_enter Try.func40, Try.ntmps40
    go_wp2_with fail
    go_region_law (refine step_lookup (by rfl) _ _ 71 (by rfl) (.map (some G.b)) (.agg #[.int .i64 (a : Int), .int .i64 (b : Int)]) _ (by rfl) (by rfl) HRUN ?_)
    all_goals
      go_wp2_with fail
      refine HADD.out.mono ?_
      rintro e w2 ⟨rfl, G2, r1, r2, r3, r4⟩
      rw [← HKK.out]
      have c2 := r1.drew.c1
      have y0 : w2.drew.cell? ⟨w.heap.size, 0, none⟩ = some (.int .i64 (a : Int)) := (World.cell?_of_block (r2.block _ HXS.out.1 HXS.out.2)).trans hx0
      have y1 : w2.drew.cell? ⟨w.heap.size, 1, none⟩ = some (.int .i64 (b : Int)) := (World.cell?_of_block (r2.block _ HXS.out.1 HXS.out.2)).trans hx1
      obtain ⟨w3, HRUN3, s1, s2⟩ := store_at r1.drew a b K HB.out.1 HB.out.2.1 HKK.out (by have := HB.out.2.2.1; omega) HB.out.2.2.2
      have HFIN : Hid (OpE w G (jn L (a, b)) (.returned (.int .i64 (K : Int))) w3) := by
        rw [HE.out]
        have s3 : Rep w3 G2 (L ++ [some (a, b)]) := by
          have e : ins (L ++ [some (a, b)]) = ins L := by rw [ins_snoc]; rfl
          show RepX w3 G2 _ _ (ins (L ++ [some (a, b)]))
          rw [e]; exact s1
        exact ⟨rfl, G2, s3, HF.out.trans (r2.trans ((Fr.drew _ _).trans s2))⟩
      rw [r2.h] at c2
      clear r1 r2 r3 r4 s1 s2 hx0 hx1 c1
      go_wp2_with fail
      go_region_law (refine step_mapUpdate (by rfl) _ _ _ 71 (by rfl) (.map (some G2.b)) (.agg #[.int .i64 (a : Int), .int .i64 (b : Int)]) (.int .i64 (K : Int)) (by rfl) (by rfl) (by rfl) HRUN3 ?_)
      all_goals
        go_wp2_with fail
        go_ret
        exact HFIN.out
end Go.Proofs.Ytbggenilngpjcaa.Gr
