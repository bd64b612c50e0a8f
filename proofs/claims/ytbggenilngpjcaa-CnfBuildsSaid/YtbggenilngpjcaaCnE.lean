/- Contracts of Lit, New. -/
import Derived.Test.YtbggenilngpjcaaCnD
namespace Go.Proofs.Ytbggenilngpjcaa.Cn
open Go Go.RowKit Go.Lib Go.Maps Go.Proofs.Ytbggenilngpjcaa.Gr

/-- What Lit answers. -/
def LitE (w : World) (G : Gr.Loc) (L : List Nd) (M : MLoc) (S' : Mk) (x : Int) (e : Ending) (w' : World) : Prop :=
  e = .returned (.int .i64 x) ∧ ∃ M', Both w' G L M' S' ∧ MFr M w w' M'

set_option maxRecDepth 100000 in
set_option maxHeartbeats 2000000 in
theorem Lit_own {w : World} {G : Gr.Loc} {L : List Nd} {M : MLoc} {S S' : Mk} (h : Both w G L M S) (e : Nat) (he : e < 2 * (L.length + 1)) (hl : L.length < 150000) (hcs : S.cs.length ≤ 3 * S.vs.length) (hN : Need L (e / 2) S S') :
    Calls Try.prog 11 #[.pointer (some ⟨M.h, 0, none⟩), .int .i64 (e : Int)] w (LitE w G L M S' (lit S'.vs e)) := by
  have HMD := Lib.hid (made_any h.m)
  obtain ⟨N, hNN⟩ : ∃ N, N = L.length + 1 := ⟨_, rfl⟩
  have HND := Lib.hid (Nodes_any h.g N hNN)
  have c0 := h.m.c0
  obtain ⟨q, hq⟩ : ∃ q, q = e / 2 := ⟨_, rfl⟩
  rw [← hq] at hN
  have hd : (e : Int).tdiv 2 = (q : Int) := by rw [Int.tdiv_eq_ediv_of_nonneg (by omega), hq]; omega
  have e0 : ¬ (e : Int) < 0 := by omega
  have e9 : (e : Int) ≤ 1000000 := by omega
  have q9 : (q : Int) ≤ 1000000 := by omega
  have qN : ¬ N ≤ q := by omega
  have qN1 : (q : Int) < (N : Int) := by omega
  have HNEED := Lib.hid (need_any h q (by omega) hl hcs hN)
  have HLIT : Hid (∀ w2 M2, M2.h = M.h → Both w2 G L M2 S' → Calls Try.prog 33 #[.pointer (some ⟨M.h, 0, none⟩), .int .i64 (e : Int)] w2 fun r w' => r = .returned (.int .i64 (lit S'.vs e)) ∧ w2 = w') := fun w2 M2 hh hr => by
    rw [← hh]; exact literal_any hr.m e (by omega) (by have := hr.ok.len; omega)
  clear h hN hcs hl hNN hq he
  go_enter Try.func11, Try.ntmps11
  go_wp2_with fail
  refine HMD.out.mono ?_
  rintro e w' ⟨rfl, rfl⟩
  go_wp2_with fail
  refine HND.out.mono ?_
  rintro e w' ⟨rfl, rfl⟩
  go_wp2_with fail
  refine HNEED.out.mono ?_
  rintro e w2 ⟨rfl, M2, s1, s2⟩
  have HL2 := Lib.hid (HLIT.out w2 M2 s2.h s1)
  have HS := Lib.hid (And.intro s1 s2)
  clear s1 s2
  go_wp2_with fail
  refine HL2.out.mono ?_
  rintro e w' ⟨rfl, rfl⟩
  go_wp2_with fail
  go_ret
  exact ⟨rfl, M2, HS.out.1, HS.out.2⟩

set_option maxRecDepth 100000 in
set_option maxHeartbeats 2000000 in
theorem Lit_out {w : World} {G : Gr.Loc} {L : List Nd} {M : MLoc} {S : Mk} (h : Both w G L M S) (e : Int) (he : e ≤ 9223372036854775807) (ho : e < 0 ∨ 2 * ((L.length : Int) + 1) ≤ e) (hl : L.length < 150000) (hcs : S.cs.length ≤ 3 * S.vs.length) :
    Calls Try.prog 11 #[.pointer (some ⟨M.h, 0, none⟩), .int .i64 e] w (LitE w G L M S (lit S.vs 0)) := by
  have HMD := Lib.hid (made_any h.m)
  obtain ⟨N, hNN⟩ : ∃ N, N = L.length + 1 := ⟨_, rfl⟩
  have HND := Lib.hid (Nodes_any h.g N hNN)
  have c0 := h.m.c0
  have HNEED : Hid (Calls Try.prog 32 #[.pointer (some ⟨M.h, 0, none⟩), .int .i64 0] w (AsgE w G L M S)) := need_any h 0 (by omega) hl hcs (.old h.ok.zero)
  have HLIT : Hid (∀ w2 M2, M2.h = M.h → Both w2 G L M2 S → Calls Try.prog 33 #[.pointer (some ⟨M.h, 0, none⟩), .int .i64 0] w2 fun r w' => r = .returned (.int .i64 (lit S.vs 0)) ∧ w2 = w') := fun w2 M2 hh hr => by
    rw [← hh]; exact literal_any hr.m 0 (by omega) (by have := hr.ok.len; omega)
  by_cases e0 : e < 0
  · clear h hcs hl hNN
    go_enter Try.func11, Try.ntmps11
    go_wp2_with fail
    refine HMD.out.mono ?_
    rintro e w' ⟨rfl, rfl⟩
    go_wp2_with fail
    refine HNEED.out.mono ?_
    rintro e w2 ⟨rfl, M2, s1, s2⟩
    have HL2 := Lib.hid (HLIT.out w2 M2 s2.h s1)
    have HS := Lib.hid (And.intro s1 s2)
    clear s1 s2
    go_wp2_with fail
    refine HL2.out.mono ?_
    rintro e w' ⟨rfl, rfl⟩
    go_wp2_with fail
    go_ret
    exact ⟨rfl, M2, HS.out.1, HS.out.2⟩
  · obtain ⟨k, rfl⟩ : ∃ k : Nat, e = (k : Int) := ⟨e.toNat, by omega⟩
    obtain ⟨q, hq⟩ : ∃ q, q = k / 2 := ⟨_, rfl⟩
    have hd : (k : Int).tdiv 2 = (q : Int) := by rw [Int.tdiv_eq_ediv_of_nonneg (by omega), hq]; omega
    have q9 : (q : Int) ≤ 9223372036854775807 := by omega
    have qN : N ≤ q := by omega
    have qN1 : ¬ (q : Int) < (N : Int) := by omega
    clear h hcs hl hNN hq ho
    go_enter Try.func11, Try.ntmps11
    go_wp2_with fail
    refine HMD.out.mono ?_
    rintro e w' ⟨rfl, rfl⟩
    go_wp2_with fail
    refine HND.out.mono ?_
    rintro e w' ⟨rfl, rfl⟩
    go_wp2_with fail
    refine HNEED.out.mono ?_
    rintro e w2 ⟨rfl, M2, s1, s2⟩
    have HL2 := Lib.hid (HLIT.out w2 M2 s2.h s1)
    have HS := Lib.hid (And.intro s1 s2)
    clear s1 s2
    go_wp2_with fail
    refine HL2.out.mono ?_
    rintro e w' ⟨rfl, rfl⟩
    go_wp2_with fail
    go_ret
    exact ⟨rfl, M2, HS.out.1, HS.out.2⟩

/-- What New answers. -/
def NewME (w : World) (gh : Nat) (e : Ending) (w' : World) : Prop :=
  ∃ M : MLoc, e = .returned (.pointer (some ⟨M.h, 0, none⟩)) ∧ MRep w' gh M ⟨[0], [[-1]]⟩ ∧ Below w.heap.size w w' ∧ ∀ k, M.has k → w.heap.size ≤ k
theorem var_zero0 : var [0] 0 = 1 := rfl

set_option maxHeartbeats 400000 in
theorem NewM_nil (w : World) : Calls Try.prog 9 #[.pointer none] w fun e w' => e = .returned (.pointer none) ∧ w = w' := by
  go_enter Try.func9, Try.ntmps9
  go_wp2
  go_ret
  exact ⟨rfl, rfl⟩

theorem at5 (w : World) (a b c d : Obj) : ((((w.alloc a).alloc b).alloc c).alloc d).heap[w.heap.size + 1 + 1 + 1]? = some d := by
  show ((((w.heap.push a).push b).push c).push d)[w.heap.size + 1 + 1 + 1]? = _
  simp only [Array.getElem?_push, Array.size_push]
  rw [if_pos trivial]

theorem below3 (w : World) (a b c : Obj) : Below w.heap.size w (((w.alloc a).alloc b).alloc c) :=
  (((Below.refl _ _).alloc (Nat.le_refl _) _).alloc (by simp) _).alloc (by simp only [World.size_alloc]; omega) _
set_option maxRecDepth 100000 in
set_option maxHeartbeats 2000000 in
theorem NewM_any (w : World) (gh : Nat) : Calls Try.prog 9 #[.pointer (some ⟨gh, 0, none⟩)] w (NewME w gh) := by
  have hmm := @run_makeMap Try.prog
  have hown := World.ownsMap_made (H := Unit) w Try.prog 3 (plainElem Try.prog 3)
  obtain ⟨w1, hst, ho, ht⟩ := hown.store lawInt Try.underlying63 (by decide) (keyOf_int_mk Try.underlying3 (wfN (n := 0) (by omega))) (plainElem_int Try.underlying3 (wfN (n := 1) (by omega)))
  have hst' : (Instr.mapUpdate 63 (.map (some w.heap.size)) (.int .i64 0) (.int .i64 1)).run Try.prog (w.alloc (.map #[] 0)) = .ok () w1 := hst
  have HG := Lib.hid ht.grown
  have HO := Lib.hid ho
  have HS : Hid (w.heap.size + 1 ≤ w1.heap.size) := by show _ ≤ _; have := ht.grown.size; simpa using this
  clear hst ho ht hown
  go_enter Try.func9, Try.ntmps9
  go_wp2
  go_ret
  obtain ⟨b1, b2, b3⟩ := at3 w1 (.cells #[.int .i64 (-1)] 3) (.cells #[.slice (some ⟨w1.heap.size, 0, none⟩) 1 1] 26) (.cells #[.pointer (some ⟨gh, 0, none⟩), .map (some w.heap.size), .slice (some ⟨w1.heap.size + 1, 0, none⟩) 1 1] 65)
  have hb3 := below3 w1 (.cells #[.int .i64 (-1)] 3) (.cells #[.slice (some ⟨w1.heap.size, 0, none⟩) 1 1] 26) (.cells #[.pointer (some ⟨gh, 0, none⟩), .map (some w.heap.size), .slice (some ⟨w1.heap.size + 1, 0, none⟩) 1 1] 65)
  have hs := HS.out
  have hw1 : Below w.heap.size w w1 := ((Below.refl _ _).alloc (Nat.le_refl _) _).grown HG.out (by simp) (fun k hk => by obtain rfl := Option.some.inj hk; exact Nat.le_refl _)
  refine ⟨⟨w1.heap.size + 1 + 1, w.heap.size, .slice (some ⟨w1.heap.size + 1, 0, none⟩) 1 1, [.slice (some ⟨w1.heap.size, 0, none⟩) 1 1]⟩, rfl, ⟨⟨_, b3, rfl, fun i hi => ?_⟩, ⟨_, map_of_heap HO.out (hb3.block _ (by show w.heap.size < w1.heap.size; omega)), ToldM.put ToldM.nil (by simp)⟩, ownsAt b2 (by decide) rfl, ⟨rfl, fun i v c h1 h2 => ?_⟩, ?_, ?_, ?_, fun v hv => ?_, fun v hv => ?_, fun v hv k hk => ?_⟩, hw1.trans (hb3.mono (by omega)), ?_⟩
  · match i, hi with | 0, _ => rfl | 1, _ => rfl | 2, _ => rfl
  · match i with
    | 0 => simp at h1 h2; subst h1 h2; exact ⟨_, rfl, b1⟩
    | i + 1 => simp at h1
  · show w1.heap.size + 1 + 1 ≠ w.heap.size; omega
  · show some (w1.heap.size + 1) ≠ some (w1.heap.size + 1 + 1); simp
  · show some (w1.heap.size + 1) ≠ some w.heap.size; simp; omega
  · simp at hv; subst hv; show some (w1.heap.size) ≠ some (w1.heap.size + 1 + 1); simp; omega
  · simp at hv; subst hv; show some (w1.heap.size) ≠ some w.heap.size; simp; omega
  · simp at hv; subst hv
    have : w1.heap.size = k := Option.some.inj hk
    show some (w1.heap.size + 1) ≠ some k; simp; omega
  · intro k hk
    rcases hk with rfl | rfl | hk | ⟨v, hv, hk⟩
    · show _ ≤ w1.heap.size + 1 + 1; omega
    · show _ ≤ w.heap.size; omega
    · have : w1.heap.size + 1 = k := Option.some.inj hk
      omega
    · simp at hv; subst hv
      have : w1.heap.size = k := Option.some.inj hk
      omega
end Go.Proofs.Ytbggenilngpjcaa.Cn
