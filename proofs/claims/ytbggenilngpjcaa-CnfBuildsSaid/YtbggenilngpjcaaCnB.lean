/- Contracts of lacking, assign. -/
import Derived.Test.YtbggenilngpjcaaCnA
import Derived.Test.YtbggenilngpjcaaGrNd
namespace Go.Proofs.Ytbggenilngpjcaa.Cn
open Go Go.RowKit Go.Lib Go.Maps Go.Proofs.Ytbggenilngpjcaa.Gr

theorem ndI_nat {L : List Nd} {n : Nat} (h : n < L.length + 1) : ndI L (n : Int) = nd L n := by unfold ndI; rw [if_pos (by omega)]; simp

set_option maxRecDepth 100000 in
set_option maxHeartbeats 1000000 in
theorem lacking_any {w : World} {G : Gr.Loc} {L : List Nd} {M : MLoc} {S : Mk} (h : Both w G L M S) (n : Nat) (hn : n < L.length + 1) (hl : L.length < 150000) :
    Calls Try.prog 43 #[.pointer (some ⟨M.h, 0, none⟩), .int .i64 (n : Int)] w fun e w' => e = .returned (.int .i64 (lack L S.vs n : Int)) ∧ Below w.heap.size w w' := by
  have HN := Lib.hid (Node_any h.g h.wf (n : Int) (by omega) hl)
  have c0 := h.m.c0
  have hk : Hid (∀ w', Below w.heap.size w w' → MRep w' G.h M S) := fun w' hb => h.m.below hb
  rw [ndI_nat hn] at HN
  cases e : nd L n with
  | none =>
    have HE : Hid (lack L S.vs n = n) := by unfold Hid lack; rw [e]
    rw [e] at HN
    have HN2 : Hid (Calls Try.prog 21 #[.pointer (some ⟨G.h, 0, none⟩), .int .i64 (n : Int)] w fun e w' => e = .returned (.tuple #[.int .i64 0, .int .i64 0, .bool false]) ∧ Below w.heap.size w w') := HN.out
    clear h HN e
    go_enter Try.func43, Try.ntmps43
    go_wp2_with fail
    refine HN2.out.mono ?_
    rintro e w1 ⟨rfl, hb⟩
    have HB := Lib.hid hb
    clear hb
    go_wp2_with fail
    go_ret
    rw [HE.out]
    exact ⟨rfl, HB.out⟩
  | some p =>
    obtain ⟨a, b⟩ := p
    obtain ⟨q1, q2, q3, _, q5, q6⟩ := nd_pair h.wf e
    have HE : Hid (lack L S.vs n = if a / 2 ∉ S.vs then a / 2 else if b / 2 ∉ S.vs then b / 2 else n) := by unfold Hid lack; rw [e]
    rw [e] at HN
    have HN2 : Hid (Calls Try.prog 21 #[.pointer (some ⟨G.h, 0, none⟩), .int .i64 (n : Int)] w fun e w' => e = .returned (.tuple #[.int .i64 (a : Int), .int .i64 (b : Int), .bool true]) ∧ Below w.heap.size w w') := HN.out
    have hda : (a : Int).tdiv 2 = ((a / 2 : Nat) : Int) := by rw [Int.tdiv_eq_ediv_of_nonneg (by omega)]; omega
    have hdb : (b : Int).tdiv 2 = ((b / 2 : Nat) : Int) := by rw [Int.tdiv_eq_ediv_of_nonneg (by omega)]; omega
    have HLK : Hid (∀ w' (k : Nat), Below w.heap.size w w' → k < 1000000 → (Instr.lookup 63 (.map (some M.b)) (.int .i64 (k : Int)) false).run Try.prog w' = .ok (.int .i64 (var S.vs k : Int)) w') := fun w' k hb hk' => (hk.out w' hb).look hk'
    have HC1 : Hid (∀ w', Below w.heap.size w w' → w'.cell? ⟨M.h, 1, none⟩ = some (.map (some M.b))) := fun w' hb => (hk.out w' hb).c1
    have HBD : Hid (a / 2 < 1000000 ∧ b / 2 < 1000000) := ⟨by omega, by omega⟩
    have za := var_zero_iff S.vs (a / 2)
    have zb := var_zero_iff S.vs (b / 2)
    generalize a / 2 = x at *
    generalize b / 2 = y at *
    have a0 : ¬ (a : Int) < 0 := by omega
    have b0 : ¬ (b : Int) < 0 := by omega
    have a9 : (a : Int) ≤ 1000000 := by omega
    have b9 : (b : Int) ≤ 1000000 := by omega
    have x9 : (x : Int) ≤ 1000000 := by have := HBD.out.1; omega
    have y9 : (y : Int) ≤ 1000000 := by have := HBD.out.2; omega
    by_cases hx : x ∈ S.vs
    · have HE1 : Hid (lack L S.vs n = if y ∉ S.vs then y else n) := by rw [Hid, HE.out, if_neg (fun q => q hx)]
      have hvx : ((var S.vs x : Int) == 0) = false := beq_eq_false_iff_ne.2 (fun q => za.1 (by omega) hx)
      by_cases hy : y ∈ S.vs
      · have HE2 : Hid (lack L S.vs n = n) := by rw [Hid, HE1.out, if_neg (fun q => q hy)]
        have hvy : ((var S.vs y : Int) == 0) = false := beq_eq_false_iff_ne.2 (fun q => zb.1 (by omega) hy)
        clear h HN e q1 q2 q3 q5 q6 HE HE1 za zb hx hy hk
        go_enter Try.func43, Try.ntmps43
        go_wp2_with fail
        refine HN2.out.mono ?_
        rintro e w1 ⟨rfl, hb⟩
        have lx := HLK.out w1 x hb HBD.out.1
        have ly := HLK.out w1 y hb HBD.out.2
        have c1 := HC1.out w1 hb
        have HB := Lib.hid hb
        clear hb
        go_wp2_with fail
        go_ret
        rw [HE2.out]
        exact ⟨rfl, HB.out⟩
      · have HE2 : Hid (lack L S.vs n = y) := by rw [Hid, HE1.out, if_pos hy]
        have hvy : ((var S.vs y : Int) == 0) = true := by have := zb.2 hy; simp [this]
        clear h HN e q1 q2 q3 q5 q6 HE HE1 za zb hx hy hk
        go_enter Try.func43, Try.ntmps43
        go_wp2_with fail
        refine HN2.out.mono ?_
        rintro e w1 ⟨rfl, hb⟩
        have lx := HLK.out w1 x hb HBD.out.1
        have ly := HLK.out w1 y hb HBD.out.2
        have c1 := HC1.out w1 hb
        have HB := Lib.hid hb
        clear hb
        go_wp2_with fail
        go_ret
        rw [HE2.out]
        exact ⟨rfl, HB.out⟩
    · have HE2 : Hid (lack L S.vs n = x) := by rw [Hid, HE.out, if_pos hx]
      have hvx : ((var S.vs x : Int) == 0) = true := by have := za.2 hx; simp [this]
      clear h HN e q1 q2 q3 q5 q6 HE za zb hx hk
      go_enter Try.func43, Try.ntmps43
      go_wp2_with fail
      refine HN2.out.mono ?_
      rintro e w1 ⟨rfl, hb⟩
      have lx := HLK.out w1 x hb HBD.out.1
      have c1 := HC1.out w1 hb
      have HB := Lib.hid hb
      clear hb
      go_wp2_with fail
      go_ret
      rw [HE2.out]
      exact ⟨rfl, HB.out⟩
end Go.Proofs.Ytbggenilngpjcaa.Cn
