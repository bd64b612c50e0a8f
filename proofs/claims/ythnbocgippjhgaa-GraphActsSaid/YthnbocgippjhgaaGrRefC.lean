/- The document's own graph: contract of Value. -/
import Derived.Test.YthnbocgippjhgaaGrRefB
namespace Go.Proofs.Ythnbocgippjhgaa.Gr
open Go Go.RowKit Go.Lib Go.Maps

theorem val_odd (m : Nat → Bool) (L : List Nd) {k : Nat} (h : k % 2 = 1) : val m L k = !val m L (k - 1) := by
  have : k = neg (k - 1) := by rw [neg_even (by omega)]; omega
  conv => lhs; rw [this]
  exact val_neg m L (k - 1)

set_option maxRecDepth 100000 in
set_option maxHeartbeats 4000000 in
theorem refValue_n {r : Nat} {lv : Value} {L : List Nd} (hW : Wf L) (hl : L.length < 150000) (ma : Option Addr) (mn mc : Nat) (M : Nat → Bool) (hmn : mn ≤ 1000) : ∀ k, k < 2 * (L.length + 1) → ∀ w, RRep w r lv L → ArgV (fun j => .bool (M j)) w ma mn →
    Calls Try.prog 14 #[.pointer (some ⟨r, 0, none⟩), .slice ma mn mc, .int .i64 (k : Int)] w fun e w' => e = .returned (.bool (val (mdl M mn) L k)) ∧ Below w.heap.size w w' := by
  intro k
  induction k using Nat.strongRecOn with
  | _ k ih =>
    intro hk w h hm
    have HIH := Lib.hid ih
    have HE := Lib.hid (refEdge_any h (k : Int) (by omega))
    rw [own_nat hk] at HE
    have HH := Lib.hid (And.intro h (And.intro hm (And.intro hk hW)))
    have hm2 : (k : Int).tmod 2 = ((k % 2 : Nat) : Int) := by rw [Int.tmod_eq_emod_of_nonneg (by omega)]; omega
    have k0 : (0 : Int) ≤ (k : Int) := by omega
    have k9 : (k : Int) ≤ 1000000 := by omega
    clear ih
    rcases Nat.mod_two_eq_zero_or_one k with hpar | hpar
    · rw [hpar] at hm2
      by_cases hz : k = 0
      · have ez : ((k : Int) == 0) = true := by simp [hz]
        have HV : Hid (val (mdl M mn) L k = false) := by rw [Hid, hz, val_zero]
        clear h hm hk hW hpar hz HIH
        go_enter Try.func14, Try.ntmps14
        go_wp2_with fail
        refine HE.out.mono ?_
        rintro e w' ⟨rfl, rfl⟩
        go_wp2_with fail
        go_ret
        rw [HV.out]
        exact ⟨rfl, Below.refl _ _⟩
      · have ez : ((k : Int) == 0) = false := by simp; omega
        obtain ⟨i, hi⟩ : ∃ i, k = 2 * (i + 1) := ⟨k / 2 - 1, by omega⟩
        obtain ⟨q, hq⟩ : ∃ q, q = k / 2 := ⟨_, rfl⟩
        have hd : (k : Int).tdiv 2 = (q : Int) := by rw [Int.tdiv_eq_ediv_of_nonneg (by omega), hq]; omega
        have hqi : (q : Int) - 1 = (i : Int) := by omega
        have q9 : (q : Int) ≤ 1000000 := by omega
        have q0 : (0 : Int) ≤ (q : Int) := by omega
        have i0 : (0 : Int) ≤ (i : Int) := by omega
        obtain ⟨n, hn⟩ : ∃ n, n = L.length := ⟨_, rfl⟩
        have hin : i < n := by omega
        have iz : (i : Int) < (n : Int) := by omega
        have n9 : (n : Int) ≤ 150000 := by omega
        obtain ⟨d, hd2⟩ : ∃ d, L[i]? = some d := ⟨_, List.getElem?_eq_getElem (by omega)⟩
        obtain ⟨g, c', elv, x0, x1, x2⟩ := h.node hd2
        have c0 := h.c0
        rw [elv, ← hn] at c0
        have HN := Lib.hid (And.intro hn (And.intro hi hd2))
        have gs : g < w.heap.size := by
          have := h.lt g (Or.inr (by rw [elv]; rfl)); exact this
        cases d with
        | none =>
          have y0 : w.cell? ⟨g, i * 3, none⟩ = some (.bool true) := x0
          have y1 : w.cell? ⟨g, i * 3 + 1, none⟩ = some (.int .i64 0) := x1
          have y2 : w.cell? ⟨g, i * 3 + 2, none⟩ = some (.int .i64 0) := x2
          have HV : Hid (val (mdl M mn) L k = mdl M mn (ins (L.take i))) := by
            have := vs_in hd2 (mdl M mn)
            rw [vs_val, ← hi] at this
            exact this
          have hba : Below w.heap.size w (w.alloc (.cells #[.bool true, .int .i64 0, .int .i64 0] 42)) := (Below.refl _ _).alloc (Nat.le_refl _) _
          have HR1 : Hid (RRep (w.alloc (.cells #[.bool true, .int .i64 0, .int .i64 0] 42)) r lv L ∧ ArgV (fun j => .bool (M j)) (w.alloc (.cells #[.bool true, .int .i64 0, .int .i64 0] 42)) ma mn ∧ Below w.heap.size w (w.alloc (.cells #[.bool true, .int .i64 0, .int .i64 0] 42))) := ⟨h.below hba, hm.below hba, hba⟩
          have z0 : (w.alloc (.cells #[.bool true, .int .i64 0, .int .i64 0] 42)).cell? ⟨w.heap.size, 0, none⟩ = some (.bool true) := by simp only [World.cell?, heap_alloc_new]; rfl
          clear h hm hk hW hpar hz HIH hi hq hn hin hd2 elv x0 x1 x2 gs hba
          go_enter Try.func14, Try.ntmps14
          go_wp2_with fail
          refine HE.out.mono ?_
          rintro e w' ⟨rfl, rfl⟩
          go_wp2_with fail
          have c1 := HR1.out.1.c0
          obtain ⟨ad, cc, ef, c2⟩ := HR1.out.1.form
          rw [← HN.out.1] at c2
          generalize w.alloc (.cells #[.bool true, .int .i64 0, .int .i64 0] 42) = W1 at *
          have SW : SameW W1 W1 := rfl
          clear c0 y0 y1 y2 c1
          go_loopw [8, 9] (fun kv iv wr => ∃ j : Nat, iv = .int .i64 (j : Int) ∧ kv = .int .i64 (ins (L.take j) : Int) ∧ j ≤ i ∧ SameW wr W1) (fun _ iv _ => i - (intOf iv).toNat)
          case atStart => exact ⟨0, rfl, by simp [ins], Nat.zero_le _, SW⟩
          case round =>
            obtain ⟨j, rfl, rfl, hj, hsw⟩ := hrel
            unfold SameW at hsw
            obtain rfl := hsw
            by_cases hlt : j < i
            · have jz : (j : Int) < (i : Int) := by omega
              have jn : (j : Int) < (n : Int) := by omega
              have j0 : (0 : Int) ≤ (j : Int) := by omega
              obtain ⟨d, hd3⟩ : ∃ d, L[j]? = some d := ⟨_, List.getElem?_eq_getElem (by have := HN.out.1; omega)⟩
              obtain ⟨g2, c3, e2, u0, _, _⟩ := HR1.out.1.node hd3
              rw [ef] at e2
              simp only [Value.slice.injEq, true_and] at e2
              obtain ⟨rfl, rfl⟩ := e2
              have HT : Hid (ins (L.take (j + 1)) = ins (L.take j) + if d.isNone then 1 else 0) := ins_take hd3
              have il : ins (L.take j) ≤ 150000 := Nat.le_trans List.countP_le_length (by rw [List.length_take]; omega)
              have il9 : (ins (L.take j) : Int) ≤ 150000 := by omega
              cases d with
              | none =>
                have v0 : wr.cell? ⟨g2, j * 3, none⟩ = some (.bool true) := u0
                have HT2 : Hid (ins (L.take (j + 1)) = ins (L.take j) + 1) := HT.out
                clear u0 hd3 HT il
                go_wp2_with fail
                go_roundw
                case rel => exact ⟨j + 1, by go_num, by rw [HT2.out]; go_num, by omega, rfl⟩
                case measure => simp [intOf]; omega
              | some p =>
                have v0 : wr.cell? ⟨g2, j * 3, none⟩ = some (.bool false) := u0
                have HT2 : Hid (ins (L.take (j + 1)) = ins (L.take j)) := HT.out
                clear u0 hd3 HT il
                go_wp2_with fail
                go_roundw
                case rel => exact ⟨j + 1, by go_num, by rw [HT2.out], by omega, rfl⟩
                case measure => simp [intOf]; omega
            · obtain rfl : j = i := by omega
              have jz : ¬ (j : Int) < (j : Int) := by omega
              obtain ⟨t, ht⟩ : ∃ t, t = ins (L.take j) := ⟨_, rfl⟩
              rw [← ht]
              have t0 : (0 : Int) ≤ (t : Int) := by omega
              by_cases htm : t < mn
              · have tz : (t : Int) < (mn : Int) := by omega
                obtain ⟨mb, mo, rfl, _, hmc⟩ := (HR1.out.2.1).resolve_left (by omega)
                have mk : wr.cell? ⟨mb, mo + t, none⟩ = some (.bool (M t)) := hmc t htm
                have HV2 : Hid (val (mdl M mn) L k = M t) := by rw [Hid, HV.out, ← ht]; simp [mdl, htm]
                generalize M t = mv at *
                clear hmc ht htm
                go_wp2_with fail
                go_ret
                rw [HV2.out]
                exact ⟨rfl, HR1.out.2.2⟩
              · have tz : ¬ (t : Int) < (mn : Int) := by omega
                have HV2 : Hid (val (mdl M mn) L k = false) := by rw [Hid, HV.out, ← ht]; simp [mdl, htm]
                clear ht htm
                go_wp2_with fail
                go_ret
                rw [HV2.out]
                exact ⟨rfl, HR1.out.2.2⟩
        | some p =>
          obtain ⟨a, b⟩ := p
          have y0 : w.cell? ⟨g, i * 3, none⟩ = some (.bool false) := x0
          have y1 : w.cell? ⟨g, i * 3 + 1, none⟩ = some (.int .i64 (a : Int)) := x1
          have y2 : w.cell? ⟨g, i * 3 + 2, none⟩ = some (.int .i64 (b : Int)) := x2
          have hab := hW.pair i a b hd2
          have HV : Hid (val (mdl M mn) L k = (val (mdl M mn) L a && val (mdl M mn) L b)) := by
            have := val_lt hW hd2 (mdl M mn)
            rw [← hi] at this
            exact this
          have hba : Below w.heap.size w (w.alloc (.cells #[.bool false, .int .i64 (a : Int), .int .i64 (b : Int)] 42)) := (Below.refl _ _).alloc (Nat.le_refl _) _
          have HA := Lib.hid (HIH.out a (by omega) (by omega) _ (h.below hba) (hm.below hba))
          have HB : Hid (∀ w2, Below w.heap.size w w2 → Calls Try.prog 14 #[.pointer (some ⟨r, 0, none⟩), .slice ma mn mc, .int .i64 (b : Int)] w2 fun e w' => e = .returned (.bool (val (mdl M mn) L b)) ∧ Below w2.heap.size w2 w') := fun w2 h2 => HIH.out b (by omega) (by omega) w2 (h.below h2) (hm.below h2)
          have HBA := Lib.hid hba
          have HX : Hid ((w.alloc (.cells #[.bool false, .int .i64 (a : Int), .int .i64 (b : Int)] 42)).heap[w.heap.size]? = some (.cells #[.bool false, .int .i64 (a : Int), .int .i64 (b : Int)] 42 (0, 0))) := heap_alloc_new w _
          have z0 : (w.alloc (.cells #[.bool false, .int .i64 (a : Int), .int .i64 (b : Int)] 42)).cell? ⟨w.heap.size, 0, none⟩ = some (.bool false) := by simp only [World.cell?, HX.out]; rfl
          have z1 : (w.alloc (.cells #[.bool false, .int .i64 (a : Int), .int .i64 (b : Int)] 42)).cell? ⟨w.heap.size, 1, none⟩ = some (.int .i64 (a : Int)) := by simp only [World.cell?, HX.out]; rfl
          have z2 : (w.alloc (.cells #[.bool false, .int .i64 (a : Int), .int .i64 (b : Int)] 42)).cell? ⟨w.heap.size, 2, none⟩ = some (.int .i64 (b : Int)) := by simp only [World.cell?, HX.out]; rfl
          have HSZ : Hid (w.heap.size < (w.alloc (.cells #[.bool false, .int .i64 (a : Int), .int .i64 (b : Int)] 42)).heap.size) := by rw [Hid]; simp
          clear h hm hk hW hpar hz HIH hi hq hn hin hd2 elv x0 x1 x2 gs hba hab
          go_enter Try.func14, Try.ntmps14
          go_wp2_with fail
          refine HE.out.mono ?_
          rintro e w' ⟨rfl, rfl⟩
          go_wp2_with fail
          refine HA.out.mono ?_
          rintro e w3 ⟨rfl, hb3⟩
          have HB3 : Hid (Below w.heap.size w w3) := HBA.out.trans (hb3.mono (Nat.le_of_lt HSZ.out))
          have z3 : w3.cell? ⟨w.heap.size, 2, none⟩ = some (.int .i64 (b : Int)) := (hb3.cell (p := ⟨w.heap.size, 2, none⟩) HSZ.out).trans z2
          clear hb3
          cases hva : val (mdl M mn) L a with
          | false =>
            have HV2 : Hid (val (mdl M mn) L k = false) := by rw [Hid, HV.out, hva]; rfl
            go_wp2_with fail
            go_ret
            rw [HV2.out]
            exact ⟨rfl, HB3.out⟩
          | true =>
            have HV2 : Hid (val (mdl M mn) L k = val (mdl M mn) L b) := by rw [Hid, HV.out, hva]; rfl
            have HB4 := Lib.hid (HB.out w3 HB3.out)
            go_wp2_with fail
            refine HB4.out.mono ?_
            rintro e w4 ⟨rfl, hb4⟩
            have HB5 : Hid (Below w.heap.size w w4) := HB3.out.trans (hb4.mono HB3.out.size)
            clear hb4
            go_wp2_with fail
            go_ret
            rw [HV2.out]
            exact ⟨rfl, HB5.out⟩
    · rw [hpar] at hm2
      obtain ⟨k', hk'⟩ : ∃ k', k' = k - 1 := ⟨_, rfl⟩
      have hkz : (k : Int) - 1 = (k' : Int) := by omega
      have HV : Hid (val (mdl M mn) L k = !val (mdl M mn) L k') := by rw [Hid, hk']; exact val_odd _ _ hpar
      have HC := Lib.hid (HIH.out k' (by omega) (by omega) w h hm)
      clear h hm hk hW hpar HIH hk'
      go_enter Try.func14, Try.ntmps14
      go_wp2_with fail
      refine HE.out.mono ?_
      rintro e w' ⟨rfl, rfl⟩
      go_wp2_with fail
      refine HC.out.mono ?_
      rintro e w3 ⟨rfl, hb3⟩
      have HB3 := Lib.hid hb3
      clear hb3
      go_wp2_with fail
      go_ret
      rw [HV.out]
      exact ⟨rfl, HB3.out⟩
end Go.Proofs.Ythnbocgippjhgaa.Gr
