/- The law ClauseForms as a contract: a normal form is its own normal form, has each number once, and just the numbers of its clause. -/
import Derived.Test.YtiimdehcfkoemaaDoorClM
import Derived.Deep.RegionWith
namespace Go.Proofs.YtiimdehcfkoemaaDoor.Cl
open Go Go.RowKit Go.Lib Go.Sort

theorem nf_nf (zs : List Int) : nf (nf zs) = nf zs := (isNf_nf (nf zs)).unique swo_cf ⟨(isNf_nf zs).1, fun _ => Iff.rfl⟩
theorem mem_nf (x : Int) (zs : List Int) : x ∈ nf zs ↔ x ∈ zs := (isNf_nf zs).2 x
theorem rightB_nf {zs : List Int} (h : rightB zs = true) : rightB (nf zs) = true := by
  unfold rightB at *; rw [List.all_eq_true] at *; exact fun x hx => h x ((mem_nf x zs).1 hx)
theorem normL_yes {zs : List Int} (h : rightB zs = true) : normL zs = nf zs := by simp [normL, h]
theorem normX_yes {zs : List Int} (h : rightB zs = true) : normX zs = oppB (nf zs) := by simp [normX, h]
/-- No number stands twice in a normal form. -/
theorem nf_once {zs : List Int} {k : Nat} (hk : k < (nf zs).length) : inB (nf zs)[k]! ((nf zs).take k) = false := by
  rw [← Bool.not_eq_true, inB_iff]
  intro h
  obtain ⟨j, hj, e⟩ := List.mem_iff_getElem.1 h
  rw [List.length_take] at hj
  rw [List.getElem_take, getElem!_pos _ k hk] at e
  have := List.pairwise_iff_getElem.1 (isNf_nf zs).1 j k (by omega) hk (by omega)
  rw [e, swo_cf.irrefl] at this
  exact absurd this (by simp)

/-- What the two calls of Norm leave. -/
def Twice (w : World) (zs : List Int) (e : Ending) (w' : World) : Prop :=
  ∃ a c, e = .returned (.tuple #[.slice a (nf zs).length c, .bool (oppB (nf zs))]) ∧ RowIn (Value.int .i64) w' a (nf zs) ∧ (nf zs).length ≤ c ∧ Below w.heap.size w w'
theorem Norm_yes (a : Option Addr) (c : Nat) (zs : List Int) (w : World) (hr : RowIn (Value.int .i64) w a zs) (hl : zs.length ≤ 1000) (h : rightB zs = true) :
    Calls Tryd.prog 10 #[.slice a zs.length c] w (Twice w zs) :=
  (Norm_any a c zs w hr hl).mono fun e w' ⟨a', c', h1, h2, h4, h3⟩ => by
    rw [normL_yes h, normX_yes h] at h1; rw [normL_yes h] at h2 h4; exact ⟨a', c', h1, h2, h4, h3⟩

set_option maxHeartbeats 4000000 in
set_option maxRecDepth 100000 in
theorem ClauseForms_yes (a : Option Addr) (c : Nat) (zs : List Int) (w : World) (ht : Tab w) (hr : RowIn (Value.int .i64) w a zs) (h40 : zs.length ≤ 40) (hok : rightB zs = true) :
    Calls Tryd.prog 7 #[.slice a zs.length c] w fun e w' => e = .returned (.bool true) ∧ Below w.heap.size w w' := by
  have HT := Lib.hid ht
  have HR := Lib.hid hr
  have HRR : Hid (∀ w2, Below w.heap.size w w2 → Calls Tryd.prog 14 #[.slice a zs.length c] w2 fun e w' => e = .returned (.bool true) ∧ w2 = w') := fun w2 h => by
    have := RefRight_any a c zs w2 (hr.below h) (by omega); rwa [hok] at this
  have HOK := Lib.hid hok
  have hd : decide ((40 : Int) < (zs.length : Int)) = false := by rw [decide_eq_false_iff_not]; omega
  have HNL : Hid ((nf zs).length ≤ 40) := by have := nf_length zs; show _ ≤ _; omega
  clear ht hr hok
  go_enter Tryd.func7, Tryd.ntmps7
  go_wp2_with fail
  refine (awake_any _ HT.out).mono ?_
  rintro e w1 ⟨rfl, hb1⟩
  go_wp2_with fail
  refine (HRR.out _ hb1).mono ?_
  rintro e w2 ⟨rfl, rfl⟩
  clear HRR
  go_wp2_with fail
  refine (Norm_yes a c zs w1 (HR.out.below hb1) (by omega) HOK.out).mono ?_
  rintro e w3 ⟨a3, c3, rfl, hrow3, hcap3, hb3⟩
  have hB3 := hb1.trans (hb3.mono hb1.size)
  have HR3 := Lib.hid hrow3
  clear hrow3
  go_wp2_with fail
  refine (Norm_yes a3 c3 (nf zs) w3 HR3.out (by have := HNL.out; omega) (rightB_nf HOK.out)).mono ?_
  rintro e w4 ⟨a4, c4, rfl, hrow4, _, hb4⟩
  rw [nf_nf] at hrow4
  rw [nf_nf]
  have hB4 := hB3.trans (hb4.mono hB3.size)
  have HR4 := Lib.hid hrow4
  have HR34 := Lib.hid (HR3.out.below hb4)
  clear hrow4
  go_wp2_with fail
  refine (Ints_any a3 a4 c3 c4 (nf zs) (nf zs) w4 HR34.out HR4.out (by have := HNL.out; omega)).mono ?_
  rintro e w5 ⟨rfl, q5, rfl⟩
  rw [show decide (nf zs = nf zs) = true by simp]
  generalize oppB (nf zs) = x at *
  have hxx : (x != x) = false := by simp
  have hB5 := below_drewN' hB4 q5
  have HR5 := Lib.hid (HR34.out.below (below_drewN' (Below.refl _ _) q5))
  obtain ⟨w5, hw5⟩ : ∃ w5, w5 = w4.drewN q5 := ⟨_, rfl⟩
  rw [← hw5] at hB5 HR5
  rw [← hw5]
  clear HR4 HR34 HR3 hw5 hb4 hB4 hB3 hb3 hb1
  go_wp2_with fail
  have HRC := Lib.hid (HR.out.below hB5)
  go_loop [7] (fun i => ∃ k : Nat, k ≤ zs.length ∧ i = .int .i64 k) (fun i => zs.length - (intOf i).toNat)
  case atStart => exact ⟨0, Nat.zero_le _, rfl⟩
  case round =>
    obtain ⟨k, hk, rfl⟩ := hrel
    by_cases hlt : k < zs.length
    · have hltz : (k : Int) < (zs.length : Int) := by omega
      obtain ⟨b, off, rfl, hb, hc⟩ := HRC.out.pos hlt
      have c1 := hc k hlt
      have hin := In_any zs[k]! a3 c3 (nf zs) w5 HR5.out (by have := HNL.out; omega)
      rw [(inB_iff _ _).2 ((mem_nf _ _).2 (getElem!_mem hlt))] at hin
      clear hc
      generalize zs[k]! = y at *
      go_wp2_with (go_at_call 27; refine hin.mono ?_; rintro e w' ⟨rfl, rfl⟩)
      go_round
      case rel => exact ⟨k + 1, by omega, by go_num⟩
      case measure => simp [intOf]; omega
    · have hltz : ¬ (k : Int) < (zs.length : Int) := by omega
      have HNF : Hid (∀ j, j < (nf zs).length → inB (nf zs)[j]! zs = true ∧ inB (nf zs)[j]! ((nf zs).take j) = false) := fun j hj => ⟨(inB_iff _ _).2 ((mem_nf _ _).1 (getElem!_mem hj)), nf_once hj⟩
      generalize nf zs = R at *
      go_wp2
      go_loopw [8] (fun i wr => ∃ k : Nat, k ≤ R.length ∧ i = .int .i64 k ∧ Below w5.heap.size w5 wr) (fun i _ => R.length - (intOf i).toNat)
      case atStart => exact ⟨0, Nat.zero_le _, rfl, Below.refl _ _⟩
      case round =>
        obtain ⟨j, hj, rfl, hBo⟩ := hrel
        obtain ⟨wo, rfl⟩ : ∃ wo : World, wo = wr := ⟨_, rfl⟩
        by_cases hjlt : j < R.length
        · have hjz : (j : Int) < (R.length : Int) := by omega
          obtain ⟨b, off, rfl, hb, hc⟩ := (HR5.out.below hBo).pos hjlt
          have c1 := hc j hjlt
          have hB := below_drewN' (Below.refl wo.heap.size wo)
          have hrow := HRC.out.below hBo
          have HL := HNL.out
          have h1 : ∀ n, Calls Tryd.prog 27 #[.int .i64 R[j]!, .slice a zs.length c] (wo.drewN n) fun e w' => e = .returned (.bool true) ∧ w' = wo.drewN n := fun n => by
            have := In_any R[j]! a c zs (wo.drewN n) (hrow.below (hB n)) (by omega)
            rw [(HNF.out j hjlt).1] at this
            exact this.mono fun _ _ ⟨e, h⟩ => ⟨e, h.symm⟩
          have h2 : ∀ n cc, Calls Tryd.prog 27 #[.int .i64 R[j]!, .slice (some ⟨b, off, none⟩) j cc] (wo.drewN n) fun e w' => e = .returned (.bool false) ∧ w' = wo.drewN n := fun n cc => by
            have hl : (R.take j).length = j := by rw [List.length_take]; omega
            have hrw : RowIn (Value.int .i64) (wo.drewN n) (some ⟨b, off, none⟩) (R.take j) := Or.inr ⟨b, off, rfl, hb, fun i hi => by
              rw [hl] at hi
              have e : (R.take j)[i]! = R[i]! := by rw [getElem!_pos _ i (by rw [hl]; exact hi), getElem!_pos R i (by omega), List.getElem_take]
              rw [e]
              exact ((hB n).cell (p := ⟨b, off + i, none⟩) hb).trans (hc i (by omega))⟩
            have := In_any R[j]! (some ⟨b, off, none⟩) cc (R.take j) (wo.drewN n) hrw (by omega)
            rw [hl, (HNF.out j hjlt).2] at this
            exact this.mono fun _ _ ⟨e, h⟩ => ⟨e, h.symm⟩
          have hj0 : (0 : Int) ≤ (j : Int) := by omega
          have hjc : (j : Int) ≤ (c3 : Int) := by omega
          clear hc hB hrow
          generalize R[j]! = y at *
          have H1 := Lib.hid h1
          have H2 := Lib.hid h2
          clear h1 h2
          go_wp2
          go_quiet ((first | (go_at_call 27; with_reducible exact Calls.quiet_of_same (H1.out _)) | (go_at_call 27; with_reducible exact Calls.quiet_of_same (H2.out _ _))))
          go_wp2
          go_roundw
          case rel => exact ⟨j + 1, by omega, by go_num, below_drewN' hBo _⟩
          case measure => simp [intOf]; omega
        · have hjz : ¬ (j : Int) < (R.length : Int) := by omega
          go_wp2
          go_ret
          exact ⟨rfl, hB5.trans (hBo.mono hB5.size)⟩
end Go.Proofs.YtiimdehcfkoemaaDoor.Cl
