/- clause.Norm, whole. -/
import Derived.Test.YthpamogomfleoaaDoorClF
namespace Go.Proofs.YthpamogomfleoaaDoor.Cl
open Go Go.RowKit Go.Lib Go.Sort

/-- The normal form. -/
def nf (zs : List Int) : List Int := Lib.compact (zs.mergeSort fun x y => !ltOf cf y x)
theorem isNf_nf (zs : List Int) : IsNf (ltOf cf) zs (nf zs) := isNf_sorted swo_cf total_cf zs
theorem nf_nil : nf [] = [] := by unfold nf Lib.compact compactUpTo; simp
theorem nf_length (zs : List Int) : (nf zs).length ≤ zs.length := by
  have := compact_length_le (zs.mergeSort fun x y => !ltOf cf y x)
  unfold nf; simpa using this

/-- What Norm answers: the normal form and whether it is idle; nothing and false of what is not valid. -/
def normL (zs : List Int) : List Int := if rightB zs then nf zs else []
def normX (zs : List Int) : Bool := rightB zs && oppB (nf zs)
def Normed (w : World) (zs : List Int) (e : Ending) (w' : World) : Prop :=
  ∃ a c, e = .returned (.tuple #[.slice a (normL zs).length c, .bool (normX zs)]) ∧ RowIn (Value.int .i64) w' a (normL zs) ∧ (normL zs).length ≤ c ∧ Below w.heap.size w w'

set_option maxHeartbeats 2000000 in
theorem Norm_any (a : Option Addr) (c : Nat) (zs : List Int) (w : World) (hr : RowIn (Value.int .i64) w a zs) (hl : zs.length ≤ 1000) :
    Calls Tryd.prog 40 #[.slice a zs.length c] w (Normed w zs) := by
  have hR := Right_any a c zs w hr (by omega)
  cases h : rightB zs with
  | false =>
    rw [h] at hR
    have HN : Hid (normL zs = [] ∧ normX zs = false) := ⟨by simp [normL, h], by simp [normX, h]⟩
    clear h hr
    go_enter Tryd.func40, Tryd.ntmps40
    go_wp2_with (go_at_call 19; refine hR.mono ?_; rintro e w' ⟨rfl, q, rfl⟩)
    go_ret2
    refine ⟨none, 0, ?_, ?_, by rw [HN.out.1]; exact Nat.zero_le _, below_drewN' (Below.refl _ _) q⟩
    · rw [HN.out.1, HN.out.2]; rfl
    · rw [HN.out.1]; exact RowIn.nil _ _ _
  | true =>
    rw [h] at hR
    have HN : Hid (normL zs = nf zs ∧ normX zs = oppB (nf zs)) := ⟨by simp [normL, h], by simp [normX, h]⟩
    have HZ : Hid (∀ z ∈ nf zs, -100000 ≤ z ∧ z ≤ 100000) := fun z hz => rightB_bd h z (((isNf_nf zs).2 z).1 hz)
    have HL : Hid ((nf zs).length ≤ 1000) := by have := nf_length zs; show _ ≤ _; omega
    have HC : Hid (∀ q, Calls Tryd.prog 58 #[.slice a zs.length c] (w.drewN q) (Cloned (w.drewN q) zs)) := fun q => Clone_any a c zs _ (hr.below (below_drewN' (Below.refl _ _) q)) hl
    clear h hr
    go_enter Tryd.func40, Tryd.ntmps40
    go_wp2_with (go_at_call 19; refine hR.mono ?_; rintro e w' ⟨rfl, q, rfl⟩)
    clear hR
    refine (HC.out _).mono ?_
    rintro e w1 ⟨a1, c1, rfl, hc1, hown, hB1⟩
    clear HC
    have hB1 : Below w.heap.size w w1 := (below_drewN' (Below.refl _ _) q).trans hB1
    rcases hown with rfl | ⟨g, rfl, hg1, hg2, hH⟩
    · have HN' : Hid (normL [] = [] ∧ normX [] = false) := ⟨by simp [normL, nf_nil], by simp [normX, nf_nil, oppB]⟩
      clear HN HZ HL
      go_wp2_with fail
      refine (Tryd.slices_SortFunc_none (α := Int) a1 c1 _ _).mono ?_
      rintro e w2 ⟨rfl, rfl⟩
      go_wp2_with fail
      refine (Tryd.slices_Compact_int_empty a1 c1 _).mono ?_
      rintro e w3 ⟨rfl, rfl⟩
      go_wp2_with fail
      refine (hasOpposites_any a1 c1 [] _ (RowIn.nil _ _ _) (by simp) (by simp)).mono ?_
      rintro e w4 ⟨rfl, q4, rfl⟩
      go_wp2_with fail
      go_ret2
      refine ⟨a1, c1, ?_, ?_, by rw [HN'.out.1]; exact Nat.zero_le _, below_drewN' hB1 q4⟩
      · rw [HN'.out.1, HN'.out.2]; rfl
      · rw [HN'.out.1]; exact RowIn.nil _ _ _
    · have HH := Lib.hid hH
      clear hH
      go_wp2_with fail
      refine (Sort_any g c1 zs _ hg2 hl HH.out).mono ?_
      rintro e w2 ⟨rfl, ys, hyl, hys, hH2, hg3, hB2⟩
      have HB2 := Lib.hid hB2
      have HH2 := Lib.hid hH2
      have HYL := Lib.hid hyl
      have HYS := Lib.hid hys
      clear hB2 hH2 HH hyl hys
      have hsz : w.heap.size ≤ g := by simpa using hg1
      go_wp2_with fail
      have hco : Calls Tryd.prog 63 #[.slice (some ⟨g, 0, none⟩) zs.length c1] w2 fun e w' => ∃ c, e = .returned (.slice (some ⟨g, 0, none⟩) (nf zs).length c) ∧ (nf zs).length ≤ c ∧ RowIn (Value.int .i64) w' (some ⟨g, 0, none⟩) (nf zs) ∧ ∀ B w0, Below B w0 w2 → B ≤ g → Below B w0 w' := by
        have hco := Compact_any g c1 ys w2 hg3 (by rw [HYL.out]; exact hl) (by rw [HYL.out]; exact hc1) HH2.out
        have e : Lib.compact ys = nf zs := by rw [HYS.out]; rfl
        rw [HYL.out] at hco
        unfold Compacted at hco
        rw [e] at hco
        exact hco.mono fun e w' ⟨c, h1, h2, h3, _, h5⟩ => ⟨c, h1, h2, h3, h5⟩
      clear HYL HYS
      refine hco.mono ?_
      rintro e w3 ⟨c3, rfl, hcap3, hrow3, hB3⟩
      have HB3 := Lib.hid hB3
      clear hB3 hco
      go_wp2_with fail
      refine (hasOpposites_any (some ⟨g, 0, none⟩) c3 (nf zs) _ hrow3 (by have := HL.out; omega) HZ.out).mono ?_
      rintro e w4 ⟨rfl, q4, rfl⟩
      go_wp2_with fail
      go_ret2
      refine ⟨some ⟨g, 0, none⟩, c3, ?_, ?_, by rw [HN.out.1]; exact hcap3, ?_⟩
      · rw [HN.out.1, HN.out.2]; rfl
      · rw [HN.out.1]; exact hrow3.below (below_drewN' (Below.refl _ _) q4)
      · exact below_drewN' (HB3.out _ _ (HB2.out _ _ hB1 hsz hB1.size) hsz) q4
end Go.Proofs.YthpamogomfleoaaDoor.Cl
