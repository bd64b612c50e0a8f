/- Contracts of Wide, owned, pair. -/
import Derived.Test.YtnkcdgpaphphaaaBtA
import Derived.Test.YtnkcdgpaphphaaaShelf
namespace Go.Proofs.Ytnkcdgpaphphaaa.Gr
open Go Go.RowKit Go.Lib Go.Maps

theorem wideL_get (es : List Nat) (m k : Nat) (hk : k < m) : (wideL 0 es m).take (k + 1) = (wideL 0 es m).take k ++ [es.getD (min k (es.length - 1)) 0] := by
  have hl := wideL_len 0 es m
  rw [List.take_add_one, List.getElem?_eq_getElem (by omega)]
  simp [wideL]

set_option maxRecDepth 100000 in
set_option maxHeartbeats 1000000 in
theorem Wide_row {w : World} {G : Loc} {L : List Nd} (h : Rep w G L) (a : Option Addr) (es : List Nat) (c : Nat) (n : Int) (hv : Vec w G a es) (hn : es.length ≤ 1000) :
    Calls Try.prog 43 #[.slice a es.length c, .int .i64 n] w fun e w' => ∃ b, e = .returned (.slice (some ⟨b, 0, none⟩) (lim n) (lim n)) ∧ Fil w w' G G L b (lim n) (wideL 0 (vecE es) (lim n)) (List.replicate (lim n) 0) := by
  have HV := Lib.hid (vector_any a es c h.lt hv hn)
  have HR := Lib.hid h
  have HLM := fun W => Lib.hid (limit_any n W)
  have hm1 := lim_pos n
  have hm2 := lim_le n
  have hp := vecE_pos es
  have hp2 := vecE_le es
  obtain ⟨t, ht⟩ : ∃ t, (vecE es).length = t + 1 := ⟨(vecE es).length - 1, by omega⟩
  have HT := Lib.hid ht
  clear h hv hp
  generalize lim n = m at *
  generalize vecE es = fs at *
  generalize es.length = l at *
  have hm := fun W => run_make_row' (P := Try.prog) 31 3 (.int .i64 0) 8 Try.underlying31 infoInt rfl .i64 .i64 m (by omega) (by omega) W
  go_enter Try.func43, Try.ntmps43
  go_wp2_with fail
  refine HV.out.mono ?_
  rintro e w1 ⟨a1, c1, rfl, hb, hv⟩
  have HVV := Lib.hid hv
  have START : Hid (Fil w (w1.alloc (.cells (madeCells #[.int .i64 0] m) 3)) G G L w1.heap.size m [] (List.replicate m 0)) := Fil.made (HR.out.below hb (Nat.le_refl _)) (Fr.ofBelow hb) m
  have HSTART2 : Hid (Below w1.heap.size w1 (w1.alloc (.cells (madeCells #[.int .i64 0] m) 3))) := (Below.refl _ _).alloc (Nat.le_refl _) _
  clear hb hv
  rw [HT.out] at hp2 ⊢
  have ht2 : t < 16 := by omega
  clear ht hp2
  go_wp2_with fail
  refine (HLM w1).out.mono ?_
  rintro e w' ⟨rfl, rfl⟩
  go_wp2_with fail
  go_loopw [6, 14] (fun _ iv wr => ∃ k : Nat, iv = .int .i64 (k : Int) ∧ k ≤ m ∧ Hid (Fil w wr G G L w1.heap.size m ((wideL 0 fs m).take k) (List.replicate m 0) ∧ Below w1.heap.size w1 wr)) (fun _ iv _ => m - (RowKit.intOf iv).toNat)
  case atStart => exact ⟨0, rfl, Nat.zero_le _, START.out, HSTART2.out⟩
  case round =>
    obtain ⟨k, rfl, hk, HH⟩ := hrel
    by_cases hlt : k < m
    · have hlz : (k : Int) < (m : Int) := by omega
      have k0 : (0 : Int) ≤ (k : Int) := by omega
      obtain ⟨r1, r2⟩ := HH.out
      obtain ⟨j, hj⟩ : ∃ j, j = min k t := ⟨_, rfl⟩
      have HW := wideL_get fs m k hlt
      rw [HT.out, Nat.add_sub_cancel, ← hj] at HW
      have hl := wideL_len 0 fs m
      have HP := Lib.hid (And.intro (r1.put (k := k) (by rw [List.length_take]; omega) (by rw [List.length_replicate]; exact hlt) (fs.getD j 0)) (show Below w1.heap.size w1 (wr.setCell ⟨w1.heap.size, k, none⟩ (.int .i64 (fs.getD j 0 : Int))) from r2.setCell (Nat.le_refl _) _))
      rw [← HW] at HP
      have f0 := r1.free k
      have g0 := r1.next (i := k) (by rw [List.length_replicate]; exact hlt) (by rw [List.length_take]; omega)
      obtain ⟨b, off, rfl, q1, q2, q3⟩ := HVV.out.resolve_left (by rw [HT.out]; omega)
      have cc : wr.cell? ⟨b, off + j, none⟩ = some (.int .i64 (fs.getD j 0 : Int)) := (r2.cell (p := ⟨b, off + j, none⟩) q1).trans (q3 j (by rw [HT.out]; omega))
      have j0 : (0 : Int) ≤ (j : Int) := by omega
      have jt : (j : Int) < (t : Int) + 1 := by omega
      generalize (fs.getD j 0 : Int) = x at *
      generalize ((List.replicate m 0).getD k 0 : Int) = y at *
      clear r1 r2 q1 q2 q3 HW hl HH
      have hmin : min (k : Int) (t : Int) = (j : Int) := by omega
      clear hj
      go_wp2_with fail
      go_roundw
      case rel => exact ⟨k + 1, by go_num, by omega, HP⟩
      case measure => simp [RowKit.intOf]; omega
    · obtain rfl : k = m := by omega
      have hlz : ¬ (k : Int) < (k : Int) := by omega
      obtain ⟨r1, r2⟩ := HH.out
      rw [List.take_of_length_le (by rw [wideL_len]; exact Nat.le_refl _)] at r1
      have HF := Lib.hid r1
      clear r1 r2 HH
      go_wp2_with fail
      go_ret
      exact ⟨_, rfl, HF.out⟩
theorem Clone_vec {w : World} {G : Loc} {L : List Nd} (h : Rep w G L) (a : Option Addr) (es : List Nat) (c : Nat) (hv : Vec w G a es) (hp : 0 < es.length) (hn : es.length ≤ 1000) :
    Calls Try.prog 56 #[.slice a es.length c] w fun e w' => ∃ v, e = .returned v ∧ Own w w' G v es ∧ Below w.heap.size w w' := by
  obtain ⟨b, off, rfl, h1, h2, h3⟩ := hv.resolve_left (by omega)
  obtain ⟨i0, hi, hz0, hz1, hz2⟩ := info_parts infoInt
  refine (Try.slices_Clone i0 (.int .i64 0) 1 8 hi hz0 hz1 hz2 rfl (by decide) Try.sizeOf3 b off es.length c (es.map encE) w (by simp) (by unfold maxLen; omega) (by omega) ?_ ?_).mono ?_
  · intro j u hj
    rw [List.getElem?_map] at hj
    have hjl : j < es.length := by
      refine Classical.byContradiction fun q => ?_
      rw [List.getElem?_eq_none (by omega)] at hj; cases hj
    rw [h3 j hjl]
    rw [List.getElem?_eq_getElem hjl] at hj
    simp [encE] at hj
    rw [← hj, List.getD_eq_getElem?_getD, List.getElem?_eq_getElem hjl]
    rfl
  · intro u hu
    obtain ⟨x, _, rfl⟩ := List.mem_map.1 hu
    rfl
  · rintro e w' ⟨v', rfl, hown, _, hB⟩
    refine ⟨v', rfl, ⟨hown, fun k hk q => ?_⟩, hB⟩
    have := h.lt k q
    obtain ⟨b', c', e, hb, _⟩ := hown.form hp
    rw [e] at hk
    simp [Value.ownBlock] at hk
    omega

set_option maxRecDepth 100000 in
set_option maxHeartbeats 1000000 in
theorem owned_any {w : World} {G : Loc} {L : List Nd} (h : Rep w G L) (a : Option Addr) (es : List Nat) (c : Nat) (hv : Vec w G a es) (hn : es.length ≤ 1000) (he : ∀ e ∈ es, e < 2 * (L.length + 1)) (hl : L.length < 150000) :
    Calls Try.prog 61 #[.pointer (some ⟨G.h, 0, none⟩), .slice a es.length c] w fun e w' => ∃ b c' G', e = .returned (.slice (some ⟨b, 0, none⟩) (vecE es).length c') ∧ c' ≤ maxLen ∧ Fil w w' G G' L b c' (vecE es) (vecE es) := by
  have HV := Lib.hid (vector_any a es c h.lt hv hn)
  have HR := Lib.hid h
  have HL := Lib.hid hl
  have hp := vecE_pos es
  have hp2 := vecE_le es
  have HE : Hid (∀ e ∈ vecE es, e < 2 * (L.length + 1)) := vecE_mem he (by omega)
  clear h hv he hl
  generalize vecE es = fs at *
  generalize es.length = l at *
  obtain ⟨n, hn'⟩ : ∃ n, fs.length = n := ⟨_, rfl⟩
  have HN := Lib.hid hn'
  rw [hn'] at hp hp2 ⊢
  clear hn'
  go_enter Try.func61, Try.ntmps61
  go_wp2_with fail
  refine HV.out.mono ?_
  rintro e w1 ⟨a1, c1, rfl, hb, hv⟩
  have hcl := Clone_vec (HR.out.below hb (Nat.le_refl _)) a1 fs c1 hv (by rw [HN.out]; omega) (by rw [HN.out]; omega)
  rw [HN.out] at hcl ⊢
  have HC := Lib.hid hcl
  have HB := Lib.hid hb
  clear hb hv hcl
  go_wp2_with fail
  refine HC.out.mono ?_
  rintro e w2 ⟨v, rfl, ho, hb2⟩
  obtain ⟨b, c2, rfl, q1, q2, _⟩ := ho.form (by rw [HN.out]; omega)
  have START : Hid (∃ G', Fil w w2 G G' L b c2 (fs.take 0) fs) := ⟨G, ho.fil (by rw [HN.out]; omega) ((HR.out.below HB.out (Nat.le_refl _)).below hb2 (Nat.le_refl _)) ((Fr.ofBelow HB.out).trans (Fr.ofBelow hb2)) HB.out.size⟩
  have HQ := Lib.hid q2
  rw [HN.out] at q1 ⊢
  clear ho hb2 q2
  go_wp2_with fail
  go_loopw [6, 7, 13] (fun _ _ iv wr => ∃ k : Nat, iv = .int .i64 (k : Int) ∧ k ≤ n ∧ Hid (∃ G', Fil w wr G G' L b c2 (fs.take k) fs)) (fun _ _ iv _ => n - (RowKit.intOf iv).toNat)
  case atStart => exact ⟨0, rfl, Nat.zero_le _, START⟩
  case round =>
    obtain ⟨k, rfl, hk, HH⟩ := hrel
    by_cases hlt : k < n
    · have hlz : (k : Int) < (n : Int) := by omega
      have k0 : (0 : Int) ≤ (k : Int) := by omega
      obtain ⟨G', r1⟩ := HH.out
      have kf : k < fs.length := by rw [HN.out]; exact hlt
      have g0 := r1.next (i := k) kf (by rw [List.length_take]; omega)
      have hx : fs.getD k 0 < 2 * (L.length + 1) := by
        rw [List.getD_eq_getElem?_getD, List.getElem?_eq_getElem kf]; exact HE.out _ (List.getElem_mem kf)
      have hO := own_bits r1.rep (fs.getD k 0) hx HL.out
      rw [r1.fr.h] at hO
      have HO := Lib.hid hO
      have hT : fs.take (k + 1) = fs.take k ++ [fs.getD k 0] := by rw [List.take_add_one, List.getElem?_eq_getElem kf]; simp [List.getElem?_eq_getElem kf]
      have HP : Hid (∀ w3 e, OpE wr G' (fs.getD k 0, L) e w3 → e = .returned (.int .i64 (fs.getD k 0 : Int)) ∧ w3.frozen? ⟨b, k, none⟩ = false ∧ (∃ y, w3.cell? ⟨b, k, none⟩ = some y) ∧ ∃ G', Fil w (w3.setCell ⟨b, k, none⟩ (.int .i64 (fs.getD k 0 : Int))) G G' L b c2 (fs.take (k + 1)) fs) := by
        rintro w3 e hop
        obtain ⟨he, G2, s0, s1, s2⟩ := hop.thenE
        have r2 := r1.op s1 s2
        exact ⟨he, r2.free k, ⟨_, r2.next (i := k) kf (by rw [List.length_take]; omega)⟩, G2, by rw [hT]; exact r2.put (by rw [List.length_take]; omega) kf _⟩
      clear r1 hO hx hT HH kf
      generalize fs.getD k 0 = x at *
      go_wp2_with fail
      refine HO.out.mono ?_
      intro e w3 hop
      obtain ⟨rfl, f3, ⟨y, c3⟩, hP⟩ := HP.out w3 e hop
      have HP2 := Lib.hid hP
      clear hop hP
      go_wp2_with fail
      go_roundw
      case rel => exact ⟨k + 1, by go_num, by omega, HP2⟩
      case measure => simp [RowKit.intOf]; omega
    · obtain rfl : k = n := by omega
      have hlz : ¬ (k : Int) < (k : Int) := by omega
      obtain ⟨G', r1⟩ := HH.out
      rw [List.take_of_length_le (by rw [HN.out]; exact Nat.le_refl _)] at r1
      have HF := Lib.hid r1
      clear r1 HH
      go_wp2_with fail
      go_ret
      exact ⟨b, c2, rfl, HQ.out, G', HF.out⟩
end Go.Proofs.Ytnkcdgpaphphaaa.Gr
