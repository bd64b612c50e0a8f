/- Contracts of Const, Inputs. -/
import Derived.Test.YtnkcdgpaphphaaaBtO
import Derived.Test.YtnkcdgpaphphaaaBtC
namespace Go.Proofs.Ytnkcdgpaphphaaa.Gr
open Go Go.RowKit Go.Lib Go.Maps

/-- Nothing is put: what stands there stays. -/
theorem Fil.skip {w0 wr : World} {G0 G : Loc} {L : List Nd} {b c : Nat} {es ys : List Nat} (h : Fil w0 wr G0 G L b c es ys) {k : Nat} (hk : es.length = k) (hky : k < ys.length) : Fil w0 wr G0 G L b c (es ++ [ys.getD k 0]) ys := by
  obtain ⟨f, h1, h2⟩ := h.row
  refine ⟨h.rep, h.fr, ⟨f, h1, fun i hi => ?_⟩, h.new, h.out, h.len⟩
  rw [h2 i hi]
  congr 3
  rw [List.append_assoc, hk, List.length_append, List.length_singleton, hk]
  congr 1
  rw [List.drop_eq_getElem_cons hky, List.getD_eq_getElem?_getD, List.getElem?_eq_getElem hky]
  rfl

/-- The edges of a number. -/
def cstE (n : Int) (m : Nat) : List Nat := (bitsL n m).map Bool.toNat
theorem cstE_len (n : Int) (m : Nat) : (cstE n m).length = m := by simp [cstE, bitsL_len]
theorem cstE_le (n : Int) (m : Nat) : ∀ e ∈ cstE n m, e ≤ 1 := by
  intro e he
  obtain ⟨b, _, rfl⟩ := List.mem_map.1 he
  exact Bool.toNat_le b
theorem cstE_val (n : Int) (m : Nat) (M : Nat → Bool) (L : List Nd) : (cstE n m).map (Gr.val M L) = bitsL n m := by
  unfold cstE
  rw [List.map_map]
  conv => rhs; rw [← List.map_id (bitsL n m)]
  apply List.map_congr_left
  intro b _
  cases b
  · exact val_zero M L
  · exact val_one M L
theorem cstE_take (n : Int) {m k : Nat} (h : k < m) : (cstE n m).take (k + 1) = (cstE n m).take k ++ [(bitI n k).toNat] := by
  rw [take_snoc' (by rw [cstE_len]; exact h)]
  congr 2
  unfold cstE
  rw [List.getD_eq_getElem?_getD, List.getElem?_map, List.getElem?_eq_getElem (by rw [bitsL_len]; exact h)]
  have := bitsL_get (n := n) h
  rw [List.getD_eq_getElem?_getD, List.getElem?_eq_getElem (by rw [bitsL_len]; exact h)] at this
  simp at this
  simp [this]

set_option maxRecDepth 100000 in
set_option maxHeartbeats 1000000 in
theorem Const_any {w : World} {G : Loc} {L : List Nd} (h : Rep w G L) (n v : Int) (hn : -9223372036854775808 ≤ n ∧ n ≤ 9223372036854775807) :
    Calls Try.prog 41 #[.int .i64 n, .int .i64 v] w fun e w' => ∃ b, e = .returned (.slice (some ⟨b, 0, none⟩) (lim v) (lim v)) ∧ Below w.heap.size w w' ∧ Fil w w' G G L b (lim v) (cstE n (lim v)) (List.replicate (lim v) 0) := by
  have HL := fun V => Lib.hid (limit_any v V)
  have HB := fun V => Lib.hid (Bits_any n v V hn)
  have h1 := lim_pos v
  have h2 := lim_le v
  generalize lim v = m at *
  have hm := fun V => run_make_row' (P := Try.prog) 31 3 (.int .i64 0) 8 Try.underlying31 infoInt rfl .i64 .i64 m (by omega) (by omega) V
  have hba : Below w.heap.size w (w.alloc (.cells (madeCells #[.int .i64 0] m) 3)) := (Below.refl _ _).alloc (Nat.le_refl _) _
  have S0 : Hid (Fil w (w.alloc (.cells (madeCells #[.int .i64 0] m) 3)) G G L w.heap.size m [] (List.replicate m 0) ∧ Below w.heap.size w (w.alloc (.cells (madeCells #[.int .i64 0] m) 3))) := ⟨Fil.made h (Fr.refl _ _) m, hba⟩
  clear h hn hba
  go_enter Try.func41, Try.ntmps41
  go_wp2_with fail
  refine (HL _).out.mono ?_
  rintro e w' ⟨rfl, rfl⟩
  go_wp2_with fail
  generalize (w.alloc (.cells (madeCells #[.int .i64 0] m) 3)) = w1 at *
  refine (HB _).out.mono ?_
  rintro e w2 ⟨rfl, hb, hr⟩
  have START : Hid (Fil w w2 G G L w.heap.size m ((cstE n m).take 0) (List.replicate m 0) ∧ Below w.heap.size w w2 ∧ Below w2.heap.size w2 w2 ∧ RowAt w2 w1.heap.size 4 m (fun i => .bool (bitI n i))) := ⟨S0.out.1.below hb, S0.out.2.trans (hb.mono S0.out.2.size), Below.refl _ _, hr⟩
  have HNE : Hid (w1.heap.size ≠ w.heap.size) := by have := S0.out.1.lt; show _ ≠ _; omega
  clear hb hr HB
  go_wp2_with fail
  go_loopw [6, 7, 15] (fun _ _ iv wr => ∃ k : Nat, iv = .int .i64 (k : Int) ∧ k ≤ m ∧ Hid (Fil w wr G G L w.heap.size m ((cstE n m).take k) (List.replicate m 0) ∧ Below w.heap.size w wr ∧ RowAt wr w1.heap.size 4 m (fun i => .bool (bitI n i)))) (fun _ _ iv _ => m - (RowKit.intOf iv).toNat)
  case atStart => exact ⟨0, rfl, Nat.zero_le _, START.out.1, START.out.2.1, START.out.2.2.2⟩
  case round =>
    obtain ⟨k, rfl, hk, HH⟩ := hrel
    by_cases hlt : k < m
    · have hlz : (k : Int) < (m : Int) := by omega
      have k0 : (0 : Int) ≤ (k : Int) := by omega
      have cc : wr.cell? ⟨w1.heap.size, k, none⟩ = some (.bool (bitI n k)) := HH.out.2.2.cell hlt
      have hl1 : ((cstE n m).take k).length = k := by rw [List.length_take, cstE_len]; omega
      have hl2 : k < (List.replicate m 0).length := by rw [List.length_replicate]; exact hlt
      have f0 := HH.out.1.free k
      have c0 := HH.out.1.next (i := k) hl2 (by omega)
      have H1 := Lib.hid (HH.out.1.put (k := k) hl1 hl2 1)
      have H0 := Lib.hid (HH.out.1.skip (k := k) hl1 hl2)
      have HT := Lib.hid (cstE_take n hlt)
      have HB1 : Hid (Below w.heap.size w (wr.setCell ⟨w.heap.size, k, none⟩ (.int .i64 ((1 : Nat) : Int))) ∧ RowAt (wr.setCell ⟨w.heap.size, k, none⟩ (.int .i64 ((1 : Nat) : Int))) w1.heap.size 4 m (fun i => .bool (bitI n i))) := ⟨HH.out.2.1.setCell (Nat.le_refl _) _, HH.out.2.2.other HNE.out _⟩
      have HR := Lib.hid HH.out.2
      have HZ : Hid ((List.replicate m 0).getD k 0 = 0) := by
        show (List.replicate m 0).getD k 0 = 0
        rw [List.getD_eq_getElem?_getD, List.getElem?_replicate]; simp [hlt]
      clear hl1 hl2 HH
      generalize ((List.replicate m 0).getD k 0 : Int) = y at *
      cases hM : bitI n k
      · rw [hM] at cc HT
        have HF : Hid (Fil w wr G G L w.heap.size m ((cstE n m).take (k + 1)) (List.replicate m 0)) := by
          have := H0.out
          rw [HZ.out] at this
          rw [Hid, HT.out]; exact this
        clear hM
        go_wp2_with fail
        go_roundw
        case rel => exact ⟨k + 1, by go_num, by omega, HF.out, HR.out.1, HR.out.2⟩
        case measure => simp [RowKit.intOf]; omega
      · rw [hM] at cc HT
        have HF : Hid (Fil w (wr.setCell ⟨w.heap.size, k, none⟩ (.int .i64 ((1 : Nat) : Int))) G G L w.heap.size m ((cstE n m).take (k + 1)) (List.replicate m 0)) := by
          rw [Hid, HT.out]; exact H1.out
        clear hM
        go_wp2_with fail
        go_roundw
        case rel => exact ⟨k + 1, by go_num, by omega, HF.out, HB1.out.1, HB1.out.2⟩
        case measure => simp [RowKit.intOf]; omega
    · obtain rfl : k = m := by omega
      have hlz : ¬ (k : Int) < (k : Int) := by omega
      have hF := HH.out.1
      rw [List.take_of_length_le (by rw [cstE_len]; exact Nat.le_refl _)] at hF
      have HF := Lib.hid (And.intro HH.out.2.1 hF)
      clear HH hF
      go_wp2_with fail
      go_ret
      exact ⟨_, rfl, HF.out.1, HF.out.2⟩

/-- New inputs behind a graph. -/
def inE (L : List Nd) (k : Nat) : List Nat := (List.range k).map fun i => 2 * (L.length + 1 + i)
theorem inE_len (L : List Nd) (k : Nat) : (inE L k).length = k := by simp [inE]
theorem inE_succ (L : List Nd) (k : Nat) : inE L (k + 1) = inE L k ++ [2 * (L.length + k + 1)] := by
  unfold inE; rw [List.range_succ, List.map_append]; simp; omega
theorem wf_ins {L : List Nd} (h : Wf L) : ∀ k, Wf (L ++ List.replicate k none) := by
  intro k
  induction k with
  | zero => simpa using h
  | succ k ih => rw [List.replicate_succ', ← List.append_assoc]; exact ih.input
theorem inE_lt (L : List Nd) (k : Nat) : ∀ e ∈ inE L k, e < 2 * ((L ++ List.replicate k none).length + 1) := by
  intro e he
  obtain ⟨i, hi, rfl⟩ := List.mem_map.1 he
  have := List.mem_range.1 hi
  rw [List.length_append, List.length_replicate]; omega
theorem ins_app (L : List Nd) (k : Nat) : ins (L ++ List.replicate k none) = ins L + k := by
  unfold ins; rw [List.countP_append, List.countP_replicate]; simp
theorem inE_val (m : Nat → Bool) (L : List Nd) : ∀ k, (inE L k).map (Gr.val m (L ++ List.replicate k none)) = (List.range k).map fun i => m (ins L + i) := by
  intro k
  induction k with
  | zero => rfl
  | succ k ih =>
    rw [inE_succ, List.map_append, List.range_succ, List.map_append, ← ih, List.replicate_succ', ← List.append_assoc]
    congr 1
    · apply List.map_congr_left
      intro e he
      exact val_app m (inE_lt L k e he)
    · simp only [List.map_cons, List.map_nil]
      have := val_in m (L ++ List.replicate k none)
      rw [List.length_append, List.length_replicate] at this
      rw [this, run_ins, ins_app]

/-- A row of new inputs. -/
def InpE (w : World) (G : Loc) (L : List Nd) (m : Nat) (e : Ending) (w' : World) : Prop :=
  ∃ b G', e = .returned (.slice (some ⟨b, 0, none⟩) m m) ∧ Fil w w' G G' (L ++ List.replicate m none) b m (inE L m) (List.replicate m 0)

set_option maxRecDepth 100000 in
set_option maxHeartbeats 1000000 in
theorem Inputs_bits {w : World} {G : Loc} {L : List Nd} (h : Rep w G L) (v : Int) (hl : L.length < 140000) :
    Calls Try.prog 32 #[.pointer (some ⟨G.h, 0, none⟩), .int .i64 v] w (InpE w G L (lim v)) := by
  have HL := fun V => Lib.hid (limit_any v V)
  have h1 := lim_pos v
  have h2 := lim_le v
  generalize lim v = m at *
  have hm := fun V => run_make_row' (P := Try.prog) 31 3 (.int .i64 0) 8 Try.underlying31 infoInt rfl .i64 .i64 m (by omega) (by omega) V
  have START : Hid (∃ G', Fil w (w.alloc (.cells (madeCells #[.int .i64 0] m) 3)) G G' (L ++ List.replicate 0 none) w.heap.size m (inE L 0) (List.replicate m 0)) := ⟨G, by simpa [inE] using Fil.made h (Fr.refl _ _) m⟩
  have HLL := Lib.hid hl
  clear h hl
  go_enter Try.func32, Try.ntmps32
  go_wp2_with fail
  refine (HL _).out.mono ?_
  rintro e w' ⟨rfl, rfl⟩
  go_wp2_with fail
  go_loopw [6, 12] (fun _ iv wr => ∃ k : Nat, iv = .int .i64 (k : Int) ∧ k ≤ m ∧ Hid (∃ G', Fil w wr G G' (L ++ List.replicate k none) w.heap.size m (inE L k) (List.replicate m 0))) (fun _ iv _ => m - (RowKit.intOf iv).toNat)
  case atStart => exact ⟨0, rfl, Nat.zero_le _, START⟩
  case round =>
    obtain ⟨k, rfl, hk, HH⟩ := hrel
    by_cases hlt : k < m
    · have hlz : (k : Int) < (m : Int) := by omega
      have k0 : (0 : Int) ≤ (k : Int) := by omega
      obtain ⟨G1, r1⟩ := HH.out
      have hln : (L ++ List.replicate k none).length = L.length + k := by rw [List.length_append, List.length_replicate]
      have hI := Input_any r1.rep (by rw [hln]; have := HLL.out; omega)
      rw [r1.fr.h, hln] at hI
      have HI := Lib.hid hI
      have R1 := Lib.hid r1
      have HE : Hid (L ++ List.replicate k none ++ [none] = L ++ List.replicate (k + 1) none) := by show _ = _; rw [List.replicate_succ', List.append_assoc]
      clear r1 hI hln HH
      generalize hx : 2 * (L.length + k + 1) = x at *
      have HX := Lib.hid hx
      clear hx
      go_wp2_with fail
      refine HI.out.mono ?_
      rintro e w3 ⟨rfl, G3, g1, g2⟩
      have f3 := R1.out.op g1 g2
      have fz3 := f3.free k
      have hl2 : k < (List.replicate m 0).length := by rw [List.length_replicate]; exact hlt
      have c3 := f3.next (i := k) hl2 (by rw [inE_len]; exact Nat.le_refl _)
      have F4 : Hid (∃ G', Fil w (w3.setCell ⟨w.heap.size, k, none⟩ (.int .i64 (x : Int))) G G' (L ++ List.replicate (k + 1) none) w.heap.size m (inE L (k + 1)) (List.replicate m 0)) := by
        have := f3.put (k := k) (inE_len L k) hl2 x
        rw [HE.out] at this
        exact ⟨G3, by rw [inE_succ, HX.out]; exact this⟩
      generalize ((List.replicate m 0).getD k 0 : Int) = yy at *
      clear f3 g1 g2 R1 HI hl2
      go_wp2_with fail
      go_roundw
      case rel => exact ⟨k + 1, by go_num, by omega, F4⟩
      case measure => simp [RowKit.intOf]; omega
    · obtain rfl : k = m := by omega
      have hlz : ¬ (k : Int) < (k : Int) := by omega
      obtain ⟨G1, r1⟩ := HH.out
      have HF := Lib.hid r1
      clear r1 HH
      go_wp2_with fail
      go_ret
      exact ⟨w.heap.size, G1, rfl, HF.out⟩
end Go.Proofs.Ytnkcdgpaphphaaa.Gr
