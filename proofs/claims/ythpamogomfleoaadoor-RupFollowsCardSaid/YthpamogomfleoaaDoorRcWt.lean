/- Contract of watch. -/
import Derived.Test.YthpamogomfleoaaDoorRcWp
import Derived.Test.YthpamogomfleoaaDoorRcRg
namespace Go.Proofs.YthpamogomfleoaaDoor.Rc
open Go Go.RowKit Go.Lib

set_option maxRecDepth 100000 in
set_option maxHeartbeats 4000000 in
theorem watch_any {w : World} {Y : Lay} {σ : St} {x : Option Int} (h : Mem w Y σ x) (n : Int) (hn : In σ.V n) (hx : some n ≠ x) (p : Nat) (hl : (σ.wat n).length ≤ 100000000) :
    Calls Tryd.prog 76 #[.pointer (some ⟨Y.s, 0, none⟩), .int .i64 n, .int .i64 (p : Int)] w fun e w' => e = .returned (.tuple #[]) ∧ ∃ Y', Mem w' Y' (σ.wat1 n p) x ∧ Nxt (sWl n) w Y w' Y' ∧ Y'.litV = Y.litV := by
  have HM := Lib.hid h
  have HN := Lib.hid hn
  have c8 := h.cell 8 (by omega)
  obtain ⟨wB, e8, r8, p8⟩ := h .wat
  have d := r8.cell (i := ix σ.V n) (ix_lt hn)
  have HzA : Hid (∀ o, ((w.drew.alloc o)).frozen? ⟨wB, ix σ.V n, none⟩ = false) := fun o => by
    have := (RowAt.of_heap r8 (w' := w.drew.alloc o) (Below.heap_alloc w.drew o _ r8.lt)).free (ix σ.V n)
    exact this
  have HO := h .wls n hn hx
  obtain ⟨a1, k1, e1, _, _⟩ := own_form HO
  have ho := HO.1
  have hne : (Y.watV (ix σ.V n)).ownBlock ≠ some wB := fun e => by have := HO.2 _ e; rw [p8] at this; cases this
  have hlt := r8.lt
  have ns2 : (Y.watV (ix σ.V n)).ownBlock ≠ some Y.s := fun e => by have := HO.2 _ e; rw [h.srole] at this; cases this
  have hls := h.slt
  have ab : (ix σ.V n : Int) < 2 * (σ.V : Int) + 1 := by have := ix_lt hn; omega
  have a0 : (0 : Int) ≤ (ix σ.V n : Int) := by omega
  obtain ⟨ii, hi, hz0, hz1, hz2⟩ := info_parts infoInt
  rw [e8] at c8
  rw [e1] at d ho hne ns2
  have E1 := Lib.hid e1
  have E8 := Lib.hid (And.intro e8 p8)
  have HH := Lib.hid ho
  have HP := Lib.hid HO
  have HV : Hid (σ.V ≤ 100000) := h.nle
  have HI : Hid (∀ w', w'.cell? ⟨Y.s, 0, none⟩ = some (.int .i64 (σ.V : Int)) → Calls Tryd.prog 68 #[.pointer (some ⟨Y.s, 0, none⟩), .int .i64 n] w' fun e w'' => e = .returned (.int .i64 (ix σ.V n : Int)) ∧ w' = w'') := fun w' hc => index_cell hc h.nle hn
  have c0 := h.vars
  have FIN : Hid (∀ (g cap : Nat) (w1 : World), w1.ownsRow 0 3 1 (.slice (some ⟨g, 0, none⟩) ((σ.wat n).length + 1) cap) ((σ.wat n).length + 1) ((σ.wat n).map encN ++ [.int .i64 (p : Int)]) → (w.drew.alloc (.cells #[.int .i64 (p : Int)] 3)).grownBy w1 (Value.slice a1 (σ.wat n).length k1).ownBlock → ((Value.slice a1 (σ.wat n).length k1).ownBlock = some g ∨ g = w.heap.size + 1) → g < w1.heap.size →
      Ending.returned (.tuple #[]) = Ending.returned (.tuple #[]) ∧ ∃ Y', Mem (w1.setCell ⟨wB, ix σ.V n, none⟩ (.slice (some ⟨g, 0, none⟩) ((σ.wat n).length + 1) cap)) Y' (σ.wat1 n p) x ∧ Nxt (sWl n) w Y (w1.setCell ⟨wB, ix σ.V n, none⟩ (.slice (some ⟨g, 0, none⟩) ((σ.wat n).length + 1) cap)) Y' ∧ Y'.litV = Y.litV) := by
    intro g cap w1 hown hgrow hat hlt1
    have HW := (HM.out.drew.alloc (.cells #[.int .i64 (p : Int)] 3))
    have G : Gr _ w1 Y.ρ (.wl n) (Y.watV (ix σ.V n)) g := Gr.mk' (HW .wls n hn hx) (by rw [E1.out]; exact hgrow) (by rw [E1.out]; exact hat) (by simp) hlt1
    have R := HW.appWl hn hx E8.out.1 E8.out.2 G hown
    exact ⟨rfl, _, R.1, (Nxt.same (((Frm.refl _ _ _).drew.alloc _))).trans R.2, rfl⟩
  have n1 := World.new_ne w ⟨Y.s, 8, none⟩ c8
  have n2 := World.new_ne w ⟨wB, ix σ.V n, none⟩ d
  have n3 := World.new_ne w ⟨Y.s, 0, none⟩ c0
  clear HO e1 ho e8 p8 r8 h hn hx
  go_enter Tryd.func76, Tryd.ntmps76
  go_wp2_with fail
  refine wp_region_L (S := fun w' => w'.cell? ⟨Y.s, 8, none⟩ = some (.slice (some ⟨wB, 0, none⟩) (2 * σ.V + 1) (2 * σ.V + 1)) ∧ w'.cell? ⟨wB, ix σ.V n, none⟩ = some (.slice a1 (σ.wat n).length k1) ∧ w'.cell? ⟨Y.s, 0, none⟩ = some (.int .i64 (σ.V : Int))) 25 (by kernel_rfl) (⟨c8, d, c0⟩) (fun hSx => ?_)
  refine wpAnyL_take (i := 0) (v := ?vg0_0) rfl (by kernel_rfl) (fun _ _ _ h => h) ?g0_0 rfl hSx ?_
  case g0_0 => (intro w' hSw; (try dsimp only at hSw); go_split_ands; go_simp; try with_reducible rfl)
  clear hSx; intro hSx
  try simp only [Act.put, List.getElem_toArray, List.getElem_cons_zero, List.setIfInBounds_toArray, List.set_cons_zero, List.set_cons_succ]
  refine wpAnyL_take (i := 1) (v := ?vg1_1) rfl (by kernel_rfl) (fun _ _ _ h => h) ?g1_1 rfl hSx ?_
  case g1_1 => (intro w' hSw; (try dsimp only at hSw); go_split_ands; go_simp; try with_reducible rfl)
  clear hSx; intro hSx
  try simp only [Act.put, List.getElem_toArray, List.getElem_cons_succ, List.getElem_cons_zero, List.setIfInBounds_toArray, List.set_cons_zero, List.set_cons_succ]
  refine wpAnyL_take (i := 2) (v := ?vg2_2) rfl (by kernel_rfl) (fun _ _ _ h => h) ?g2_2 rfl hSx ?_
  case g2_2 => (intro w' hSw; (try dsimp only at hSw); go_split_ands; go_simp; try with_reducible rfl)
  clear hSx; intro hSx
  try simp only [Act.put, List.getElem_toArray, List.getElem_cons_succ, List.getElem_cons_zero, List.setIfInBounds_toArray, List.set_cons_zero, List.set_cons_succ]
  refine wpAnyL_take (i := 3) (v := ?vg3_3) rfl (by kernel_rfl) (fun _ _ _ h => h) ?g3_3 rfl hSx ?_
  case g3_3 => (intro w' hSw; (try dsimp only at hSw); go_split_ands; go_simp; try with_reducible rfl)
  clear hSx; intro hSx
  try simp only [Act.put, List.getElem_toArray, List.getElem_cons_succ, List.getElem_cons_zero, List.setIfInBounds_toArray, List.set_cons_zero, List.set_cons_succ]
  refine wpAnyL_take (i := 4) (v := ?vg4_4) rfl (by kernel_rfl) (fun _ _ _ h => h) ?g4_4 rfl hSx ?_
  case g4_4 => (intro w' hSw; (try dsimp only at hSw); go_split_ands; go_simp; try with_reducible rfl)
  clear hSx; intro hSx
  try simp only [Act.put, List.getElem_toArray, List.getElem_cons_succ, List.getElem_cons_zero, List.setIfInBounds_toArray, List.set_cons_zero, List.set_cons_succ]
  refine wpAnyL_take (i := 5) (v := ?vg5_5) rfl (by kernel_rfl) (fun _ _ _ h => h) ?g5_5 rfl hSx ?_
  case g5_5 => (intro w' hSw; (try dsimp only at hSw); go_split_ands; go_simp; try with_reducible rfl)
  clear hSx; intro hSx
  try simp only [Act.put, List.getElem_toArray, List.getElem_cons_succ, List.getElem_cons_zero, List.setIfInBounds_toArray, List.set_cons_zero, List.set_cons_succ]
  refine wpAnyL_take (i := 6) (v := ?vg6_6) rfl (by kernel_rfl) (fun _ _ _ h => h) ?g6_6 rfl hSx ?_
  case g6_6 => (intro w' hSw; (try dsimp only at hSw); go_split_ands; go_simp; try with_reducible rfl)
  clear hSx; intro hSx
  try simp only [Act.put, List.getElem_toArray, List.getElem_cons_succ, List.getElem_cons_zero, List.setIfInBounds_toArray, List.set_cons_zero, List.set_cons_succ]
  refine wpAnyL_take (i := 7) (v := ?vg7_7) rfl (by kernel_rfl) (fun _ _ _ h => h) ?g7_7 rfl hSx ?_
  case g7_7 => (intro w' hSw; (try dsimp only at hSw); go_split_ands; go_simp; try with_reducible rfl)
  clear hSx; intro hSx
  try simp only [Act.put, List.getElem_toArray, List.getElem_cons_succ, List.getElem_cons_zero, List.setIfInBounds_toArray, List.set_cons_zero, List.set_cons_succ]
  refine wpAnyL_take (i := 9) (v := ?vg8_9) rfl (by kernel_rfl) (fun _ _ _ h => h) ?g8_9 rfl hSx ?_
  case g8_9 => (intro w' hSw; (try dsimp only at hSw); go_split_ands; go_simp; try with_reducible rfl)
  clear hSx; intro hSx
  try simp only [Act.put, List.getElem_toArray, List.getElem_cons_succ, List.getElem_cons_zero, List.setIfInBounds_toArray, List.set_cons_zero, List.set_cons_succ]
  refine wpAnyL_take (i := 10) (v := ?vg9_10) rfl (by kernel_rfl) (fun _ _ _ h => h) ?g9_10 rfl hSx ?_
  case g9_10 => (intro w' hSw; (try dsimp only at hSw); go_split_ands; go_simp; try with_reducible rfl)
  clear hSx; intro hSx
  try simp only [Act.put, List.getElem_toArray, List.getElem_cons_succ, List.getElem_cons_zero, List.setIfInBounds_toArray, List.set_cons_zero, List.set_cons_succ]
  refine wpAnyL_take (i := 11) (v := ?vg10_11) rfl (by kernel_rfl) (fun _ _ _ h => h) ?g10_11 rfl hSx ?_
  case g10_11 => (intro w' hSw; (try dsimp only at hSw); go_split_ands; go_simp; try with_reducible rfl)
  clear hSx; intro hSx
  try simp only [Act.put, List.getElem_toArray, List.getElem_cons_succ, List.getElem_cons_zero, List.setIfInBounds_toArray, List.set_cons_zero, List.set_cons_succ]
  refine wpAnyL_take (i := 12) (v := ?vg11_12) rfl (by kernel_rfl) (fun _ _ _ h => h) ?g11_12 rfl hSx ?_
  case g11_12 => (intro w' hSw; (try dsimp only at hSw); go_split_ands; go_simp; try with_reducible rfl)
  clear hSx; intro hSx
  try simp only [Act.put, List.getElem_toArray, List.getElem_cons_succ, List.getElem_cons_zero, List.setIfInBounds_toArray, List.set_cons_zero, List.set_cons_succ]
  refine wpAnyL_take (i := 13) (v := ?vg12_13) rfl (by kernel_rfl) (fun _ _ _ h => h) ?g12_13 rfl hSx ?_
  case g12_13 => (intro w' hSw; (try dsimp only at hSw); go_split_ands; go_simp; try with_reducible rfl)
  clear hSx; intro hSx
  try simp only [Act.put, List.getElem_toArray, List.getElem_cons_succ, List.getElem_cons_zero, List.setIfInBounds_toArray, List.set_cons_zero, List.set_cons_succ]
  refine wpAnyL_take (i := 14) (v := ?vg13_14) rfl (by kernel_rfl) (fun _ _ _ h => h) ?g13_14 rfl hSx ?_
  case g13_14 => (intro w' hSw; (try dsimp only at hSw); go_split_ands; go_simp; try with_reducible rfl)
  clear hSx; intro hSx
  try simp only [Act.put, List.getElem_toArray, List.getElem_cons_succ, List.getElem_cons_zero, List.setIfInBounds_toArray, List.set_cons_zero, List.set_cons_succ]
  refine wpAnyL_take (i := 15) (v := ?vg14_15) rfl (by kernel_rfl) (fun _ _ _ h => h) ?g14_15 rfl hSx ?_
  case g14_15 => (intro w' hSw; (try dsimp only at hSw); go_split_ands; go_simp; try with_reducible rfl)
  clear hSx; intro hSx
  try simp only [Act.put, List.getElem_toArray, List.getElem_cons_succ, List.getElem_cons_zero, List.setIfInBounds_toArray, List.set_cons_zero, List.set_cons_succ]
  refine wpAnyL_take (i := 16) (v := ?vg15_16) rfl (by kernel_rfl) (fun _ _ _ h => h) ?g15_16 rfl hSx ?_
  case g15_16 => (intro w' hSw; (try dsimp only at hSw); go_split_ands; go_simp; try with_reducible rfl)
  clear hSx; intro hSx
  try simp only [Act.put, List.getElem_toArray, List.getElem_cons_succ, List.getElem_cons_zero, List.setIfInBounds_toArray, List.set_cons_zero, List.set_cons_succ]
  refine wpAnyL_take (i := 20) (v := ?vg16_20) rfl (by kernel_rfl) (fun _ _ _ h => h) ?g16_20 rfl hSx ?_
  case g16_20 => (intro w' hSw; (try dsimp only at hSw); go_split_ands; go_simp; try with_reducible rfl)
  clear hSx; intro hSx
  try simp only [Act.put, List.getElem_toArray, List.getElem_cons_succ, List.getElem_cons_zero, List.setIfInBounds_toArray, List.set_cons_zero, List.set_cons_succ]
  (try dsimp only at hSx); go_split_ands
  refine' wpAnyL_two (i := 8) (j := 21) ?tag17_8 ?tbg17_8 ?tb2g17_8 ?tcg17_8 ?tc2g17_8 ?tdg17_8 ?teg17_8
  case tbg17_8 => rfl
  case tb2g17_8 => rfl
  case tag17_8 => kernel_rfl
  case tcg17_8 => rfl
  case tc2g17_8 => rfl
  case tdg17_8 =>
    intro K hK
    go_simp; refine (HI.out _ (by assumption)).mono ?_; rintro e w' ⟨rfl, rfl⟩; (try dsimp only)
    refine hK.out _ _ ?kg17_8td (fun hSx => ?_)
    case kg17_8td => go_keep
    clear hK K
    try simp only [Act.put, List.getElem_toArray, List.getElem_cons_succ, List.getElem_cons_zero, List.setIfInBounds_toArray, List.set_cons_zero, List.set_cons_succ]
    (try dsimp only at hSx); go_split_ands
    refine' wpAnyL_two (i := 17) (j := 21) ?tag18_17 ?tbg18_17 ?tb2g18_17 ?tcg18_17 ?tc2g18_17 ?tdg18_17 ?teg18_17
    case tbg18_17 => rfl
    case tb2g18_17 => rfl
    case tag18_17 => kernel_rfl
    case tcg18_17 => rfl
    case tc2g18_17 => rfl
    case tdg18_17 =>
      intro K hK
      go_simp; refine (HI.out _ (by assumption)).mono ?_; rintro e w' ⟨rfl, rfl⟩; (try dsimp only)
      refine hK.out _ _ ?kg18_17td (fun hSx => ?_)
      case kg18_17td => go_keep
      clear hK K
      try simp only [Act.put, List.getElem_toArray, List.getElem_cons_succ, List.getElem_cons_zero, List.setIfInBounds_toArray, List.set_cons_zero, List.set_cons_succ]
      refine wpAnyL_take (i := 18) (v := ?vg19_18) rfl (by kernel_rfl) (fun _ _ _ h => h) ?g19_18 rfl hSx ?_
      case g19_18 => (intro w' hSw; (try dsimp only at hSw); go_split_ands; go_simp; try with_reducible rfl)
      clear hSx; intro hSx
      try simp only [Act.put, List.getElem_toArray, List.getElem_cons_succ, List.getElem_cons_zero, List.setIfInBounds_toArray, List.set_cons_zero, List.set_cons_succ]
      refine wpAnyL_take (i := 19) (v := ?vg20_19) rfl (by kernel_rfl) (fun _ _ _ h => h) ?g20_19 rfl hSx ?_
      case g20_19 => (intro w' hSw; (try dsimp only at hSw); go_split_ands; go_simp; try with_reducible rfl)
      clear hSx; intro hSx
      try simp only [Act.put, List.getElem_toArray, List.getElem_cons_succ, List.getElem_cons_zero, List.setIfInBounds_toArray, List.set_cons_zero, List.set_cons_succ]
      (try dsimp only at hSx); go_split_ands
      refine' wpAnyL_one (i := 21) ?tag21_21 ?tbg21_21 ?tcg21_21 ?tdg21_21
      case tbg21_21 => rfl
      case tag21_21 => kernel_rfl
      case tcg21_21 => rfl
      intro K hK
      go_simp
      refine hK.out _ _ ?kg21_21 (fun hSx => ?_)
      case kg21_21 => go_keep
      clear hK K
      try simp only [Act.put, List.getElem_toArray, List.getElem_cons_succ, List.getElem_cons_zero, List.setIfInBounds_toArray, List.set_cons_zero, List.set_cons_succ]
      (try dsimp only at hSx); go_split_ands
      refine' wpAnyL_one (i := 22) ?tag22_22 ?tbg22_22 ?tcg22_22 ?tdg22_22
      case tbg22_22 => rfl
      case tag22_22 => kernel_rfl
      case tcg22_22 => rfl
      intro K hK
      refine wp_append_lies _ _ _ 23 rfl 0 3 ii _ 1 8 Tryd.underlying23 hi hz0 hz1 hz2 rfl (by decide) _ _ _ (by rfl) (HH.out.drew.alloc _) ⟨w.heap.size, 0, none⟩ 1 1 [.int .i64 (p : Int)] (by rfl) (by rfl) (World.news_of_block (cs := #[.int .i64 (p : Int)]) (t := 3) (fr := (0, 0)) (heap_alloc_new w _)) (by simp [Value.oneCell']) (by decide) (by unfold maxLen; omega) (by omega) (Nat.zero_le _) (w.heap.size + 1) (by simp) ?_; intro g cap w1 hown hgrow hat hlt1; have fz1 := (hgrow.frozen_far ⟨wB, ix σ.V n, none⟩ (by simp; omega) (Ne.symm hne)).trans (HzA.out _)
      refine hK.out _ _ ⟨hgrow.cell (by assumption) (Ne.symm ns2), hgrow.cell (by assumption) (Ne.symm hne), hgrow.cell (by assumption) (Ne.symm ns2)⟩ (fun hSx => ?_)
      clear hK K
      try simp only [Act.put, List.getElem_toArray, List.getElem_cons_succ, List.getElem_cons_zero, List.setIfInBounds_toArray, List.set_cons_zero, List.set_cons_succ]
      refine wpAnyL_take (i := 23) (v := ?vg23_23) rfl (by kernel_rfl) (fun _ _ _ h => h) ?g23_23 rfl hSx ?_
      case g23_23 => (intro w' hSw; (try dsimp only at hSw); go_split_ands; go_simp; try with_reducible rfl)
      clear hSx; intro hSx
      try simp only [Act.put, List.getElem_toArray, List.getElem_cons_succ, List.getElem_cons_zero, List.setIfInBounds_toArray, List.set_cons_zero, List.set_cons_succ]
      (try dsimp only at hSx); go_split_ands
      refine' wpAnyL_last (i := 24) ?tag24_24 ?tbg24_24 ?tcg24_24 ?tdg24_24
      case tbg24_24 => rfl
      case tag24_24 => kernel_rfl
      case tcg24_24 => rfl
      intro K hK
      go_simp
      refine hK.out _ _ ?_
      clear hK K
      go_wp2_with fail
      go_end0
      exact ⟨rfl, (FIN.out _ _ _ hown hgrow hat hlt1).2⟩
    case teg18_17 =>
      intro K hK
      go_simp
      refine hK.out _ _ ?kg18_17te (fun hSx => ?_)
      case kg18_17te => go_keep
      clear hK K
      try simp only [Act.put, List.getElem_toArray, List.getElem_cons_succ, List.getElem_cons_zero, List.setIfInBounds_toArray, List.set_cons_zero, List.set_cons_succ]
      (try dsimp only at hSx); go_split_ands
      refine' wpAnyL_one (i := 17) ?tag25_17 ?tbg25_17 ?tcg25_17 ?tdg25_17
      case tbg25_17 => rfl
      case tag25_17 => kernel_rfl
      case tcg25_17 => rfl
      intro K hK
      go_simp; refine (HI.out _ (by assumption)).mono ?_; rintro e w' ⟨rfl, rfl⟩; (try dsimp only)
      refine hK.out _ _ ?kg25_17 (fun hSx => ?_)
      case kg25_17 => go_keep
      clear hK K
      try simp only [Act.put, List.getElem_toArray, List.getElem_cons_succ, List.getElem_cons_zero, List.setIfInBounds_toArray, List.set_cons_zero, List.set_cons_succ]
      refine wpAnyL_take (i := 18) (v := ?vg26_18) rfl (by kernel_rfl) (fun _ _ _ h => h) ?g26_18 rfl hSx ?_
      case g26_18 => (intro w' hSw; (try dsimp only at hSw); go_split_ands; go_simp; try with_reducible rfl)
      clear hSx; intro hSx
      try simp only [Act.put, List.getElem_toArray, List.getElem_cons_succ, List.getElem_cons_zero, List.setIfInBounds_toArray, List.set_cons_zero, List.set_cons_succ]
      refine wpAnyL_take (i := 19) (v := ?vg27_19) rfl (by kernel_rfl) (fun _ _ _ h => h) ?g27_19 rfl hSx ?_
      case g27_19 => (intro w' hSw; (try dsimp only at hSw); go_split_ands; go_simp; try with_reducible rfl)
      clear hSx; intro hSx
      try simp only [Act.put, List.getElem_toArray, List.getElem_cons_succ, List.getElem_cons_zero, List.setIfInBounds_toArray, List.set_cons_zero, List.set_cons_succ]
      (try dsimp only at hSx); go_split_ands
      refine' wpAnyL_one (i := 22) ?tag28_22 ?tbg28_22 ?tcg28_22 ?tdg28_22
      case tbg28_22 => rfl
      case tag28_22 => kernel_rfl
      case tcg28_22 => rfl
      intro K hK
      refine wp_append_lies _ _ _ 23 rfl 0 3 ii _ 1 8 Tryd.underlying23 hi hz0 hz1 hz2 rfl (by decide) _ _ _ (by rfl) (HH.out.drew.alloc _) ⟨w.heap.size, 0, none⟩ 1 1 [.int .i64 (p : Int)] (by rfl) (by rfl) (World.news_of_block (cs := #[.int .i64 (p : Int)]) (t := 3) (fr := (0, 0)) (heap_alloc_new w _)) (by simp [Value.oneCell']) (by decide) (by unfold maxLen; omega) (by omega) (Nat.zero_le _) (w.heap.size + 1) (by simp) ?_; intro g cap w1 hown hgrow hat hlt1; have fz1 := (hgrow.frozen_far ⟨wB, ix σ.V n, none⟩ (by simp; omega) (Ne.symm hne)).trans (HzA.out _)
      refine hK.out _ _ ⟨hgrow.cell (by assumption) (Ne.symm ns2), hgrow.cell (by assumption) (Ne.symm hne), hgrow.cell (by assumption) (Ne.symm ns2)⟩ (fun hSx => ?_)
      clear hK K
      try simp only [Act.put, List.getElem_toArray, List.getElem_cons_succ, List.getElem_cons_zero, List.setIfInBounds_toArray, List.set_cons_zero, List.set_cons_succ]
      refine wpAnyL_take (i := 23) (v := ?vg29_23) rfl (by kernel_rfl) (fun _ _ _ h => h) ?g29_23 rfl hSx ?_
      case g29_23 => (intro w' hSw; (try dsimp only at hSw); go_split_ands; go_simp; try with_reducible rfl)
      clear hSx; intro hSx
      try simp only [Act.put, List.getElem_toArray, List.getElem_cons_succ, List.getElem_cons_zero, List.setIfInBounds_toArray, List.set_cons_zero, List.set_cons_succ]
      (try dsimp only at hSx); go_split_ands
      refine' wpAnyL_last (i := 24) ?tag30_24 ?tbg30_24 ?tcg30_24 ?tdg30_24
      case tbg30_24 => rfl
      case tag30_24 => kernel_rfl
      case tcg30_24 => rfl
      intro K hK
      go_simp
      refine hK.out _ _ ?_
      clear hK K
      go_wp2_with fail
      go_end0
      exact ⟨rfl, (FIN.out _ _ _ hown hgrow hat hlt1).2⟩
  case teg17_8 =>
    intro K hK
    go_simp
    refine hK.out _ _ ?kg17_8te (fun hSx => ?_)
    case kg17_8te => go_keep
    clear hK K
    try simp only [Act.put, List.getElem_toArray, List.getElem_cons_succ, List.getElem_cons_zero, List.setIfInBounds_toArray, List.set_cons_zero, List.set_cons_succ]
    (try dsimp only at hSx); go_split_ands
    refine' wpAnyL_one (i := 8) ?tag31_8 ?tbg31_8 ?tcg31_8 ?tdg31_8
    case tbg31_8 => rfl
    case tag31_8 => kernel_rfl
    case tcg31_8 => rfl
    intro K hK
    go_simp; refine (HI.out _ (by assumption)).mono ?_; rintro e w' ⟨rfl, rfl⟩; (try dsimp only)
    refine hK.out _ _ ?kg31_8 (fun hSx => ?_)
    case kg31_8 => go_keep
    clear hK K
    try simp only [Act.put, List.getElem_toArray, List.getElem_cons_succ, List.getElem_cons_zero, List.setIfInBounds_toArray, List.set_cons_zero, List.set_cons_succ]
    (try dsimp only at hSx); go_split_ands
    refine' wpAnyL_one (i := 17) ?tag32_17 ?tbg32_17 ?tcg32_17 ?tdg32_17
    case tbg32_17 => rfl
    case tag32_17 => kernel_rfl
    case tcg32_17 => rfl
    intro K hK
    go_simp; refine (HI.out _ (by assumption)).mono ?_; rintro e w' ⟨rfl, rfl⟩; (try dsimp only)
    refine hK.out _ _ ?kg32_17 (fun hSx => ?_)
    case kg32_17 => go_keep
    clear hK K
    try simp only [Act.put, List.getElem_toArray, List.getElem_cons_succ, List.getElem_cons_zero, List.setIfInBounds_toArray, List.set_cons_zero, List.set_cons_succ]
    refine wpAnyL_take (i := 18) (v := ?vg33_18) rfl (by kernel_rfl) (fun _ _ _ h => h) ?g33_18 rfl hSx ?_
    case g33_18 => (intro w' hSw; (try dsimp only at hSw); go_split_ands; go_simp; try with_reducible rfl)
    clear hSx; intro hSx
    try simp only [Act.put, List.getElem_toArray, List.getElem_cons_succ, List.getElem_cons_zero, List.setIfInBounds_toArray, List.set_cons_zero, List.set_cons_succ]
    refine wpAnyL_take (i := 19) (v := ?vg34_19) rfl (by kernel_rfl) (fun _ _ _ h => h) ?g34_19 rfl hSx ?_
    case g34_19 => (intro w' hSw; (try dsimp only at hSw); go_split_ands; go_simp; try with_reducible rfl)
    clear hSx; intro hSx
    try simp only [Act.put, List.getElem_toArray, List.getElem_cons_succ, List.getElem_cons_zero, List.setIfInBounds_toArray, List.set_cons_zero, List.set_cons_succ]
    (try dsimp only at hSx); go_split_ands
    refine' wpAnyL_one (i := 22) ?tag35_22 ?tbg35_22 ?tcg35_22 ?tdg35_22
    case tbg35_22 => rfl
    case tag35_22 => kernel_rfl
    case tcg35_22 => rfl
    intro K hK
    refine wp_append_lies _ _ _ 23 rfl 0 3 ii _ 1 8 Tryd.underlying23 hi hz0 hz1 hz2 rfl (by decide) _ _ _ (by rfl) (HH.out.drew.alloc _) ⟨w.heap.size, 0, none⟩ 1 1 [.int .i64 (p : Int)] (by rfl) (by rfl) (World.news_of_block (cs := #[.int .i64 (p : Int)]) (t := 3) (fr := (0, 0)) (heap_alloc_new w _)) (by simp [Value.oneCell']) (by decide) (by unfold maxLen; omega) (by omega) (Nat.zero_le _) (w.heap.size + 1) (by simp) ?_; intro g cap w1 hown hgrow hat hlt1; have fz1 := (hgrow.frozen_far ⟨wB, ix σ.V n, none⟩ (by simp; omega) (Ne.symm hne)).trans (HzA.out _)
    refine hK.out _ _ ⟨hgrow.cell (by assumption) (Ne.symm ns2), hgrow.cell (by assumption) (Ne.symm hne), hgrow.cell (by assumption) (Ne.symm ns2)⟩ (fun hSx => ?_)
    clear hK K
    try simp only [Act.put, List.getElem_toArray, List.getElem_cons_succ, List.getElem_cons_zero, List.setIfInBounds_toArray, List.set_cons_zero, List.set_cons_succ]
    refine wpAnyL_take (i := 23) (v := ?vg36_23) rfl (by kernel_rfl) (fun _ _ _ h => h) ?g36_23 rfl hSx ?_
    case g36_23 => (intro w' hSw; (try dsimp only at hSw); go_split_ands; go_simp; try with_reducible rfl)
    clear hSx; intro hSx
    try simp only [Act.put, List.getElem_toArray, List.getElem_cons_succ, List.getElem_cons_zero, List.setIfInBounds_toArray, List.set_cons_zero, List.set_cons_succ]
    (try dsimp only at hSx); go_split_ands
    refine' wpAnyL_last (i := 24) ?tag37_24 ?tbg37_24 ?tcg37_24 ?tdg37_24
    case tbg37_24 => rfl
    case tag37_24 => kernel_rfl
    case tcg37_24 => rfl
    intro K hK
    go_simp
    refine hK.out _ _ ?_
    clear hK K
    go_wp2_with fail
    go_end0
    exact ⟨rfl, (FIN.out _ _ _ hown hgrow hat hlt1).2⟩
end Go.Proofs.YthpamogomfleoaaDoor.Rc
