/- The contract of clause.Norm: a new slice that holds the normal form, and whether two neighbours of it stand opposite. -/
import Derived.Test.YthpamogomfleoaaDoorClE
import Derived.Test.YthpamogomfleoaaDoorClNf
import Derived.Lib.OwnBridge
import Derived.Lib.AppendIntMem
namespace Go.Proofs.YthpamogomfleoaaDoor.Cl
open Go Go.RowKit Go.Lib Go.Sort

theorem info_int : (Tryd.prog.info? 3).map (fun i => (i.zero, i.size, i.bytes)) = some (some (.int .i64 0), 1, 8) := by kernel_rfl

/-- A slice of the call's own: empty, or a row of a new block. -/
def Own (w w' : World) (a : Option Addr) (zs : List Int) : Prop :=
  zs = [] ∨ ∃ g, a = some ⟨g, 0, none⟩ ∧ w.heap.size ≤ g ∧ g < w'.heap.size ∧ Holds (Value.int .i64) w' g 0 zs.toArray
theorem Own.row {w w' : World} {a : Option Addr} {zs : List Int} (h : Own w w' a zs) : RowIn (Value.int .i64) w' a zs := by
  rcases h with h | ⟨g, rfl, _, h2, h3⟩
  · exact Or.inl h
  · exact Or.inr ⟨g, 0, rfl, h2, fun j hj => by have := (h3 j (by simpa using hj)).1; rwa [List.getElem!_toArray] at this⟩

/-- What Clone answers. -/
def Cloned (w : World) (zs : List Int) (e : Ending) (w' : World) : Prop :=
  ∃ a c, e = .returned (.slice a zs.length c) ∧ zs.length ≤ c ∧ Own w w' a zs ∧ Below w.heap.size w w'

set_option maxHeartbeats 2000000 in
theorem Clone_empty (a : Addr) (c : Nat) (w : World) :
    Calls Tryd.prog 58 #[.slice (some a) 0 c] w (Cloned w []) := by
  obtain ⟨i0, hi, hz0, hz1, hz2⟩ := info_parts info_int
  have q22 : ∀ (w : World) (a : Option Addr) (n c n' c' : Nat), (binOp .eql 23 (.slice a n c) (.slice none n' c')).run Tryd.prog w = .ok (.bool a.isNone) w := fun w a n c n' c' => Lib.run_eql_slice_nil w _ _ a n c n' c' Tryd.underlying23
  go_enter Tryd.func58, Tryd.ntmps58
  go_wp2_with (at_builtin; refine wpList_append_own _ rfl _ _ 23 rfl w.heap.size 3 i0 (.int .i64 0) 1 8 Tryd.underlying23 hi hz0 hz1 hz2 rfl (by decide) _ _ _ rfl (World.ownsRow_made w #[] 0 (Nat.le_refl _) (Nat.zero_le _) (by simp)) a 0 c [] rfl ?qc1 ?qc2 ?qc3 ?qc4 ?qc5 ?qc6 ?_)
  case qc1 => rfl
  case qc2 => intro j u hj; simp at hj
  case qc3 => intro u hu; simp at hu
  case qc4 => exact Nat.zero_le _
  case qc5 => omega
  case qc6 => simp
  intro v' w1 hown hgrow hnil
  go_wp2
  go_ret
  have hB : Below w.heap.size w w1 := ((Below.refl _ w).alloc (Nat.le_refl _) _).grown hgrow (by simp) (by intro k hk; simp [Value.ownBlock] at hk; omega)
  rcases hown.2 with ⟨rfl, _⟩ | ⟨g, cap, cur, rfl, _⟩
  · exact ⟨none, 0, rfl, Nat.zero_le _, Or.inl rfl, hB⟩
  · exact ⟨_, cap, rfl, Nat.zero_le _, Or.inl rfl, hB⟩

set_option maxHeartbeats 1000000 in
theorem Clone_any (a : Option Addr) (c : Nat) (zs : List Int) (w : World) (hr : RowIn (Value.int .i64) w a zs) (hl : zs.length ≤ 1000) :
    Calls Tryd.prog 58 #[.slice a zs.length c] w (Cloned w zs) := by
  rcases hr with rfl | ⟨b, off, rfl, hlt, hc⟩
  · cases a with
    | none =>
      refine (Tryd.slices_Clone_nil 0 c w).mono fun e w' ⟨he, hw⟩ => ?_
      subst he; subst hw
      exact ⟨none, 0, rfl, Nat.zero_le _, Or.inl rfl, Below.refl _ _⟩
    | some a => exact Clone_empty a c w
  · obtain ⟨i0, hi, hz0, hz1, hz2⟩ := info_parts info_int
    refine (Tryd.slices_Clone i0 (.int .i64 0) 1 8 hi hz0 hz1 hz2 rfl (by decide) Tryd.sizeOf3 b off zs.length c (zs.map (Value.int .i64)) w (by simp) (by unfold maxLen; omega) (by omega) ?_ ?_).mono ?_
    · intro j u hj
      rw [List.getElem?_map] at hj
      obtain ⟨x, hx, rfl⟩ := Option.map_eq_some_iff.1 hj
      obtain ⟨hj', hx'⟩ := List.getElem?_eq_some_iff.1 hx
      rw [hc j hj', getElem!_pos zs j hj', hx']
    · intro u hu
      obtain ⟨x, _, rfl⟩ := List.mem_map.1 hu
      rfl
    · rintro e w' ⟨v', rfl, hown, hne, hB⟩
      obtain ⟨g, cap, rfl, hg1, hg2, hn, _, _, hH⟩ := holds_of_ownsRow hown hne
      exact ⟨_, cap, rfl, hn, Or.inr ⟨g, rfl, hg1, hg2, hH⟩, hB⟩

theorem below_sortWorld {α : Type} [Inhabited α] {enc : α → Value} {B : Nat} {w0 w : World} {g n : Nat} {d : Array α} {os : Array Obj} (h : Below B w0 w) (hg : B ≤ g) (hs : B ≤ w.heap.size) : Below B w0 (sortWorld enc w g 0 n d os) := by
  unfold sortWorld
  have h1 := below_putRow (enc := enc) (q := n) (d := d) h hg
  refine h1.trans ?_
  have h2 := below_grow B (putRow enc (Sort.ahead w n) g 0 d) (by rw [size_putRow]; exact hs) 0 os
  exact h2

/-- The sorted row: what the sort leaves. -/
def Sorted (w : World) (g : Nat) (zs : List Int) (e : Ending) (w' : World) : Prop :=
  e = .returned (.tuple #[]) ∧ ∃ ys, ys.length = zs.length ∧ ys = (zs.mergeSort fun x y => !ltOf cf y x) ∧ Holds (Value.int .i64) w' g 0 ys.toArray ∧ g < w'.heap.size ∧ ∀ B w0, Below B w0 w → B ≤ g → B ≤ w.heap.size → Below B w0 w'

set_option maxHeartbeats 1000000 in
theorem Sort_any (g c : Nat) (zs : List Int) (w : World) (hg : g < w.heap.size) (hl : zs.length ≤ 1000) (hH : Holds (Value.int .i64) w g 0 zs.toArray) :
    Calls Tryd.prog 59 #[.slice (some ⟨g, 0, none⟩) zs.length c, .func (.func 60) #[] #[]] w (Sorted w g zs) := by
  have hcmp : CmpLays1 Tryd.prog 60 #[] (Value.int .i64) cf g 0 zs.toArray.size w := fun _ _ _ _ x y => norm_cmp x y _
  have h := Tryd.slices_SortFunc_total (Value.int .i64) (fun _ => rfl) cf swo_cf 60 #[] g 0 c zs.toArray w enters_norm hcmp hH hg (by simp; omega) total_cf
  refine h.mono ?_
  rintro e w' ⟨rfl, n, os, rfl⟩
  have hs : (zs.mergeSort fun x y => !ltOf cf y x).toArray.size = zs.toArray.size := by simp
  refine ⟨rfl, _, by simp, rfl, holds_sortWorld _ w g 0 n zs.toArray _ os hg hH hs, lt_sortWorld _ w g 0 n _ os hg, fun B w0 h1 h2 h3 => below_sortWorld h1 h2 h3⟩

/-- The compacted row. -/
def Compacted (w : World) (g : Nat) (zs : List Int) (e : Ending) (w' : World) : Prop :=
  ∃ c, e = .returned (.slice (some ⟨g, 0, none⟩) (Lib.compact zs).length c) ∧ (Lib.compact zs).length ≤ c ∧ RowIn (Value.int .i64) w' (some ⟨g, 0, none⟩) (Lib.compact zs) ∧ w.heap.size ≤ w'.heap.size ∧ ∀ B w0, Below B w0 w → B ≤ g → Below B w0 w'

theorem compact_length_le (zs : List Int) : (Lib.compact zs).length ≤ zs.length := by
  unfold Lib.compact compactUpTo
  rw [List.length_map]
  have := List.length_filter_le (keeps zs.toArray) (List.range zs.length)
  simpa using this

set_option maxHeartbeats 1000000 in
theorem Compact_any (g c : Nat) (zs : List Int) (w : World) (hg : g < w.heap.size) (hl : zs.length ≤ 1000) (hc : zs.length ≤ c) (hH : Holds (Value.int .i64) w g 0 zs.toArray) :
    Calls Tryd.prog 63 #[.slice (some ⟨g, 0, none⟩) zs.length c] w (Compacted w g zs) := by
  refine (Tryd.slices_Compact_int g 0 c zs w hH (by omega) hc).mono ?_
  rintro e w' ⟨rfl, q, rfl⟩
  have hle := compact_length_le zs
  refine ⟨c, rfl, by omega, ?_, by rw [size_putRow]; exact Nat.le_refl _, fun B w0 h1 h2 => below_putRow h1 h2⟩
  refine Or.inr ⟨g, 0, rfl, by rw [size_putRow]; exact hg, fun j hj => ?_⟩
  have hs : (Lib.compact zs ++ List.replicate (zs.length - (Lib.compact zs).length) 0).toArray.size = zs.toArray.size := by simp; omega
  have := (holds_putRow (Value.int .i64) (Sort.ahead w q) g 0 zs.toArray _ (holds_ahead _ w q g 0 zs.toArray hH) hs j (by simp; omega)).1
  rw [this, List.getElem!_toArray, getElem!_pos _ j (by simp; omega), getElem!_pos _ j hj, List.getElem_append_left hj]
end Go.Proofs.YthpamogomfleoaaDoor.Cl
