/- clause.Norm again: its result's literals lie in a new block of their own. -/
import Derived.Test.YthpamogomfleoaaDoorClP
import Derived.Lib.Itoa
import Derived.Lib.ItoaLen
import Derived.Lib.Slices
import Derived.Test.YthpamogomfleoaaDoorClH
import Derived.Lib.AppendIntMem
import Derived.Laws.IdiomStrings
import Derived.OwnWalk
import Derived.BigCall
import Derived.Deep.LoopGhost
import Derived.Test.YthpamogomfleoaaDoorRcU
import Derived.Test.YthpamogomfleoaaDoorRcIn
import Derived.Maps.Views
namespace Go.Proofs.YthpamogomfleoaaDoor.Rc
open Go Go.RowKit Go.Lib Go.Sort
open Go.Proofs.YthpamogomfleoaaDoor.Cl

/-- A block of ints, none frozen. -/
def Blk (w : World) (g : Nat) : Prop := ∃ cur, w.heap[g]? = some (.cells cur 3 (0, 0))
theorem Blk.map {w : World} {g : Nat} (h : Blk w g) (f : Array Value → Array Value) : Blk (mapBlock w g f) g := by
  obtain ⟨cur, h⟩ := h
  refine ⟨f cur, ?_⟩
  unfold mapBlock
  show (w.heap.modify g _)[g]? = _
  rw [Array.getElem?_modify, if_pos rfl, h]
  rfl
theorem Blk.put {α : Type} [Inhabited α] {enc : α → Value} {w : World} {g : Nat} (h : Blk w g) (d : Array α) (q : Nat) : Blk (putRow enc (Sort.ahead w q) g 0 d) g := Blk.map (w := Sort.ahead w q) h _
theorem Blk.grow {w : World} {g : Nat} (h : Blk w g) (os : Array Obj) : Blk (Sort.grow w os) g := by
  obtain ⟨cur, h⟩ := h
  refine ⟨cur, ?_⟩
  show (w.heap ++ os)[g]? = _
  rw [Array.getElem?_append_left (lt_of_block h)]
  exact h
theorem Blk.drewN {w : World} {g : Nat} (h : Blk w g) (q : Nat) : Blk (w.drewN q) g := h

/-- What Clone answers of a row that is not empty. -/
def ClonedB (w : World) (zs : List Int) (e : Ending) (w' : World) : Prop :=
  ∃ g c, e = .returned (.slice (some ⟨g, 0, none⟩) zs.length c) ∧ zs.length ≤ c ∧ w.heap.size ≤ g ∧ g < w'.heap.size ∧ Holds (Value.int .i64) w' g 0 zs.toArray ∧ Blk w' g ∧ Below w.heap.size w w'
theorem Clone_blk (a : Option Addr) (c : Nat) (zs : List Int) (w : World) (hr : RowIn (Value.int .i64) w a zs) (hl : zs.length ≤ 1000) (h0 : zs ≠ []) :
    Calls Tryd.prog 58 #[.slice a zs.length c] w (ClonedB w zs) := by
  obtain ⟨b, off, rfl, hlt, hc⟩ := hr.resolve_left h0
  obtain ⟨i0, hi, hz0, hz1, hz2⟩ := info_parts info_int
  refine (Tryd.slices_Clone i0 (.int .i64 0) 1 8 hi hz0 hz1 hz2 rfl (by decide) Tryd.sizeOf3 b off zs.length c (zs.map (Value.int .i64)) w (by simp) (by unfold maxLen; omega) (by omega) ?_ ?_).mono ?_
  · intro j u hj
    rw [List.getElem?_map] at hj
    obtain ⟨x, hx, rfl⟩ := Option.map_eq_some_iff.1 hj
    obtain ⟨hj', hx'⟩ := List.getElem?_eq_some_iff.1 hx
    rw [hc j hj', getElem!_pos zs j hj', hx']
  · intro u hu
    obtain ⟨x, _, rfl⟩ := List.mem_map.1 hu
    rfl
  · rintro e w' ⟨v', rfl, hown, hne, hB⟩
    have hown2 := hown
    obtain ⟨g, cap, rfl, hg1, hg2, hn, _, _, hH⟩ := holds_of_ownsRow hown hne
    rcases hown2.2 with ⟨e, _⟩ | ⟨g', cap', cur, hv, _, hh, _⟩
    · cases e
    · simp only [Value.slice.injEq, Option.some.injEq, Addr.mk.injEq, and_true, true_and] at hv
      obtain ⟨rfl, rfl⟩ := hv
      exact ⟨g, cap, rfl, hn, hg1, hg2, hH, ⟨cur, hh⟩, hB⟩

/-- What Norm answers of a valid clause. -/
def NormedB (w : World) (zs : List Int) (e : Ending) (w' : World) : Prop :=
  ∃ a c, e = .returned (.tuple #[.slice a (nf zs).length c, .bool (oppB (nf zs))]) ∧ (nf zs).length ≤ c ∧ Below w.heap.size w w' ∧
    (nf zs = [] ∨ ∃ g arr, a = some ⟨g, 0, none⟩ ∧ w.heap.size ≤ g ∧ w'.heap[g]? = some (.cells arr 3 (0, 0)) ∧ ∀ i, i < (nf zs).length → arr[i]? = some (.int .i64 (nf zs)[i]!))

theorem Sort_blk (g c : Nat) (zs : List Int) (w : World) (hg : g < w.heap.size) (hl : zs.length ≤ 1000) (hH : Holds (Value.int .i64) w g 0 zs.toArray) (hb : Blk w g) :
    Calls Tryd.prog 59 #[.slice (some ⟨g, 0, none⟩) zs.length c, .func (.func 60) #[] #[]] w fun e w' => Sorted w g zs e w' ∧ Blk w' g := by
  have hcmp : CmpLays1 Tryd.prog 60 #[] (Value.int .i64) cf g 0 zs.toArray.size w := fun _ _ _ _ x y => norm_cmp x y _
  have h := Tryd.slices_SortFunc_total (Value.int .i64) (fun _ => rfl) cf swo_cf 60 #[] g 0 c zs.toArray w enters_norm hcmp hH hg (by simp; omega) total_cf
  refine h.mono ?_
  rintro e w' ⟨rfl, n, os, rfl⟩
  have hs : (zs.mergeSort fun x y => !ltOf cf y x).toArray.size = zs.toArray.size := by simp
  exact ⟨⟨rfl, _, by simp, rfl, holds_sortWorld _ w g 0 n zs.toArray _ os hg hH hs, lt_sortWorld _ w g 0 n _ os hg, fun B w0 h1 h2 h3 => below_sortWorld h1 h2 h3⟩, Blk.grow (hb.put _ n) os⟩
theorem Compact_blk (g c : Nat) (zs : List Int) (w : World) (hg : g < w.heap.size) (hl : zs.length ≤ 1000) (hc : zs.length ≤ c) (hH : Holds (Value.int .i64) w g 0 zs.toArray) (hb : Blk w g) :
    Calls Tryd.prog 63 #[.slice (some ⟨g, 0, none⟩) zs.length c] w fun e w' => Compacted w g zs e w' ∧ Blk w' g := by
  refine (Tryd.slices_Compact_int g 0 c zs w hH (by omega) hc).mono ?_
  rintro e w' ⟨rfl, q, rfl⟩
  have hle := Cl.compact_length_le zs
  refine ⟨⟨c, rfl, by omega, ?_, by rw [size_putRow]; exact Nat.le_refl _, fun B w0 h1 h2 => below_putRow h1 h2⟩, hb.put _ q⟩
  refine Or.inr ⟨g, 0, rfl, by rw [size_putRow]; exact hg, fun j hj => ?_⟩
  have hs : (Lib.compact zs ++ List.replicate (zs.length - (Lib.compact zs).length) 0).toArray.size = zs.toArray.size := by simp; omega
  have := (holds_putRow (Value.int .i64) (Sort.ahead w q) g 0 zs.toArray _ (holds_ahead _ w q g 0 zs.toArray hH) hs j (by simp; omega)).1
  rw [this, List.getElem!_toArray, getElem!_pos _ j (by simp; omega), getElem!_pos _ j hj, List.getElem_append_left hj]

set_option maxHeartbeats 2000000 in
theorem Norm_blk (a : Option Addr) (c : Nat) (zs : List Int) (w : World) (hr : RowIn (Value.int .i64) w a zs) (hl : zs.length ≤ 1000) (h : rightB zs = true) :
    Calls Tryd.prog 40 #[.slice a zs.length c] w (NormedB w zs) := by
  by_cases h0 : zs = []
  · refine (Norm_any a c zs w hr hl).mono ?_
    rintro e w' ⟨a', c', rfl, _, h2, h3⟩
    rw [normL_yes h] at h2
    refine ⟨a', c', by rw [normL_yes h, normX_yes h], h2, h3, Or.inl ?_⟩
    subst h0; exact nf_nil
  have hR := Right_any a c zs w hr (by omega)
  rw [h] at hR
  have HZ : Hid (∀ z ∈ nf zs, -100000 ≤ z ∧ z ≤ 100000) := fun z hz => rightB_bd h z (((isNf_nf zs).2 z).1 hz)
  have HL : Hid ((nf zs).length ≤ 1000) := by have := nf_length zs; show _ ≤ _; omega
  have HC : Hid (∀ q, Calls Tryd.prog 58 #[.slice a zs.length c] (w.drewN q) (ClonedB (w.drewN q) zs)) := fun q => Clone_blk a c zs _ (hr.below (below_drewN' (Below.refl _ _) q)) hl h0
  clear h hr h0
  go_enter Tryd.func40, Tryd.ntmps40
  go_wp2_with (go_at_call 19; refine hR.mono ?_; rintro e w' ⟨rfl, q, rfl⟩)
  clear hR
  refine (HC.out _).mono ?_
  rintro e w1 ⟨g, c1, rfl, hc1, hg1, hg2, hH, hbk, hB1⟩
  clear HC
  have hB1 : Below w.heap.size w w1 := (below_drewN' (Below.refl _ _) q).trans hB1
  have HH := Lib.hid hH
  have HBK := Lib.hid hbk
  clear hH hbk
  go_wp2_with fail
  refine (Sort_blk g c1 zs _ hg2 hl HH.out HBK.out).mono ?_
  rintro e w2 ⟨⟨rfl, ys, hyl, hys, hH2, hg3, hB2⟩, hbk2⟩
  have HB2 := Lib.hid hB2
  have HH2 := Lib.hid hH2
  have HYL := Lib.hid hyl
  have HYS := Lib.hid hys
  have HBK2 := Lib.hid hbk2
  clear hB2 hH2 HH hyl hys hbk2
  have hsz : w.heap.size ≤ g := by simpa using hg1
  go_wp2_with fail
  have hco : Calls Tryd.prog 63 #[.slice (some ⟨g, 0, none⟩) zs.length c1] w2 fun e w' => ∃ c, e = .returned (.slice (some ⟨g, 0, none⟩) (nf zs).length c) ∧ (nf zs).length ≤ c ∧ RowIn (Value.int .i64) w' (some ⟨g, 0, none⟩) (nf zs) ∧ (∀ B w0, Below B w0 w2 → B ≤ g → Below B w0 w') ∧ Blk w' g := by
    have hco := Compact_blk g c1 ys w2 hg3 (by rw [HYL.out]; exact hl) (by rw [HYL.out]; exact hc1) HH2.out HBK2.out
    have e : Lib.compact ys = nf zs := by rw [HYS.out]; rfl
    rw [HYL.out] at hco
    unfold Compacted at hco
    rw [e] at hco
    exact hco.mono fun e w' ⟨⟨c, h1, h2, h3, _, h5⟩, h6⟩ => ⟨c, h1, h2, h3, h5, h6⟩
  clear HYL HYS
  refine hco.mono ?_
  rintro e w3 ⟨c3, rfl, hcap3, hrow3, hB3, hbk3⟩
  have HB3 := Lib.hid hB3
  have HBK3 := Lib.hid hbk3
  have HRW := Lib.hid hrow3
  clear hB3 hco hbk3
  go_wp2_with fail
  refine (hasOpposites_any (some ⟨g, 0, none⟩) c3 (nf zs) _ hrow3 (by have := HL.out; omega) HZ.out).mono ?_
  rintro e w4 ⟨rfl, q4, rfl⟩
  go_wp2_with fail
  go_ret2
  refine ⟨some ⟨g, 0, none⟩, c3, rfl, hcap3, below_drewN' (HB3.out _ _ (HB2.out _ _ hB1 hsz hB1.size) hsz) q4, ?_⟩
  rcases HRW.out with e | ⟨b, off, e, _, hc⟩
  · exact Or.inl e
  · simp only [Option.some.injEq, Addr.mk.injEq, and_true] at e
    obtain ⟨rfl, rfl⟩ := e
    obtain ⟨cur, hcur⟩ := HBK3.out
    refine Or.inr ⟨g, cur, rfl, hsz, hcur, fun i hi => ?_⟩
    have := hc i hi
    simp only [World.cell?, hcur] at this
    simpa using this
end Go.Proofs.YthpamogomfleoaaDoor.Rc
/- The key's text tells the clause (no program). -/
namespace Go.Proofs.YthpamogomfleoaaDoor.Rc
open Go Go.Lib

def dval (l : List UInt8) : Nat := l.foldl (fun a b => a * 10 + (b.toNat - 48)) 0
theorem dec_facts (u : Nat) : dval (decDigits u) = u ∧ (∀ b ∈ decDigits u, 48 ≤ b.toNat ∧ b.toNat ≤ 57) ∧ decDigits u ≠ [] := by
  induction u using Nat.strongRecOn with
  | _ u ih =>
    have one : ∀ d, d < 10 → (UInt8.ofNat (48 + d)).toNat = 48 + d := fun d hd => by rw [UInt8.toNat_ofNat']; omega
    by_cases h : u < 10
    · rw [decDigits, dif_pos h]
      refine ⟨?_, fun b hb => ?_, by simp⟩
      · unfold dval; simp only [List.foldl_cons, List.foldl_nil]; rw [one u h]; omega
      · rw [List.mem_singleton.1 hb, one u h]; omega
    · obtain ⟨i1, i2, i3⟩ := ih (u / 10) (by omega)
      have hm : u % 10 < 10 := Nat.mod_lt _ (by omega)
      rw [decDigits, dif_neg h]
      refine ⟨?_, fun b hb => ?_, by simp⟩
      · unfold dval at *; rw [List.foldl_append, i1]; simp only [List.foldl_cons, List.foldl_nil]; rw [one _ hm]; omega
      · rcases List.mem_append.1 hb with q | q
        · exact i2 b q
        · rw [List.mem_singleton.1 q, one _ hm]; omega
theorem itoa_byte {x : Int} {b : UInt8} (h : b ∈ itoa x) : b ≠ 32 := by
  have key : ∀ u, b ∈ decDigits u → b ≠ 32 := fun u q e => by have := (dec_facts u).2.1 b q; rw [e] at this; simp at this
  unfold itoa at h
  split at h
  · rcases List.mem_cons.1 h with rfl | h
    · decide
    · exact key _ h
  · exact key _ h
theorem itoa_inj {x y : Int} (h : itoa x = itoa y) : x = y := by
  have hd : ∀ u v, decDigits u = decDigits v → u = v := fun u v e => by rw [← (dec_facts u).1, ← (dec_facts v).1, e]
  have hne : ∀ u v, (45 : UInt8) :: decDigits u ≠ decDigits v := fun u v e => by
    have := (dec_facts v).2.1 45 (by rw [← e]; simp)
    simp at this
  by_cases hx : x < 0
  · obtain ⟨u, rfl⟩ : ∃ u : Nat, x = -(u : Int) := ⟨x.natAbs, by omega⟩
    rw [itoa_neg u (by omega)] at h
    by_cases hy : y < 0
    · obtain ⟨v, rfl⟩ : ∃ v : Nat, y = -(v : Int) := ⟨y.natAbs, by omega⟩
      rw [itoa_neg v (by omega)] at h
      rw [hd u v (List.cons.inj h).2]
    · obtain ⟨v, rfl⟩ : ∃ v : Nat, y = (v : Int) := ⟨y.toNat, by omega⟩
      rw [itoa_nonneg] at h
      exact absurd h (hne u v)
  · obtain ⟨u, rfl⟩ : ∃ u : Nat, x = (u : Int) := ⟨x.toNat, by omega⟩
    rw [itoa_nonneg] at h
    by_cases hy : y < 0
    · obtain ⟨v, rfl⟩ : ∃ v : Nat, y = -(v : Int) := ⟨y.natAbs, by omega⟩
      rw [itoa_neg v (by omega)] at h
      exact absurd h.symm (hne v u)
    · obtain ⟨v, rfl⟩ : ∃ v : Nat, y = (v : Int) := ⟨y.toNat, by omega⟩
      rw [itoa_nonneg] at h
      rw [hd u v h]
/-- The key's text. -/
def ktext (zs : List Int) : List UInt8 := zs.flatMap fun n => itoa n ++ [32]
theorem ktext_snoc (zs : List Int) (n : Int) : ktext (zs ++ [n]) = ktext zs ++ itoa n ++ [32] := by unfold ktext; simp
theorem split32 : ∀ {h1 h2 r1 r2 : List UInt8}, h1 ++ 32 :: r1 = h2 ++ 32 :: r2 → (∀ b ∈ h1, b ≠ 32) → (∀ b ∈ h2, b ≠ 32) → h1 = h2 ∧ r1 = r2
  | [], [], r1, r2, h, _, _ => by simpa using h
  | [], b :: h2, r1, r2, h, _, n2 => by
    simp only [List.nil_append, List.cons_append, List.cons.injEq] at h
    exact absurd h.1.symm (n2 b (by simp))
  | b :: h1, [], r1, r2, h, n1, _ => by
    simp only [List.nil_append, List.cons_append, List.cons.injEq] at h
    exact absurd h.1 (n1 b (by simp))
  | b :: h1, c :: h2, r1, r2, h, n1, n2 => by
    simp only [List.cons_append, List.cons.injEq] at h
    obtain ⟨e1, e2⟩ := split32 h.2 (fun b hb => n1 b (List.mem_cons_of_mem _ hb)) (fun b hb => n2 b (List.mem_cons_of_mem _ hb))
    exact ⟨by rw [h.1, e1], e2⟩
theorem ktext_inj : ∀ {xs ys : List Int}, ktext xs = ktext ys → xs = ys
  | [], [], _ => rfl
  | [], y :: ys, h => by unfold ktext at h; simp at h
  | x :: xs, [], h => by unfold ktext at h; simp at h
  | x :: xs, y :: ys, h => by
    have h' : itoa x ++ 32 :: ktext xs = itoa y ++ 32 :: ktext ys := by
      unfold ktext at h ⊢; simpa using h
    obtain ⟨e1, e2⟩ := split32 h' (fun b hb => itoa_byte hb) (fun b hb => itoa_byte hb)
    rw [itoa_inj e1, ktext_inj e2]
theorem ktext_len : ∀ {zs : List Int}, (∀ z ∈ zs, -9223372036854775808 ≤ z ∧ z ≤ 9223372036854775807) → (ktext zs).length ≤ 22 * zs.length
  | [], _ => by simp [ktext]
  | z :: zs, h => by
    have ih := ktext_len (zs := zs) fun z hz => h z (List.mem_cons_of_mem _ hz)
    have := itoa_length_le z (h z (by simp)).1 (h z (by simp)).2
    unfold ktext at ih ⊢
    rw [List.flatMap_cons, List.length_append, List.length_append, List.length_cons, List.length_cons, List.length_nil]
    omega
end Go.Proofs.YthpamogomfleoaaDoor.Rc
/- Contract of key. -/
namespace Go.Proofs.YthpamogomfleoaaDoor.Rc
open Go Go.RowKit Go.Lib
open Go.Proofs.YthpamogomfleoaaDoor.Cl (RowIn Tab)

theorem infoByte : (Tryd.prog.info? 5).map (fun i => (i.zero, i.size, i.bytes)) = some (some (.int .u8 0), 1, 1) := by kernel_rfl

/-- What key answers. -/
def KeyE (w : World) (zs : List Int) (e : Ending) (w' : World) : Prop := ∃ s : ByteArray, e = .returned (.string s) ∧ s.data.toList = ktext zs ∧ Below w.heap.size w w'

set_option maxHeartbeats 6400000 in
set_option maxRecDepth 100000 in
theorem key_any (a : Option Addr) (c : Nat) (zs : List Int) (w : World) (ht : Tab w) (hr : RowIn (Value.int .i64) w a zs) (hl : zs.length ≤ 1000) (hz : ∀ z ∈ zs, -9223372036854775808 ≤ z ∧ z ≤ 9223372036854775807) :
    Calls Tryd.prog 56 #[.slice a zs.length c] w (KeyE w zs) := by
  obtain ⟨i0, hi, hz0, hz1, hz2⟩ := info_parts infoByte
  have HT := Lib.hid (Lib.tabBelow_of_tabIs ht)
  have HZ := Lib.hid hz
  have HR := Lib.hid hr
  obtain ⟨n, hn⟩ : ∃ n, n = zs.length := ⟨_, rfl⟩
  have HN := Lib.hid hn
  rw [← hn] at hl ⊢
  clear ht hr hz hn
  go_enter Tryd.func56, Tryd.ntmps56
  go_wp2_with fail
  go_loopw [3, 8] (fun bv iv wr => ∃ (k : Nat) (v : Value), v = bv ∧ iv = .int .i64 (k : Int) ∧ k ≤ n ∧ Hid (wr.ownsRow w.heap.size 5 1 v (ktext (zs.take k)).length (byteCells (ktext (zs.take k))) ∧ Below w.heap.size w wr)) (fun _ iv _ => n - (intOf iv).toNat)
  case atStart => exact ⟨0, _, rfl, rfl, Nat.zero_le _, World.ownsRow_nil _ _ _ _, Below.refl _ _⟩
  case round =>
    obtain ⟨k, bv, rfl, rfl, hk, HO⟩ := hrel
    by_cases hlt : k < n
    · have hkz : (k : Int) < (n : Int) := by omega
      have hk0 : (0 : Int) ≤ (k : Int) := by omega
      have hkl : k < zs.length := by rw [← HN.out]; exact hlt
      obtain ⟨b, off, rfl, hb1, hb2⟩ := (HR.out.below HO.out.2).resolve_left (fun e => by rw [e] at hkl; simp at hkl)
      have d := hb2 k hkl
      obtain ⟨z, hzz⟩ : ∃ z, z = zs[k]! := ⟨_, rfl⟩
      rw [← hzz] at d
      have hzb := HZ.out z (by rw [hzz]; exact Cl.getElem!_mem hkl)
      have HS : Hid (zs.take (k + 1) = zs.take k ++ [z]) := by rw [List.take_add_one, List.getElem?_eq_getElem hkl, hzz, getElem!_pos zs k hkl]; rfl
      have hkt : (ktext (zs.take k)).length ≤ 22000 := by
        have := ktext_len (zs := zs.take k) fun y hy => HZ.out y (List.mem_of_mem_take hy)
        rw [List.length_take] at this; omega
      have hit := itoa_length_le z hzb.1 hzb.2
      have HAI : Hid (Calls Tryd.prog 75 #[bv, .int .i64 z, .int .i64 10] wr fun e w' => ∃ v', e = .returned v' ∧ w'.ownsRow w.heap.size 5 1 v' ((ktext (zs.take k)).length + (itoa z).length) (byteCells (ktext (zs.take k)) ++ byteCells (itoa z)) ∧ Below w.heap.size wr w') :=
        (Tryd.strconv_AppendInt_10 w.heap.size _ z hzb.1 hzb.2 bv _ wr HO.out.1 HO.out.2.size (by omega) (HT.out.on HO.out.2)).mono fun e w' ⟨v', h1, h2, h3, _⟩ => ⟨v', h1, h2, h3⟩
      have HB := Lib.hid HO.out.2
      clear hb1 hb2 hzz hzb HO
      obtain ⟨T, hT0⟩ : ∃ T, T = ktext (zs.take k) := ⟨_, rfl⟩
      rw [← hT0] at hkt HAI
      have HTT : Hid (ktext (zs.take k) = T) := hT0.symm
      clear hT0
      go_wp2_with fail
      refine HAI.out.mono ?_
      rintro e w1 ⟨v1, rfl, hown1, hnx1⟩
      have hnx : Below w.heap.size w w1 := HB.out.trans hnx1
      have hsz := hnx.size
      go_wp2_with (at_builtin; refine wpList_append_own _ rfl _ _ 36 rfl w.heap.size 5 i0 (.int .u8 0) 1 1 Tryd.underlying36 hi hz0 hz1 hz2 rfl (by decide) _ _ _ rfl (hown1.alloc _) ⟨w1.heap.size, 0, none⟩ 1 1 [Value.int .u8 32] rfl rfl ?c1 ?c2 ?c3 ?c4 ?c5 ?_)
      case c1 => intro j u' hj; match j, hj with | 0, hj => simp at hj; subst hj; simp [Addr.add, World.cell?_alloc_new]
      case c2 => intro u hu; obtain rfl := List.mem_singleton.1 hu; rfl
      case c3 => unfold maxLen; omega
      case c4 => omega
      case c5 => simp; omega
      intro v2 w2 hown2 hgrow _
      have hnx2 : Below w.heap.size w w2 := (hnx.alloc hsz _).grown hgrow (by simp; omega) (fun k hk => (hown1.lt k hk).1)
      have HE : Hid (w2.ownsRow w.heap.size 5 1 v2 (T.length + (itoa z).length + 1) (byteCells T ++ (byteCells (itoa z) ++ [Value.int .u8 32])) ∧ Below w.heap.size w w2) := ⟨by simpa using hown2, hnx2⟩
      clear hown1 hown2 hgrow hnx hnx1 hnx2 hsz HAI
      go_wp2_with fail
      go_roundw
      case rel =>
        refine ⟨k + 1, v2, rfl, by go_num, by omega, ?_, HE.out.2⟩
        have h1 := HE.out.1
        have e1 : byteCells T ++ (byteCells (itoa z) ++ [Value.int .u8 32]) = byteCells (ktext (zs.take (k + 1))) := by
          rw [HS.out, ktext_snoc, HTT.out]
          simp [byteCells]
          try rfl
        have e2 : T.length + (itoa z).length + 1 = (ktext (zs.take (k + 1))).length := by rw [HS.out, ktext_snoc, HTT.out]; simp; try omega
        rw [e1, e2] at h1
        exact h1
      case measure => simp [intOf]; omega
    · have hkn : k = n := by omega
      have hz1 : ¬ (k : Int) < (n : Int) := by omega
      have hfull : zs.take k = zs := List.take_of_length_le (by rw [← HN.out]; omega)
      rw [hfull] at HO
      have hown := HO.out.1
      have HB := Lib.hid HO.out.2
      clear hfull
      obtain ⟨l, hl0⟩ : ∃ l, l = ktext zs := ⟨_, rfl⟩
      rw [← hl0] at hown
      have HL := Lib.hid hl0
      clear hl0 HO
      rcases hown.2 with ⟨rfl, h0⟩ | ⟨g, cap, cur, rfl, -, -, -, -, -, -⟩
      · have hl00 : l = [] := List.eq_nil_of_length_eq_zero h0
        have HL0 := Lib.hid hl00
        clear hown h0 hl00
        have hcv : (convert 36 9 (.slice none 0 0)).run Tryd.prog wr = .ok (.string ⟨#[]⟩) wr := by
          rw [run_convert_bytes_string wr 36 9 5 none 0 0 Tryd.underlying36 Tryd.underlying5 Tryd.underlying9]
          try rfl
        go_wp2_with fail
        go_ret
        exact ⟨_, rfl, by rw [← HL.out, HL0.out], HB.out⟩
      · have hcv := run_convert_bytes_back (P := Tryd.prog) wr 36 9 5 ⟨g, 0, none⟩ cap l Tryd.underlying36 Tryd.underlying5 Tryd.underlying9 (fun j hj => hown.cells (g := g) rfl j _ (by simp [Lib.byteCells, hj]))
        clear hown
        go_wp2_with fail
        go_ret
        exact ⟨_, rfl, by rw [← HL.out], HB.out⟩
end Go.Proofs.YthpamogomfleoaaDoor.Rc
/- What adding a clause makes of what a checker knows (no memory). -/
namespace Go.Proofs.YthpamogomfleoaaDoor.Rc
open Go Go.RowKit Go.Lib
open Go.Proofs.YthpamogomfleoaaDoor.Cl (nf isNf_nf IsNf swo_cf rightB)

theorem nf_perm {xs ys : List Int} (h : xs.Perm ys) : nf xs = nf ys := (isNf_nf xs).unique swo_cf ⟨(isNf_nf ys).1, fun x => ((isNf_nf ys).2 x).trans h.mem_iff.symm⟩
theorem nf_eq_mem {xs ys : List Int} (h : nf xs = nf ys) (x : Int) : x ∈ xs ↔ x ∈ ys := ((isNf_nf xs).2 x).symm.trans (by rw [h]; exact (isNf_nf ys).2 x)
theorem nf_idem (xs : List Int) : nf (nf xs) = nf xs := (isNf_nf (nf xs)).unique swo_cf ⟨(isNf_nf xs).1, fun _ => Iff.rfl⟩
theorem nf_nodup (xs : List Int) : (nf xs).Nodup := by
  have h := (isNf_nf xs).1
  rw [List.nodup_iff_pairwise_ne]
  refine h.imp fun {a b} hab e => ?_
  subst e
  have := swo_cf.irrefl a
  rw [this] at hab; cases hab

/-- The key's text of a clause. -/
def kt (c : List Int) : List UInt8 := ktext (nf c)
theorem kt_eq {c d : List Int} (h : kt c = kt d) : nf c = nf d := ktext_inj h
/-- The places are those of the clauses that are present. -/
def PlcOk (σ : St) : Prop := ∀ t p, σ.plc t = some p ↔ p < σ.N ∧ σ.cps p ≠ 0 ∧ t = kt (σ.lits p)
theorem PlcOk.same {σ σ' : St} (h : PlcOk σ) (hs : Same σ σ') : PlcOk σ' := fun t p => by
  unfold kt
  rw [hs.plc, hs.N, hs.cps, nf_perm (hs.lits p)]
  exact h t p
/-- How often a clause of that text is present. -/
def cntOf (σ : St) (t : List UInt8) : Nat := match σ.plc t with | some p => σ.cps p | none => 0
def Cnt (σ : St) (cs : List (List Int)) : Prop := ∀ t, cntOf σ t = cs.countP (fun d => decide (kt d = t))
theorem Cnt.same {σ σ' : St} {cs : List (List Int)} (h : Cnt σ cs) (hs : Same σ σ') : Cnt σ' cs := fun t => by
  unfold cntOf
  rw [hs.plc, hs.cps]
  exact h t
theorem Cnt.cs {σ : St} {cs : List (List Int)} (h : Cnt σ cs) (hp : PlcOk σ) : Cs σ cs := by
  refine ⟨fun p h1 h2 => ?_, fun c hc => ?_⟩
  · have e : σ.plc (kt (σ.lits p)) = some p := (hp _ _).2 ⟨h1, h2, rfl⟩
    have hn := h (kt (σ.lits p))
    unfold cntOf at hn
    rw [e] at hn
    have hpos : 0 < cs.countP (fun d => decide (kt d = kt (σ.lits p))) := by rw [← hn]; exact Nat.pos_of_ne_zero h2
    obtain ⟨d, hd, he⟩ := List.countP_pos_iff.1 hpos
    exact ⟨d, hd, fun x => (nf_eq_mem (kt_eq (of_decide_eq_true he)) x).symm⟩
  · have hn := h (kt c)
    have hpos : 0 < cs.countP (fun d => decide (kt d = kt c)) := List.countP_pos_iff.2 ⟨c, hc, by simp⟩
    rw [← hn] at hpos
    unfold cntOf at hpos
    cases e : σ.plc (kt c) with
    | none => rw [e] at hpos; exact absurd hpos (Nat.lt_irrefl _)
    | some p =>
      obtain ⟨h1, h2, h3⟩ := (hp _ _).1 e
      exact ⟨p, h1, h2, fun x => (nf_eq_mem (kt_eq h3) x).symm⟩
theorem Cnt.le {σ : St} {cs : List (List Int)} (h : Cnt σ cs) (hp : PlcOk σ) {p : Nat} (h1 : p < σ.N) : σ.cps p ≤ cs.length := by
  by_cases h2 : σ.cps p = 0
  · omega
  · have e : σ.plc (kt (σ.lits p)) = some p := (hp _ _).2 ⟨h1, h2, rfl⟩
    have hn := h (kt (σ.lits p))
    unfold cntOf at hn
    rw [e] at hn
    change σ.cps p = _ at hn
    rw [hn]; exact List.countP_le_length

/-! ### One copy more -/
def St.more (σ : St) (p : Nat) : St := { σ with cps := upd σ.cps p (σ.cps p + 1) }
section
variable {σ : St} {p : Nat}
theorem more_ne (hc : σ.cps p ≠ 0) (q : Nat) : (σ.more p).cps q ≠ 0 ↔ σ.cps q ≠ 0 := by
  show upd σ.cps p (σ.cps p + 1) q ≠ 0 ↔ _
  by_cases e : q = p
  · subst e; rw [upd_same]; omega
  · rw [upd_ne _ _ _ e]
theorem Base.more {E : Nat → Prop} (h : Base σ E) (hc : σ.cps p ≠ 0) : Base (σ.more p) E := by
  have k := more_ne hc
  refine ⟨⟨h.t.lt, h.t.nd, h.t.val, h.t.con, h.t.head⟩, ⟨h.c.nd, h.c.lt, h.c.len⟩, ⟨h.w.entr, fun q hq hcq m hw => h.w.has q hq ((k q).1 hcq) m hw, h.w.uniq⟩, fun hs i l hi => ?_, fun e => ?_, fun e => ⟨fun q hq hcq m hw he hn => (h.h e).1 q hq ((k q).1 hcq) m hw he hn, (h.h e).2⟩, h.sh1, fun q hq hcq => h.sh2 q hq ((k q).1 hcq), h.sh3, fun e q hq hcq => h.un e q hq ((k q).1 hcq)⟩
  · rcases h.r hs i l hi with q | ⟨q, p1, p2, p3, p4⟩
    · exact Or.inl q
    · exact Or.inr ⟨q, p1, p2, (k q).2 p3, p4⟩
  · obtain ⟨q, q1, q2, q3⟩ := h.cf e
    exact ⟨q, q1, q2, fun hs => ⟨(k q).2 (q3 hs).1, (q3 hs).2⟩⟩
theorem PlcOk.more (h : PlcOk σ) (hc : σ.cps p ≠ 0) : PlcOk (σ.more p) := fun t q => by
  rw [show (σ.more p).plc t = σ.plc t from rfl, h t q, more_ne hc q]; exact Iff.rfl
theorem Cnt.more {cs : List (List Int)} (h : Cnt σ cs) (hp : PlcOk σ) {c : List Int} (he : σ.plc (kt c) = some p) : Cnt (σ.more p) (cs ++ [c]) := fun t => by
  rw [List.countP_append, ← h t]
  unfold cntOf
  show (match σ.plc t with | some q => upd σ.cps p (σ.cps p + 1) q | none => 0) = _
  by_cases e : kt c = t
  · subst e
    rw [he]
    simp [upd_same]
  · have : [c].countP (fun d => decide (kt d = t)) = 0 := by simp [e]
    rw [this]
    cases hq : σ.plc t with
    | none => rfl
    | some q =>
      have hne : q ≠ p := fun z => e (by rw [z] at hq; rw [((hp _ _).1 hq).2.2, ((hp _ _).1 he).2.2])
      simp only [upd_ne _ _ _ hne]; rfl
end

/-! ### A clause more -/
def updP (f : List UInt8 → Option Nat) (t : List UInt8) (p : Nat) : List UInt8 → Option Nat := fun k => if k = t then some p else f k
def St.new (σ : St) (ls : List Int) : St := { σ with N := σ.N + 1, lits := upd σ.lits σ.N ls, cps := upd σ.cps σ.N 1, plc := updP σ.plc (kt ls) σ.N }
theorem PlcOk.new {σ : St} (h : PlcOk σ) {ls : List Int} (hn : σ.plc (kt ls) = none) : PlcOk (σ.new ls) := fun t p => by
  show updP σ.plc (kt ls) σ.N t = some p ↔ p < σ.N + 1 ∧ upd σ.cps σ.N 1 p ≠ 0 ∧ t = kt (upd σ.lits σ.N ls p)
  unfold updP
  by_cases ep : p = σ.N
  · subst ep
    rw [upd_same, upd_same]
    by_cases e : t = kt ls
    · rw [if_pos e]; simp [e]
    · rw [if_neg e]
      refine ⟨fun q => absurd ((h t _).1 q).1 (Nat.lt_irrefl _), fun q => absurd q.2.2 e⟩
  · rw [upd_ne _ _ _ ep, upd_ne _ _ _ ep]
    by_cases e : t = kt ls
    · rw [if_pos e]
      refine ⟨fun q => absurd (Option.some.inj q).symm ep, fun q => ?_⟩
      have : σ.plc t = some p := (h t p).2 ⟨by omega, q.2.1, q.2.2⟩
      rw [e, hn] at this; cases this
    · rw [if_neg e, h t p]
      exact ⟨fun q => ⟨by omega, q.2⟩, fun q => ⟨by omega, q.2⟩⟩
theorem Cnt.new {σ : St} {cs : List (List Int)} (h : Cnt σ cs) (hp : PlcOk σ) {ls c : List Int} (hc : kt ls = kt c) (hn : σ.plc (kt ls) = none) : Cnt (σ.new ls) (cs ++ [c]) := fun t => by
  rw [List.countP_append, ← h t]
  unfold cntOf
  show (match updP σ.plc (kt ls) σ.N t with | some q => upd σ.cps σ.N 1 q | none => 0) = _
  unfold updP
  by_cases e : t = kt ls
  · subst e
    rw [if_pos rfl, hn]
    simp [upd_same, hc]
  · rw [if_neg e]
    have : [c].countP (fun d => decide (kt d = t)) = 0 := by simp; exact fun z => e (by rw [← z, hc])
    rw [this]
    cases hq : σ.plc t with
    | none => rfl
    | some q =>
      have hne : q ≠ σ.N := fun z => by have := ((hp _ _).1 hq).1; omega
      simp only [upd_ne _ _ _ hne]; rfl

theorem new_ins {σ : St} (ls ls' : List Int) : (σ.new ls).lay σ.N ls' = { σ.new ls with lits := upd σ.lits σ.N ls' } := by
  unfold St.lay St.new
  congr 1
  funext k; simp only [upd]; split <;> rfl
/-- Installed, but not applied. -/
theorem Base.new {σ : St} (h : Base σ fun _ => False) {ls ls' : List Int} (hp : ls'.Perm ls) (hnd : ls.Nodup) (hL : ∀ m ∈ ls, Lt σ.V m) (hlen : ls.length ≤ 1000) : Base ((σ.new ls).ins σ.N ls') (fun q => False ∨ q = σ.N) := by
  have hcp : ∀ q, q < σ.N → upd σ.cps σ.N 1 q = σ.cps q := fun q hq => upd_ne _ _ _ (by omega)
  have hlt : ∀ q, q < σ.N → upd σ.lits σ.N ls' q = σ.lits q := fun q hq => upd_ne _ _ _ (by omega)
  have hls : upd σ.lits σ.N ls' σ.N = ls' := upd_same _ _ _
  have hndl : ls'.Nodup := hp.nodup_iff.2 hnd
  have key : ∀ (wat : Int → List Nat) (sh : List Nat), Wts { σ.new ls with lits := upd σ.lits σ.N ls' } wat → (∀ p ∈ sh, p < σ.N + 1 ∧ (upd σ.lits σ.N ls' p).length < 2) → (∀ p, p < σ.N + 1 → upd σ.cps σ.N 1 p ≠ 0 → (upd σ.lits σ.N ls' p).length < 2 → p ∈ sh) → sh.Nodup →
      Base { σ.new ls with lits := upd σ.lits σ.N ls', wat := wat, sh := sh } (fun q => False ∨ q = σ.N) := by
    intro wat sh hw h1 h2 h3
    refine ⟨⟨h.t.lt, h.t.nd, h.t.val, h.t.con, h.t.head⟩, ⟨fun p hq => ?_, fun p hq m hm => ?_, fun p hq => ?_⟩, ⟨hw.entr, hw.has, hw.uniq⟩, fun hs i l hi => ?_, fun e => ?_, fun e => ⟨fun q hq hc m hw' he hn => ?_, (h.h e).2⟩, h1, h2, h3, fun e q hq hc hl he => ?_⟩
    · show (upd σ.lits σ.N ls' p).Nodup
      by_cases e : p = σ.N
      · subst e; rw [hls]; exact hndl
      · have hq : p < σ.N + 1 := hq
        rw [hlt p (by omega)]; exact h.c.nd p (by omega)
    · have hm : m ∈ upd σ.lits σ.N ls' p := hm
      have hq : p < σ.N + 1 := hq
      by_cases e : p = σ.N
      · subst e; rw [hls] at hm; exact hL m (hp.mem_iff.1 hm)
      · rw [hlt p (by omega)] at hm; exact h.c.lt p (by omega) m hm
    · show (upd σ.lits σ.N ls' p).length ≤ 1000
      have hq : p < σ.N + 1 := hq
      by_cases e : p = σ.N
      · subst e; rw [hls, hp.length_eq]; exact hlen
      · rw [hlt p (by omega)]; exact h.c.len p (by omega)
    · rcases h.r hs i l hi with q | ⟨q, p1, p2, p3, p4, p5, p6⟩
      · exact Or.inl q
      · refine Or.inr ⟨q, p1, by show q < σ.N + 1; omega, by show upd σ.cps σ.N 1 q ≠ 0; rw [hcp q p2]; exact p3, ?_, ?_, ?_⟩
        · show 0 < (upd σ.lits σ.N ls' q).length; rw [hlt q p2]; exact p4
        · show (upd σ.lits σ.N ls' q)[0]! = l; rw [hlt q p2]; exact p5
        · show ∀ m ∈ upd σ.lits σ.N ls' q, m ≠ l → -m ∈ σ.asg.take i; rw [hlt q p2]; exact p6
    · obtain ⟨q, q1, q2, q3⟩ := h.cf e
      refine ⟨q, q1, by show q < σ.N + 1; omega, fun hs => ⟨by show upd σ.cps σ.N 1 q ≠ 0; rw [hcp q q2]; exact (q3 hs).1, ?_⟩⟩
      show ∀ m ∈ upd σ.lits σ.N ls' q, -m ∈ σ.asg; rw [hlt q q2]; exact (q3 hs).2
    · have hq : q < σ.N + 1 := hq
      have hne : q ≠ σ.N := fun z => he (Or.inr z)
      have hc : upd σ.cps σ.N 1 q ≠ 0 := hc
      rw [hcp q (by omega)] at hc
      have hw2 : W2 σ q m := by
        have := hw'; unfold W2 at this ⊢
        change 2 ≤ (upd σ.lits σ.N ls' q).length ∧ (m = (upd σ.lits σ.N ls' q)[0]! ∨ m = (upd σ.lits σ.N ls' q)[1]!) at this
        rw [hlt q (by omega)] at this; exact this
      obtain ⟨o, o1, o2⟩ := (h.h e).1 q (by omega) hc m hw2 (fun z => z) hn
      exact ⟨o, by show o ∈ upd σ.lits σ.N ls' q; rw [hlt q (by omega)]; exact o1, o2⟩
    · have hq : q < σ.N + 1 := hq
      have hne : q ≠ σ.N := fun z => he (Or.inr z)
      have hc : upd σ.cps σ.N 1 q ≠ 0 := hc
      have hl : (upd σ.lits σ.N ls' q).length < 2 := hl
      rw [hcp q (by omega)] at hc
      rw [hlt q (by omega)] at hl
      obtain ⟨o, o1, o2⟩ := h.un e q (by omega) hc hl (fun z => z)
      exact ⟨o, by show o ∈ upd σ.lits σ.N ls' q; rw [hlt q (by omega)]; exact o1, o2⟩
  have w2o : ∀ q m, q < σ.N → (W2 { σ.new ls with lits := upd σ.lits σ.N ls' } q m ↔ W2 σ q m) := fun q m hq => by
    unfold W2
    show 2 ≤ (upd σ.lits σ.N ls' q).length ∧ (m = (upd σ.lits σ.N ls' q)[0]! ∨ m = (upd σ.lits σ.N ls' q)[1]!) ↔ _
    rw [hlt q hq]
  have w2n : ∀ m, W2 { σ.new ls with lits := upd σ.lits σ.N ls' } σ.N m ↔ 2 ≤ ls'.length ∧ (m = ls'[0]! ∨ m = ls'[1]!) := fun m => by
    unfold W2
    show 2 ≤ (upd σ.lits σ.N ls' σ.N).length ∧ (m = (upd σ.lits σ.N ls' σ.N)[0]! ∨ m = (upd σ.lits σ.N ls' σ.N)[1]!) ↔ _
    rw [hls]
  have sh1o : ∀ p ∈ σ.sh, p < σ.N + 1 ∧ (upd σ.lits σ.N ls' p).length < 2 := fun p hp' => by
    have := h.sh1 p hp'; rw [hlt p this.1]; exact ⟨by omega, this.2⟩
  unfold St.ins
  by_cases hl2 : ls'.length < 2
  · rw [if_pos hl2, new_ins]
    refine key σ.wat (σ.sh ++ [σ.N]) ⟨fun m hm q hq => ?_, fun q hq hc m hw => ?_, h.w.uniq⟩ (fun p hp' => ?_) (fun p hq hc hl => ?_) ?_
    · have := h.w.entr m hm q hq
      exact ⟨by show q < σ.N + 1; omega, (w2o q m this.1).2 this.2⟩
    · have hq : q < σ.N + 1 := hq
      by_cases e : q = σ.N
      · subst e; have := ((w2n m).1 hw).1; omega
      · have hc : upd σ.cps σ.N 1 q ≠ 0 := hc
        rw [hcp q (by omega)] at hc
        exact h.w.has q (by omega) hc m ((w2o q m (by omega)).1 hw)
    · rcases List.mem_append.1 hp' with q | q
      · exact sh1o p q
      · rw [List.mem_singleton.1 q, hls]; exact ⟨by omega, hl2⟩
    · by_cases e : p = σ.N
      · subst e; simp
      · rw [hcp p (by omega)] at hc; rw [hlt p (by omega)] at hl
        exact List.mem_append_left _ (h.sh2 p (by omega) hc hl)
    · rw [List.nodup_append]
      exact ⟨h.sh3, by simp, fun x hx y hy z => by have := (h.sh1 x hx).1; rw [List.mem_singleton.1 hy] at z; omega⟩
  · rw [if_neg hl2, new_ins]
    have hne : ls'[0]! ≠ ls'[1]! := nodup_ne hndl (by omega) (by omega) (by decide)
    have hx : ∀ m, updI (updI σ.wat ls'[0]! (σ.wat ls'[0]! ++ [σ.N])) ls'[1]! ((updI σ.wat ls'[0]! (σ.wat ls'[0]! ++ [σ.N])) ls'[1]! ++ [σ.N]) m = if m = ls'[0]! ∨ m = ls'[1]! then σ.wat m ++ [σ.N] else σ.wat m := fun m => by
      by_cases e1 : m = ls'[1]!
      · subst e1; rw [updI_same, updI_ne _ _ _ hne.symm, if_pos (Or.inr rfl)]
      · rw [updI_ne _ _ _ e1]
        by_cases e0 : m = ls'[0]!
        · subst e0; rw [updI_same, if_pos (Or.inl rfl)]
        · rw [updI_ne _ _ _ e0, if_neg (fun z => z.elim e0 e1)]
    refine key (updI (updI σ.wat ls'[0]! (σ.wat ls'[0]! ++ [σ.N])) ls'[1]! ((updI σ.wat ls'[0]! (σ.wat ls'[0]! ++ [σ.N])) ls'[1]! ++ [σ.N])) σ.sh ⟨fun m hm q hq => ?_, fun q hq hc m hw => ?_, fun m hm => ?_⟩ sh1o (fun p hq hc hl => ?_) h.sh3
    · rw [hx m] at hq
      by_cases e : m = ls'[0]! ∨ m = ls'[1]!
      · rw [if_pos e] at hq
        rcases List.mem_append.1 hq with z | z
        · have := h.w.entr m hm q z
          exact ⟨by show q < σ.N + 1; omega, (w2o q m this.1).2 this.2⟩
        · rw [List.mem_singleton.1 z]; exact ⟨by show σ.N < σ.N + 1; omega, (w2n m).2 ⟨by omega, e⟩⟩
      · rw [if_neg e] at hq
        have := h.w.entr m hm q hq
        exact ⟨by show q < σ.N + 1; omega, (w2o q m this.1).2 this.2⟩
    · rw [hx m]
      have hq : q < σ.N + 1 := hq
      by_cases e : q = σ.N
      · subst e; rw [if_pos ((w2n m).1 hw).2]; simp
      · have hc : upd σ.cps σ.N 1 q ≠ 0 := hc
        rw [hcp q (by omega)] at hc
        have := h.w.has q (by omega) hc m ((w2o q m (by omega)).1 hw)
        split
        · exact List.mem_append_left _ this
        · exact this
    · rw [hx m]
      split
      · rw [List.nodup_append]
        exact ⟨h.w.uniq m hm, by simp, fun x hx' y hy z => by have := (h.w.entr m hm x hx').1; rw [List.mem_singleton.1 hy] at z; omega⟩
      · exact h.w.uniq m hm
    · by_cases e : p = σ.N
      · subst e; rw [hls] at hl; exact absurd hl hl2
      · rw [hcp p (by omega)] at hc; rw [hlt p (by omega)] at hl
        exact h.sh2 p (by omega) hc hl
end Go.Proofs.YthpamogomfleoaaDoor.Rc
/- A record more, a place more, in memory. -/
namespace Go.Proofs.YthpamogomfleoaaDoor.Rc
open Go Go.RowKit Go.Lib

/-- A block of the call's own becomes one of the checker's. -/
theorem Mem.adopt {w : World} {Y : Lay} {σ : St} {x : Option Int} {g : Nat} (h : Mem w Y σ x) (hg : Y.ρ g = .old) (hlt : g < w.heap.size) (r : Role) : Mem w { Y with ρ := upd Y.ρ g r } σ x := by
  have E : ∀ k, Y.ρ k ≠ .old → upd Y.ρ g r k = Y.ρ k := fun k hk => upd_ne _ _ _ (fun e => hk (by rw [e, hg]))
  have own : ∀ {r' : Role} {ty : TypeId} {sz : Nat} {v : Value} {n : Nat} {xs : List Value}, r' ≠ .old → OwnR w Y.ρ r' ty sz v n xs → OwnR w (upd Y.ρ g r) r' ty sz v n xs :=
    fun hr' ho => ⟨ho.1, fun q hq => by rw [E q (by rw [ho.2 q hq]; exact hr')]; exact ho.2 q hq⟩
  have arr : ∀ {r' : Role} {ty : TypeId} {v : Value} {n : Nat} {f : Nat → Value}, r' ≠ .old → ArrR w Y.ρ r' ty v n f → ArrR w (upd Y.ρ g r) r' ty v n f :=
    fun hr' ⟨b, h1, h2, h3⟩ => ⟨b, h1, h2, by rw [E b (by rw [h3]; exact hr')]; exact h3⟩
  intro f; have K := h f; cases f
  case chk => exact ⟨K.1, by show upd Y.ρ g r Y.s = _; rw [E _ (by rw [K.2.1]; simp)]; exact K.2.1, K.2.2.1, fun k hk => by show upd Y.ρ g r k = _; rw [upd_ne _ _ _ (by omega)]; exact K.2.2.2 k hk⟩
  case asg => exact own (by simp) K
  case hol => exact arr (by simp) K
  case rsn => exact arr (by simp) K
  case rcs => exact own (by simp) K
  case lts =>
    intro p hp
    obtain ⟨a, c, h1, h2⟩ := K p hp
    refine ⟨a, c, h1, ?_⟩
    rcases h2 with h2 | ⟨g', ar, h3, h4, h5, h6⟩
    · exact Or.inl h2
    · exact Or.inr ⟨g', ar, h3, h4, by show upd Y.ρ g r g' = _; rw [E _ (by rw [h5]; simp)]; exact h5, h6⟩
  case plc => obtain ⟨B, D, h1, h2, h3, h4⟩ := K; exact ⟨B, D, h1, by show upd Y.ρ g r B = _; rw [E _ (by rw [h2]; simp)]; exact h2, h3, h4⟩
  case sht => exact own (by simp) K
  case wat => exact arr (by simp) K
  case wls => exact fun n h0 h1 => own (by simp) (K n h0 h1)
  all_goals exact K

def sNew : Role → Bool | .map => true | .rcs => true | .chk => true | _ => false
/-- The place is laid into the map, then the record is appended, then the slice is stored. -/
theorem Mem.newRec {w w1 w2 : World} {Y : Lay} {σ : St} {B g cap : Nat} {D : DataW Unit} {t : List UInt8} {ls : List Int} {lv : Value} (h : Mem w Y σ none)
    (hB : Y.hd 6 = .map (some B)) (hBr : Y.ρ B = .map) (hm : w1.ownsMap Tryd.prog 9 (plainElem Tryd.prog 3) B (σ.N + 1) D) (hg1 : w.grownBy w1 (some B)) (hD : Plc D (updP σ.plc t σ.N))
    (G : Gr w1 w2 Y.ρ .rcs (Y.hd 5) g) (hgs : g ≠ Y.s)
    (ho : w2.ownsRow 0 72 2 (.slice (some ⟨g, 0, none⟩) (σ.N + 1) cap) (σ.N + 1) (recC Y.litV σ.cps σ.N ++ [lv, encN 1]))
    (hl : LitR w Y.ρ σ.N lv ls) :
    Mem (w2.setCell ⟨Y.s, 5, none⟩ (.slice (some ⟨g, 0, none⟩) (σ.N + 1) cap)) { Y with hd := upd Y.hd 5 (.slice (some ⟨g, 0, none⟩) (σ.N + 1) cap), ρ := newρ Y.ρ g .rcs, litV := upd Y.litV σ.N lv } { σ with N := σ.N + 1, lits := upd σ.lits σ.N ls, cps := upd σ.cps σ.N 1, plc := updP σ.plc t σ.N } none
    ∧ Nxt sNew w Y (w2.setCell ⟨Y.s, 5, none⟩ (.slice (some ⟨g, 0, none⟩) (σ.N + 1) cap)) { Y with hd := upd Y.hd 5 (.slice (some ⟨g, 0, none⟩) (σ.N + 1) cap), ρ := newρ Y.ρ g .rcs, litV := upd Y.litV σ.N lv } := by
  have hslt := h.slt
  have hsB : Y.s ≠ B := fun e => by have := h.srole; rw [e, hBr] at this; cases this
  have F1 : Frm Y.ρ sNew w w1 := Frm.grown hg1 (fun k hk _ => by rw [← Option.some.inj hk, hBr]; rfl)
  have F2 : Frm Y.ρ sNew w w2 := F1.trans (G.frm rfl) (fun _ _ => rfl)
  have hne5 : (Y.hd 5).ownBlock ≠ some Y.s := fun e => by have := G.role _ e; rw [h.srole] at this; cases this
  have hsz1 : w.heap.size ≤ w1.heap.size := hg1.size
  have hs2 : w2.heap[Y.s]? = w.heap[Y.s]? := (G.grow.block _ (by omega) (fun e => hne5 e.symm)).trans (hg1.block _ hslt (fun e => hsB (Option.some.inj e)))
  have F : Frm Y.ρ sNew w (w2.setCell ⟨Y.s, 5, none⟩ (.slice (some ⟨g, 0, none⟩) (σ.N + 1) cap)) := F2.set (fun _ => by rw [h.srole]; rfl) _
  have ext : ∀ k, k < w.heap.size → newρ Y.ρ g .rcs k = Y.ρ k := fun k hk => G.ext k (by omega)
  have dom : ∀ k, (w2.setCell ⟨Y.s, 5, none⟩ (.slice (some ⟨g, 0, none⟩) (σ.N + 1) cap)).heap.size ≤ k → newρ Y.ρ g .rcs k = .old := fun k hk => by
    have hk : w2.heap.size ≤ k := by simpa [World.setCell] using hk
    unfold newρ
    rw [upd_ne _ _ _ (by have := G.lt; omega)]
    exact (h .chk).2.2.2 k (by have := F2.size; omega)
  have hBlt : B < w1.heap.size := hm.lt
  have hgB : g ≠ B := fun e => by
    rcases G.at' with q | q
    · have := G.role _ q; rw [e, hBr] at this; cases this
    · omega
  refine ⟨?_, F, rfl, ext⟩
  intro f; have KE := (h f).keep F ext dom; cases f
  case chk => exact ⟨(h .chk).1.of_heap hs2 |>.set 5 _, by show newρ Y.ρ g .rcs Y.s = _; rw [ext _ hslt]; exact h.srole, h.nle, dom⟩
  case rcs =>
    refine ⟨?_, fun k hk => ?_⟩
    · show World.ownsRow _ 0 _ 2 (.slice (some ⟨g, 0, none⟩) (σ.N + 1) cap) (σ.N + 1) (recC (upd Y.litV σ.N lv) (upd σ.cps σ.N 1) σ.N ++ [upd Y.litV σ.N lv σ.N, encN (upd σ.cps σ.N 1 σ.N)])
      rw [upd_same, upd_same, recC_congr (lv' := Y.litV) (cp' := σ.cps) (fun p hp => upd_ne _ _ _ (by omega)) (fun p hp => upd_ne _ _ _ (by omega))]
      exact owns_of_heap ho fun k hk => Below.heap_setCell _ _ _ _ (by rw [← ownB hk]; exact hgs)
    · obtain rfl : g = k := ownB hk
      exact upd_same _ _ _
  case lts =>
    intro p hp
    by_cases e : p = σ.N
    · subst e
      have := hl.keep F (by rfl) ext
      show LitR _ (newρ Y.ρ g .rcs) σ.N (upd Y.litV σ.N lv σ.N) (upd σ.lits σ.N ls σ.N)
      rw [upd_same, upd_same]; exact this
    · have hp : p < σ.N + 1 := hp
      have := (h .lts p (by omega)).keep F (by rfl) ext
      show LitR _ (newρ Y.ρ g .rcs) p (upd Y.litV σ.N lv p) (upd σ.lits σ.N ls p)
      rw [upd_ne _ _ _ e, upd_ne _ _ _ e]; exact this
  case plc =>
    refine ⟨B, D, hB, ?_, ?_, hD⟩
    · show newρ Y.ρ g .rcs B = _
      unfold newρ; rw [upd_ne _ _ _ (Ne.symm hgB)]; exact hBr
    · refine map_of_heap (map_of_heap hm (G.grow.block _ hBlt fun e => ?_)) (Below.heap_setCell _ _ _ _ (Ne.symm hsB))
      have := G.role _ e.symm; rw [hBr] at this; cases this
  all_goals exact KE (by first | exact True.intro | rfl | exact fun _ => rfl)

/-! ### The map's datum -/
theorem Plc.put {D : DataW Unit} {f : List UInt8 → Option Nat} (h : Plc D f) (t : List UInt8) (p : Nat) : Plc (D.put (.string t) (.lit (.int .i64 (p : Int)))) (updP f t p) := by
  obtain ⟨hm, hk⟩ := h
  refine ⟨?_, fun k => ?_⟩
  · obtain ⟨es, rfl⟩ := hm; exact ⟨_, rfl⟩
  · unfold updP
    by_cases e : k = t
    · subst e
      rw [if_pos rfl]
      refine ⟨fun q hq => ?_, fun hq => by cases hq⟩
      obtain rfl : p = q := Option.some.inj hq
      exact ⟨Maps.has_put_same hm (by exact True.intro) _, Maps.atKey_put_same hm (by exact True.intro) _ _⟩
    · rw [if_neg e]
      have hne : (Lit.string k) ≠ Lit.string t := fun z => e (by simpa using z)
      rw [Maps.has_put_other hne, Maps.atKey_put_other hne]
      exact hk k
end Go.Proofs.YthpamogomfleoaaDoor.Rc
