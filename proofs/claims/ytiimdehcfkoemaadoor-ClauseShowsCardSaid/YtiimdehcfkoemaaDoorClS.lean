/- The contract of clause.words: a text's words. -/
import Derived.Test.YtiimdehcfkoemaaDoorClR
import Derived.Test.YtiimdehcfkoemaaDoorClFields
namespace Go.Proofs.YtiimdehcfkoemaaDoor.Cl
open Go Go.RowKit Go.Lib Go.Sort

theorem info_string : (Tryd.prog.info? 9).map (fun i => (i.zero, i.size, i.bytes)) = some (some (.string ⟨#[]⟩), 1, 16) := by kernel_rfl
theorem gMaxLen : Tryd.prog.globalNamed "internal/bytealg.MaxLen" = some 1 := by kernel_rfl
/-- The library's own number of a machine: whatever it is, it is in memory. -/
def MaxLenIn (w : World) : Prop := ∃ m : Int, w.cell? ⟨1, 0, none⟩ = some (.int .i64 m)
theorem MaxLenIn.below {w w' : World} (h : MaxLenIn w) (hb : Below w.heap.size w w') : MaxLenIn w' := by
  obtain ⟨m, h⟩ := h
  have hlt : 1 < w.heap.size := by
    unfold World.cell? at h
    rcases Nat.lt_or_ge 1 w.heap.size with h' | h'
    · exact h'
    · rw [Array.getElem?_eq_none h'] at h; cases h
  exact ⟨m, (hb.cell (p := ⟨1, 0, none⟩) hlt).trans h⟩

theorem enters_sep : ∀ args w, (callFunc 65 args).run Tryd.prog w = .ok (.enter 65 args) w := enters_of Tryd.func65 (by kernel_rfl) rfl

set_option maxHeartbeats 1000000 in
theorem sep_pred (w : World) : PredAt Tryd.prog 65 #[] encR sepN w := fun W r _ => by
  unfold FnGives
  have h0 : ((r : Int) == 32) = (r == 32) := by rw [Bool.eq_iff_iff, beq_iff_eq, beq_iff_eq]; omega
  have h1 : ((r : Int) == 9) = (r == 9) := by rw [Bool.eq_iff_iff, beq_iff_eq, beq_iff_eq]; omega
  have h2 : ((r : Int) == 13) = (r == 13) := by rw [Bool.eq_iff_iff, beq_iff_eq, beq_iff_eq]; omega
  have h3 : ((r : Int) == 10) = (r == 10) := by rw [Bool.eq_iff_iff, beq_iff_eq, beq_iff_eq]; omega
  unfold sepN
  cases e0 : (r == 32) <;> cases e1 : (r == 9) <;> cases e2 : (r == 13) <;> cases e3 : (r == 10)
  all_goals
    rw [e0] at h0
    rw [e1] at h1
    rw [e2] at h2
    rw [e3] at h3
    clear e0 e1 e2 e3
    go_enter Tryd.func65, Tryd.ntmps65
    go_wp2
    go_ret
    exact ⟨rfl, 0, rfl⟩

theorem fold_count : ∀ (l w : List UInt8) (o : List (List UInt8)), (l.foldl fstep (w, o)).2.length ≤ o.length + l.length
  | [], w, o => by simp
  | b :: l, w, o => by
    rw [List.foldl_cons]
    have h := fold_count l (fstep (w, o) b).1 (fstep (w, o) b).2
    have h2 : (fstep (w, o) b).2.length ≤ o.length + 1 := by
      unfold fstep; split
      · simp only; split <;> simp
      · simp
    simp only [List.length_cons]
    have e : ((fstep (w, o) b).1, (fstep (w, o) b).2) = fstep (w, o) b := rfl
    rw [e] at h
    omega
theorem fields_count (l : List UInt8) : (fieldsL l).length ≤ l.length + 1 := by
  have := fold_count (l ++ [10]) [] []
  rw [List.foldl_append] at this
  simpa [fieldsL] using this
theorem lineWords_count (l : List UInt8) : (lineWords l).length ≤ l.length + 1 := by
  unfold lineWords; split
  · simp
  · exact fields_count l
theorem flat_count : ∀ ls : List (List UInt8), (ls.flatMap lineWords).length ≤ (ls.map fun l => l.length + 1).sum
  | [] => by simp
  | l :: ls => by
    have := flat_count ls
    have := lineWords_count l
    simp only [List.flatMap_cons, List.length_append, List.map_cons, List.sum_cons]; omega
theorem split_count : ∀ l : List UInt8, ((splitL l).map fun x => x.length + 1).sum = l.length + 1
  | [] => by simp [splitL]
  | b :: r => by
    have ih := split_count r
    unfold splitL
    split
    · simp only [List.map_cons, List.sum_cons, List.length_nil, ih, List.length_cons]; omega
    · cases h : splitL r with
      | nil => exact absurd h (splitL_ne r)
      | cons x t =>
        rw [h] at ih
        simp only [List.map_cons, List.sum_cons, List.length_cons] at ih ⊢
        omega
theorem words_count (l : List UInt8) (k : Nat) : (((splitL l).take k).flatMap lineWords).length ≤ l.length + 1 := by
  have h1 := flat_count (splitL l)
  rw [split_count] at h1
  have h2 : ((splitL l).flatMap lineWords).length = (((splitL l).take k).flatMap lineWords).length + (((splitL l).drop k).flatMap lineWords).length := by
    rw [← List.length_append, ← List.flatMap_append, List.take_append_drop]
  omega
theorem hasPrefix_c (l : List UInt8) : Lib.hasPrefix l [99] = decide (l.head? = some 99) := by
  unfold Lib.hasPrefix
  cases l with
  | nil => simp [List.isPrefixOf]
  | cons b t => simp only [List.isPrefixOf, List.head?_cons, Bool.and_true, Option.some.injEq]; rw [Bool.eq_iff_iff, beq_iff_eq, decide_eq_true_eq]; exact eq_comm

theorem own_strings {w : World} {base : Nat} {v : Value} {m : List ByteArray} (h : w.ownsRow base 9 1 v m.length (m.map Value.string)) : ∃ a c, v = .slice a m.length c ∧ RowIn Value.string w a m ∧ m.length ≤ c := by
  rcases h.2 with ⟨rfl, h0⟩ | ⟨g, cap, cur, rfl, _, hg, hcap, _, _, ht⟩
  · rw [List.eq_nil_of_length_eq_zero h0]; exact ⟨none, 0, rfl, Or.inl rfl, Nat.le_refl _⟩
  · refine ⟨_, cap, rfl, Or.inr ⟨g, 0, rfl, (Array.getElem?_eq_some_iff.1 hg).1, fun j hj => ?_⟩, hcap⟩
    have := h.cells (g := g) (by simp [Value.ownBlock]) j (.string m[j]!) (by rw [List.getElem?_map, getElem!_pos m j hj, List.getElem?_eq_getElem hj]; rfl)
    rwa [Addr.add_lit] at this

/-- Words in memory. -/
def Worded (w : World) (L : List (List UInt8)) (e : Ending) (w' : World) : Prop :=
  ∃ a c ws, e = .returned (.slice a ws.length c) ∧ RowIn Value.string w' a ws ∧ ws.map (·.data.toList) = L ∧ ws.length ≤ c ∧ Below w.heap.size w w'

theorem ownsRow_later {w w' : World} {base size n : Nat} {e : TypeId} {v : Value} {xs : List Value} (h : w.ownsRow base e size v n xs) (hb : Below w.heap.size w w') : w'.ownsRow base e size v n xs := by
  refine ⟨h.1, ?_⟩
  rcases h.2 with h | ⟨g, cap, cur, e1, e2, e3, rest⟩
  · exact Or.inl h
  · exact Or.inr ⟨g, cap, cur, e1, e2, (hb.block g (Array.getElem?_eq_some_iff.1 e3).1).trans e3, rest⟩
theorem alloc_strings {ss : List ByteArray} (w : World) (T : TypeId) : RowIn Value.string (w.alloc (.cells (ss.map Value.string).toArray T)) (some ⟨w.heap.size, 0, none⟩) ss := by
  refine Or.inr ⟨w.heap.size, 0, rfl, by simp, fun j hj => ?_⟩
  rw [Lib.cell_of_heap (b := w.heap.size) (cs := (ss.map Value.string).toArray) (T := T) (fr := (0, 0)) (by unfold World.alloc; simp)]
  simp [hj]

set_option maxHeartbeats 4000000 in
set_option maxRecDepth 100000 in
theorem words_any (s : ByteArray) (w : World) (hs : s.size ≤ 100000) (hM : MaxLenIn w) :
    Calls Tryd.prog 49 #[.string s] w (Worded w (wordsL s.data.toList)) := by
  obtain ⟨m, hm⟩ := hM
  have HSP := Lib.hid (Tryd.strings_Split s ⟨#[10]⟩ m w (by omega) hm (by decide))
  have hls := split_data s
  have hll := Lib.splitB_all ⟨#[10]⟩ (by decide) 0 (Lib.countB s ⟨#[10]⟩) s rfl
  generalize Lib.splitB ⟨#[10]⟩ 0 (Lib.countB s ⟨#[10]⟩) s = ls at *
  rw [← hll] at HSP
  clear hll
  have HLS := Lib.hid hls
  have hln : ls.length ≤ 100001 := by
    have h1 : ls.length = (splitL s.data.toList).length := by rw [← hls, List.length_map]
    have h2 := split_count s.data.toList
    have h3 : ∀ L : List (List UInt8), L.length ≤ (L.map fun x => x.length + 1).sum := by
      intro L; induction L with
      | nil => simp
      | cons x t ih => simp only [List.length_cons, List.map_cons, List.sum_cons]; omega
    have h4 := h3 (splitL s.data.toList)
    have h5 : s.data.toList.length = s.size := by rw [Array.length_toList]; rfl
    omega
  have hlb : Hid (∀ l ∈ ls, l.size ≤ 100001) := fun l hl => by
    have h1 : l.data.toList ∈ splitL s.data.toList := by rw [← hls]; exact List.mem_map_of_mem hl
    have h2 := split_count s.data.toList
    have h3 : ∀ (L : List (List UInt8)) x, x ∈ L → x.length + 1 ≤ (L.map fun x => x.length + 1).sum := by
      intro L; induction L with
      | nil => intro x hx; cases hx
      | cons y t ih =>
        intro x hx
        simp only [List.map_cons, List.sum_cons]
        rcases List.mem_cons.1 hx with rfl | hx
        · omega
        · have := ih x hx; omega
    have h4 := h3 _ _ h1
    have h5 : s.data.toList.length = s.size := by rw [Array.length_toList]; rfl
    have h6 : l.data.toList.length = l.size := by rw [Array.length_toList]; rfl
    omega
  have HWC : Hid (∀ k, (((splitL s.data.toList).take k).flatMap lineWords).length ≤ 100001) := fun k => by
    have := words_count s.data.toList k
    have h5 : s.data.toList.length = s.size := by rw [Array.length_toList]; rfl
    omega
  obtain ⟨i0, hi, hz0, hz1, hz2⟩ := info_parts info_string
  clear hls hs
  go_enter Tryd.func49, Tryd.ntmps49
  go_wp2_with fail
  refine HSP.out.mono ?_
  rintro e w1 ⟨rfl, hw1⟩
  have hrow := alloc_strings (ss := ls) w 9
  rw [← hw1] at hrow
  have hB1 : Below w.heap.size w w1 := by rw [hw1]; exact (Below.refl _ _).alloc (Nat.le_refl _) _
  have HROW := Lib.hid hrow
  clear hw1 HSP hrow
  go_wp2_with fail
  go_loopw [3, 5, 9] (fun s3 _ s9 wr => ∃ (k : Nat) (O : List ByteArray), k ≤ ls.length ∧ s9 = .int .i64 k ∧ Hid (wr.ownsRow w1.heap.size 9 1 s3 O.length (O.map Value.string)) ∧ Hid (O.map (·.data.toList) = ((splitL s.data.toList).take k).flatMap lineWords) ∧ Below w1.heap.size w1 wr) (fun _ _ s9 _ => ls.length - (intOf s9).toNat)
  case atStart => exact ⟨0, [], Nat.zero_le _, rfl, World.ownsRow_nil _ _ _ _, by show _ = _; simp, Below.refl _ _⟩
  case round =>
    obtain ⟨k, O, hk, rfl, HO, HOD, hB⟩ := hrel
    obtain ⟨wo, rfl⟩ : ∃ wo : World, wo = wr := ⟨_, rfl⟩
    have hol : O.length ≤ 100001 := by
      have h1 := HWC.out k
      rw [← HOD.out, List.length_map] at h1; exact h1
    by_cases hlt : k < ls.length
    · have hltz : (k : Int) < (ls.length : Int) := by omega
      obtain ⟨b, off, hae, hb, hc⟩ := (HROW.out.below hB).pos hlt
      have c1 : wo.cell? ⟨w.heap.size, k, none⟩ = some (.string ls[k]!) := by
        have h := hc k hlt
        simp only [Option.some.injEq, Addr.mk.injEq, and_true] at hae
        rw [← hae.1, ← hae.2, Nat.zero_add] at h
        exact h
      have hlk := hlb.out ls[k]! (getElem!_mem hlt)
      have HD : Hid ((splitL s.data.toList).take (k + 1) = (splitL s.data.toList).take k ++ [ls[k]!.data.toList]) := by
        show _ = _
        have hlt' : k < (splitL s.data.toList).length := by rw [← HLS.out, List.length_map]; exact hlt
        rw [take_succ! hlt']
        have e : (splitL s.data.toList)[k]! = ls[k]!.data.toList := by
          rw [getElem!_pos _ k hlt', getElem!_pos ls k hlt]
          have : (splitL s.data.toList)[k] = (ls.map (·.data.toList))[k]'(by rw [List.length_map]; exact hlt) := by congr 1; exact HLS.out.symm
          rw [this, List.getElem_map]
        rw [e]
      clear hc hae hb
      have hpre := Tryd.strings_HasPrefix ls[k]! ⟨#[99]⟩ wo
      have e99 : (⟨#[99]⟩ : ByteArray).data.toList = [99] := rfl
      rw [e99, hasPrefix_c] at hpre
      by_cases h99 : ls[k]!.data.toList.head? = some 99
      · have HW : Hid (lineWords ls[k]!.data.toList = []) := by show _ = _; unfold lineWords; rw [if_pos h99]
        rw [decide_eq_true h99] at hpre
        clear h99
        generalize ls[k]! = ln at *
        go_wp2_with (go_at_call 63; refine hpre.mono ?_; rintro e w' ⟨rfl, rfl⟩)
        go_roundw
        case rel => exact ⟨k + 1, O, by omega, by go_num, HO, by show _ = _; rw [HD.out, HOD.out, List.flatMap_append]; simp [HW.out], hB⟩
        case measure => simp [intOf]; omega
      · have HW : Hid (lineWords ls[k]!.data.toList = fieldsL ls[k]!.data.toList) := by show _ = _; unfold lineWords; rw [if_neg h99]
        rw [decide_eq_false h99] at hpre
        have HF := Lib.hid (Tryd.strings_FieldsFunc 65 #[] enters_sep sepN ls[k]! wo (by omega) (sep_pred wo))
        have HFE := Lib.hid (goFields_eq ls[k]!)
        clear h99
        generalize ls[k]! = ln at *
        generalize Lib.goFieldsP sepN ln = fs at *
        have hfl : fs.length ≤ 100002 := by
          have h1 := fields_count ln.data.toList
          rw [← HFE.out, List.length_map] at h1
          have h6 : ln.data.toList.length = ln.size := by rw [Array.length_toList]; rfl
          omega
        go_wp2_with (go_at_call 63; refine hpre.mono ?_; rintro e w' ⟨rfl, rfl⟩)
        refine HF.out.mono ?_
        rintro e w2 ⟨A, rfl, hA, hown2, hb2⟩
        have HO2 := Lib.hid (ownsRow_later HO.out hb2)
        have hB2 : Below w1.heap.size w1 w2 := hB.trans (hb2.mono hB.size)
        have HN2 := Lib.hid (fun j u (hj : (fs.map Value.string)[j]? = some u) => hown2.cells (g := A) (by simp [Value.ownBlock]) j u hj)
        have hneq : Hid (∀ k', Value.ownBlock u3 = some k' → w1.heap.size ≤ k') := fun k' hk' => (HO2.out.lt k' hk').1
        clear hown2 HF hpre HO
        go_wp2_with (at_builtin; refine wpList_append_own _ rfl (.tmp 16) (.tmp 18) 63 rfl w1.heap.size 9 i0 (.string ⟨#[]⟩) 1 16 Tryd.underlying63 hi hz0 hz1 hz2 rfl (by decide) _ O.length (O.map Value.string) rfl HO2.out ⟨A, 0, none⟩ fs.length fs.length (fs.map Value.string) rfl ?d1 ?d2 ?d3 ?d4 ?d5 ?d6 ?_)
        case d1 => simp
        case d2 => exact HN2.out
        case d3 => intro u hu; obtain ⟨x, _, rfl⟩ := List.mem_map.1 hu; rfl
        case d4 => unfold maxLen; omega
        case d5 => omega
        case d6 => exact hB2.size
        intro v3 w3 hown3 hgrow3 _
        have hB3 : Below w1.heap.size w1 w3 := hB2.grown hgrow3 hB2.size hneq.out
        have HO3 : Hid (w3.ownsRow w1.heap.size 9 1 v3 (O ++ fs).length ((O ++ fs).map Value.string)) := by
          show World.ownsRow _ _ _ _ _ _ _
          rw [List.length_append, List.map_append]; exact hown3
        clear hown3 hgrow3
        go_wp2_with fail
        go_roundw
        case rel => exact ⟨k + 1, O ++ fs, by omega, by go_num, HO3, by show _ = _; rw [HD.out, List.map_append, HOD.out, HFE.out, List.flatMap_append]; simp [HW.out], hB3⟩
        case measure => simp [intOf]; omega
    · have hltz : ¬ (k : Int) < (ls.length : Int) := by omega
      have hkk : (splitL s.data.toList).take k = splitL s.data.toList := by
        rw [List.take_of_length_le]; rw [← HLS.out, List.length_map]; omega
      have HE : Hid (O.map (·.data.toList) = wordsL s.data.toList) := by show _ = _; rw [HOD.out, hkk]; rfl
      obtain ⟨a, c, hv, hrow, hcap⟩ := own_strings HO.out
      subst hv
      clear hkk HO HOD
      go_wp2
      go_ret
      exact ⟨a, c, O, rfl, hrow, HE.out, hcap, hB1.trans (hB.mono hB1.size)⟩
end Go.Proofs.YtiimdehcfkoemaaDoor.Cl
