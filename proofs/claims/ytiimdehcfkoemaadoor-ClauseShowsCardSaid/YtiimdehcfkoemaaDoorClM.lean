/- The law ClauseBeyond as a contract: variables beyond a model count as false. -/
import Derived.Test.YtiimdehcfkoemaaDoorClL
import Derived.Laws.AppendOwnNone
namespace Go.Proofs.YtiimdehcfkoemaaDoor.Cl
open Go Go.RowKit Go.Lib Go.Sort

theorem info_bool : (Tryd.prog.info? 4).map (fun i => (i.zero, i.size, i.bytes)) = some (some (.bool false), 1, 1) := by kernel_rfl

theorem valB_more (v : Int) (m : List Bool) : valB v (m ++ [false, false, false]) = valB v m := by
  unfold valB
  generalize v.toNat - 1 = i
  by_cases h : i < m.length
  · rw [getElem!_pos _ i (by simp; omega), getElem!_pos m i h, List.getElem_append_left h]
  · rw [getElem!_neg m i h]
    by_cases h2 : i < (m ++ [false, false, false]).length
    · rw [getElem!_pos _ i h2, List.getElem_append_right (by omega)]
      have : ∀ k (h : k < [false, false, false].length), [false, false, false][k] = false := by intro k hk; simp at hk; rcases (show k = 0 ∨ k = 1 ∨ k = 2 by omega) with rfl | rfl | rfl <;> rfl
      exact this _ _
    · rw [getElem!_neg _ i h2]
theorem allB_more (cs : List (List Int)) (m : List Bool) : allB cs (m ++ [false, false, false]) = allB cs m := by
  unfold allB holdsB litB; simp only [valB_more]

theorem own_bools {w : World} {base : Nat} {v : Value} {m : List Bool} (h : w.ownsRow base 4 1 v m.length (m.map Value.bool)) : ∃ a c, v = .slice a m.length c ∧ RowIn Value.bool w a m := by
  rcases h.2 with ⟨rfl, h0⟩ | ⟨g, cap, cur, rfl, _, hg, _, _, _, ht⟩
  · rw [List.eq_nil_of_length_eq_zero h0]; exact ⟨none, 0, rfl, Or.inl rfl⟩
  · refine ⟨_, cap, rfl, Or.inr ⟨g, 0, rfl, (Array.getElem?_eq_some_iff.1 hg).1, fun j hj => ?_⟩⟩
    have := h.cells (g := g) (by simp [Value.ownBlock]) j (.bool m[j]!) (by rw [List.getElem?_map, getElem!_pos m j hj, List.getElem?_eq_getElem hj]; rfl)
    rwa [Addr.add_lit] at this

theorem falses_cells (w3 : World) (T : TypeId) : ∀ j u, [Value.bool false, .bool false, .bool false][j]? = some u → (w3.alloc (.cells #[.bool false, .bool false, .bool false] T)).cell? ((⟨w3.heap.size, 0, none⟩ : Addr).add j) = some u := by
  intro j u hj
  have hh : (w3.alloc (.cells #[.bool false, .bool false, .bool false] T)).heap[w3.heap.size]? = some (.cells #[.bool false, .bool false, .bool false] T (0, 0)) := by unfold World.alloc; simp
  rw [Addr.add_lit, Lib.cell_of_heap hh, Nat.zero_add]
  rcases j with _ | _ | _ | j
  · exact hj
  · exact hj
  · exact hj
  · simp at hj

set_option maxHeartbeats 4000000 in
set_option maxRecDepth 100000 in
theorem ClauseBeyond_yes (a : Option Addr) (c : Nat) (rs : List Row) (ma : Option Addr) (mc : Nat) (m : List Bool) (w : World) (ht : Tab w) (hr : RowsIn w a rs) (hl : rs.length ≤ 9223372036854775807) (hlc : rs.length ≤ c) (hc : c ≤ 9223372036854775807) (hm : RowIn Value.bool w ma m) (hnil : ma = none → mc = 0)
    (hs : smallB (rs.map Row.zs) 40 100000 = true) (hm40 : m.length ≤ 40) :
    Calls Tryd.prog 8 #[.slice a rs.length c, .slice ma m.length mc] w fun e w' => e = .returned (.bool true) ∧ Below w.heap.size w w' := by
  have HT := Lib.hid ht
  have HSM : Hid (∀ w2, Below w.heap.size w w2 → Calls Tryd.prog 17 #[.slice a rs.length c, .int .i64 40, .int .i64 100000] w2 fun e w' => e = .returned (.bool true) ∧ w2 = w') := fun w2 h => by
    have := Small_any a c rs 40 100000 w2 (hr.below h) hlc hc; rwa [hs] at this
  have HA1 : Hid (∀ w2, Below w.heap.size w w2 → Calls Tryd.prog 25 #[.slice a rs.length c, .slice ma m.length mc] w2 fun e w' => e = .returned (.bool (allB (rs.map Row.zs) m)) ∧ Below w2.heap.size w2 w') := fun w2 h => All_any a c rs ma mc m w2 (hr.below h) hl (hm.below h)
  have HA2 : Hid (∀ w2 la lc, Below w.heap.size w w2 → RowIn Value.bool w2 la (m ++ [false, false, false]) → Calls Tryd.prog 25 #[.slice a rs.length c, .slice la (m.length + 3) lc] w2 fun e w' => e = .returned (.bool (allB (rs.map Row.zs) m)) ∧ Below w2.heap.size w2 w') := fun w2 la lc h hl' => by
    have := All_any a c rs la lc (m ++ [false, false, false]) w2 (hr.below h) hl hl'
    rwa [allB_more, List.length_append] at this
  have hd2 : decide ((40 : Int) < (m.length : Int)) = false := by rw [decide_eq_false_iff_not]; omega
  clear hs ht hl hlc hc hr
  generalize allB (rs.map Row.zs) m = q at *
  have hq : (q == q) = true := by simp
  obtain ⟨i0, hi, hz0, hz1, hz2⟩ := info_parts info_bool
  -- what the first append leaves
  have HP : Hid (∀ (w4 : World) v, Below w.heap.size w w4 → w4.ownsRow w.heap.size 4 1 v (m.length + 3) (m.map Value.bool ++ [.bool false, .bool false, .bool false]) → ∃ la lc, v = .slice la (m.length + 3) lc ∧ RowIn Value.bool w4 la (m ++ [false, false, false])) := fun w4 v _ h => by
    have e : (m ++ [false, false, false]).length = m.length + 3 := by simp
    have h' : w4.ownsRow w.heap.size 4 1 v (m ++ [false, false, false]).length ((m ++ [false, false, false]).map Value.bool) := by rw [e, List.map_append]; exact h
    obtain ⟨la, lc, hv, hrow⟩ := own_bools h'
    exact ⟨la, lc, by rw [← e]; exact hv, hrow⟩
  have HM := Lib.hid hm
  clear hm
  go_enter Tryd.func8, Tryd.ntmps8
  go_wp2_with fail
  refine (awake_any _ HT.out).mono ?_
  rintro e w1 ⟨rfl, hb1⟩
  have hle := hb1.size
  go_wp2_with fail
  refine (HSM.out _ hb1).mono ?_
  rintro e w2 ⟨rfl, rfl⟩
  have hown0 : (w1.alloc (.cells #[] 4)).ownsRow w.heap.size 4 1 (.slice (some ⟨w1.heap.size, 0, none⟩) 0 0) 0 [] := World.ownsRow_made w1 #[] 0 hle (Nat.zero_le _) (by simp)
  have hB0 : Below w.heap.size w (w1.alloc (.cells #[] 4)) := hb1.alloc hle _
  have HN : Hid (∀ ad, ma = some ad → ∀ w3 : World, Below w.heap.size w w3 → ∀ j u, (m.map Value.bool)[j]? = some u → w3.cell? (ad.add j) = some u) := fun ad e w3 hw3 j u hj => by
    obtain ⟨hj1, hj2⟩ := List.getElem?_eq_some_iff.1 hj
    rw [List.length_map] at hj1
    obtain ⟨b, off, e2, _, hc⟩ := (HM.out.below hw3).pos hj1
    rw [e] at e2
    obtain rfl := Option.some.inj e2
    rw [Addr.add_lit, hc j hj1, ← hj2, List.getElem_map, getElem!_pos m j hj1]
  cases ma with
  | none =>
    have hm0 : m = [] := by
      rcases HM.out with h | ⟨b, off, e, _⟩
      · exact h
      · cases e
    obtain rfl := hm0
    obtain rfl := hnil rfl
    have hown4 := hown0.alloc (.cells #[.bool false, .bool false, .bool false] 4)
    have hB4 : Below w.heap.size w ((w1.alloc (.cells #[] 4)).alloc (.cells #[.bool false, .bool false, .bool false] 4)) := hB0.alloc hB0.size _
    go_wp2_with (first | (at_builtin; refine wpList_append_own_none rfl (.tmp 19) (.tmp 20) 23 rfl w.heap.size 4 i0 1 Tryd.underlying23 hi _ 0 [] rfl hown0 rfl ?_) | (at_builtin; refine wpList_append_own _ rfl (.tmp 21) (.tmp 22) 23 rfl w.heap.size 4 i0 (.bool false) 1 1 Tryd.underlying23 hi hz0 hz1 hz2 rfl (by decide) _ 0 [] rfl hown4 ⟨w1.heap.size + 1, 0, none⟩ 3 3 [.bool false, .bool false, .bool false] rfl ?d1 ?d2 ?d3 ?d4 ?d5 ?d6 ?_))
    case d1 => rfl
    case d2 => exact by have := falses_cells (w1.alloc (.cells #[] 4)) 4; simpa using this
    case d3 => intro u hu; simp at hu; rw [hu]; rfl
    case d4 => unfold maxLen; omega
    case d5 => omega
    case d6 => exact hB4.size
    intro v5 w5 hown5 hgrow5 _
    have hB5 : Below w.heap.size w w5 := hB4.grown hgrow5 hB4.size (by intro k hk; simp [Value.ownBlock] at hk; omega)
    obtain ⟨la, lc, rfl, hrow⟩ := HP.out w5 v5 hB5 hown5
    clear hown5 hgrow5 HP
    go_wp2_with fail
    refine (HA1.out _ hB5).mono ?_
    rintro e w6 ⟨rfl, hb6⟩
    have hB6 := hB5.trans (hb6.mono hB5.size)
    have hrow6 := hrow.below hb6
    go_wp2_with fail
    refine (HA2.out _ _ _ hB6 hrow6).mono ?_
    rintro e w7 ⟨rfl, hb7⟩
    go_wp2_with fail
    go_ret
    exact ⟨rfl, hB6.trans (hb7.mono hB6.size)⟩
  | some ad =>
    have HN1 := Lib.hid (HN.out ad rfl)
    clear HN
    go_wp2_with (at_builtin; refine wpList_append_own _ rfl (.tmp 19) (.tmp 20) 23 rfl w.heap.size 4 i0 (.bool false) 1 1 Tryd.underlying23 hi hz0 hz1 hz2 rfl (by decide) _ 0 [] rfl hown0 ad m.length mc (m.map Value.bool) rfl ?c1 ?c2 ?c3 ?c4 ?c5 ?c6 ?_)
    case c1 => simp
    case c2 => exact HN1.out _ hB0
    case c3 => intro u hu; obtain ⟨x, _, rfl⟩ := List.mem_map.1 hu; rfl
    case c4 => unfold maxLen; omega
    case c5 => omega
    case c6 => exact hB0.size
    intro v' w3 hown3 hgrow3 hnil3
    have hB3 : Below w.heap.size w w3 := hB0.grown hgrow3 hB0.size (by intro k hk; simp [Value.ownBlock] at hk; omega)
    try rw [List.nil_append] at hown3
    try rw [Nat.zero_add] at hown3
    have hv3 : v' ≠ .slice none 0 0 := hnil3
    have HW3 : Hid (v' ≠ .slice none 0 0) := hv3
    clear hnil3 hv3 hgrow3 hown0
    have hown4 := hown3.alloc (.cells #[.bool false, .bool false, .bool false] 4)
    have hB4 : Below w.heap.size w (w3.alloc (.cells #[.bool false, .bool false, .bool false] 4)) := hB3.alloc hB3.size _
    go_wp2_with (at_builtin; refine wpList_append_own _ rfl (.tmp 21) (.tmp 22) 23 rfl w.heap.size 4 i0 (.bool false) 1 1 Tryd.underlying23 hi hz0 hz1 hz2 rfl (by decide) _ m.length (m.map Value.bool) rfl hown4 ⟨w3.heap.size, 0, none⟩ 3 3 [.bool false, .bool false, .bool false] rfl ?d1 ?d2 ?d3 ?d4 ?d5 ?d6 ?_)
    case d1 => rfl
    case d2 => exact falses_cells _ _
    case d3 => intro u hu; simp at hu; rw [hu]; rfl
    case d4 => unfold maxLen; omega
    case d5 => omega
    case d6 => exact hB4.size
    intro v5 w5 hown5 hgrow5 _
    have hB5 : Below w.heap.size w w5 := hB4.grown hgrow5 hB4.size (fun k hk => (hown3.lt k hk).1)
    obtain ⟨la, lc, rfl, hrow⟩ := HP.out w5 v5 hB5 hown5
    clear hown5 hgrow5 hown4 hown3 HP
    go_wp2_with fail
    refine (HA1.out _ hB5).mono ?_
    rintro e w6 ⟨rfl, hb6⟩
    have hB6 := hB5.trans (hb6.mono hB5.size)
    have hrow6 := hrow.below hb6
    go_wp2_with fail
    refine (HA2.out _ _ _ hB6 hrow6).mono ?_
    rintro e w7 ⟨rfl, hb7⟩
    go_wp2_with fail
    go_ret
    exact ⟨rfl, hB6.trans (hb7.mono hB6.size)⟩

set_option maxHeartbeats 2000000 in
theorem ClauseBeyond_law (a : Option Addr) (c : Nat) (rs : List Row) (ma : Option Addr) (mc : Nat) (m : List Bool) (w : World) (ht : Tab w) (hr : RowsIn w a rs) (hl : rs.length ≤ 9223372036854775807) (hlc : rs.length ≤ c) (hc : c ≤ 9223372036854775807) (hm : RowIn Value.bool w ma m) (hml : m.length ≤ 9223372036854775807) (hnil : ma = none → mc = 0) :
    Calls Tryd.prog 8 #[.slice a rs.length c, .slice ma m.length mc] w fun e w' => e = .returned (.bool true) ∧ Below w.heap.size w w' := by
  have HSM : Hid (∀ w2, Below w.heap.size w w2 → Calls Tryd.prog 17 #[.slice a rs.length c, .int .i64 40, .int .i64 100000] w2 fun e w' => e = .returned (.bool (smallB (rs.map Row.zs) 40 100000)) ∧ w2 = w') := fun w2 h => Small_any a c rs 40 100000 w2 (hr.below h) hlc hc
  cases hs : smallB (rs.map Row.zs) 40 100000 with
  | true =>
    by_cases h40 : m.length ≤ 40
    · exact ClauseBeyond_yes a c rs ma mc m w ht hr hl hlc hc hm hnil hs h40
    · rw [hs] at HSM
      have HT := Lib.hid ht
      have hd : (40 : Int) < (m.length : Int) := by omega
      clear hs h40 hnil hm hr ht
      go_enter Tryd.func8, Tryd.ntmps8
      go_wp2_with fail
      refine (awake_any _ HT.out).mono ?_
      rintro e w1 ⟨rfl, hb1⟩
      go_wp2_with fail
      refine (HSM.out _ hb1).mono ?_
      rintro e w2 ⟨rfl, rfl⟩
      go_wp2_with fail
      refine (awake_any _ (HT.out.below hb1)).mono ?_
      rintro e w3 ⟨rfl, hb3⟩
      go_wp2_with fail
      go_ret
      exact ⟨rfl, hb1.trans (hb3.mono hb1.size)⟩
  | false =>
    rw [hs] at HSM
    have HT := Lib.hid ht
    clear hs hnil hm hr ht
    go_enter Tryd.func8, Tryd.ntmps8
    go_wp2_with fail
    refine (awake_any _ HT.out).mono ?_
    rintro e w1 ⟨rfl, hb1⟩
    go_wp2_with fail
    refine (HSM.out _ hb1).mono ?_
    rintro e w2 ⟨rfl, rfl⟩
    go_wp2_with fail
    refine (awake_any _ (HT.out.below hb1)).mono ?_
    rintro e w3 ⟨rfl, hb3⟩
    go_wp2_with fail
    go_ret
    exact ⟨rfl, hb1.trans (hb3.mono hb1.size)⟩
end Go.Proofs.YtiimdehcfkoemaaDoor.Cl
