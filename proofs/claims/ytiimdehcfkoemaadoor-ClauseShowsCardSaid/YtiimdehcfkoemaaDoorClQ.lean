/- The contract of the document's own normal form (weirgateref01.Norm). -/
import Derived.Test.YtiimdehcfkoemaaDoorClNfR
namespace Go.Proofs.YtiimdehcfkoemaaDoor.Cl
open Go Go.RowKit Go.Lib Go.Sort

theorem own_ints {w : World} {base : Nat} {v : Value} {m : List Int} (h : w.ownsRow base 3 1 v m.length (m.map (Value.int .i64))) : ∃ a c, v = .slice a m.length c ∧ RowIn (Value.int .i64) w a m ∧ m.length ≤ c := by
  rcases h.2 with ⟨rfl, h0⟩ | ⟨g, cap, cur, rfl, _, hg, hcap, _, _, ht⟩
  · rw [List.eq_nil_of_length_eq_zero h0]; exact ⟨none, 0, rfl, Or.inl rfl, Nat.le_refl _⟩
  · refine ⟨_, cap, rfl, Or.inr ⟨g, 0, rfl, (Array.getElem?_eq_some_iff.1 hg).1, fun j hj => ?_⟩, hcap⟩
    have := h.cells (g := g) (by simp [Value.ownBlock]) j (.int .i64 m[j]!) (by rw [List.getElem?_map, getElem!_pos m j hj, List.getElem?_eq_getElem hj]; rfl)
    rwa [Addr.add_lit] at this
theorem own_snoc {w : World} {base : Nat} {v : Value} {O : List Int} {x : Int} (h : w.ownsRow base 3 1 v (O.length + 1) (O.map (Value.int .i64) ++ [.int .i64 x])) : w.ownsRow base 3 1 v (O ++ [x]).length ((O ++ [x]).map (Value.int .i64)) := by
  rw [List.length_append, List.map_append]; exact h
theorem own_snoc2 {w : World} {base : Nat} {v : Value} {O : List Int} {x y : Int} (h : w.ownsRow base 3 1 v (O.length + 1 + 1) (O.map (Value.int .i64) ++ [.int .i64 x, .int .i64 y])) : w.ownsRow base 3 1 v (O ++ [x] ++ [y]).length ((O ++ [x] ++ [y]).map (Value.int .i64)) := by
  simpa using h
theorem one_cell (w : World) (x : Value) (T : TypeId) : ∀ j u, [x][j]? = some u → (w.alloc (.cells #[x] T)).cell? ((⟨w.heap.size, 0, none⟩ : Addr).add j) = some u := by
  intro j u hj
  have hh : (w.alloc (.cells #[x] T)).heap[w.heap.size]? = some (.cells #[x] T (0, 0)) := by unfold World.alloc; simp
  rw [Addr.add_lit, Lib.cell_of_heap hh, Nat.zero_add]
  rcases j with _ | j
  · exact hj
  · simp at hj

set_option maxHeartbeats 1000000 in
theorem RefNorm_no (a : Option Addr) (c : Nat) (zs : List Int) (w : World) (hr : RowIn (Value.int .i64) w a zs) (hl : zs.length ≤ 1000) (hok : rightB zs = false) :
    Calls Tryd.prog 11 #[.slice a zs.length c] w (Normed w zs) := by
  have hR := RefRight_any a c zs w hr (by omega)
  rw [hok] at hR
  have HN : Hid (normL zs = [] ∧ normX zs = false) := ⟨by simp [normL, hok], by simp [normX, hok]⟩
  clear hok hr
  go_enter Tryd.func11, Tryd.ntmps11
  go_wp2_with (go_at_call 14; refine hR.mono ?_; rintro e w' ⟨rfl, rfl⟩)
  go_ret2
  refine ⟨none, 0, ?_, ?_, by rw [HN.out.1]; exact Nat.zero_le _, Below.refl _ _⟩
  · rw [HN.out.1, HN.out.2]; rfl
  · rw [HN.out.1]; exact RowIn.nil _ _ _

set_option maxHeartbeats 16000000 in
set_option maxRecDepth 100000 in
theorem RefNorm_yes (a : Option Addr) (c : Nat) (zs : List Int) (w : World) (hr : RowIn (Value.int .i64) w a zs) (hl : zs.length ≤ 1000) (hok : rightB zs = true) :
    Calls Tryd.prog 11 #[.slice a zs.length c] w (Normed w zs) := by
  have hR := RefRight_any a c zs w hr (by omega)
  rw [hok] at hR
  have HN : Hid (normL zs = nf zs ∧ normX zs = oppB (nf zs)) := ⟨normL_yes hok, normX_yes hok⟩
  have HOK := Lib.hid hok
  have HR := Lib.hid hr
  obtain ⟨i0, hi, hz0, hz1, hz2⟩ := info_parts info_int
  clear hok hr
  go_enter Tryd.func11, Tryd.ntmps11
  go_wp2_with (go_at_call 14; refine hR.mono ?_; rintro e w' ⟨rfl, rfl⟩)
  clear hR
  go_loopw [4, 5, 6, 7, 8, 9] (fun s4 s5 s6 _ _ _ wr => ∃ (O : List Int) (b : Bool) (l : Nat), s5 = .bool b ∧ s6 = .int .i64 l ∧ l ≤ 100000 ∧ Hid (Upto zs l O b) ∧ Hid (wr.ownsRow w.heap.size 3 1 s4 O.length (O.map (Value.int .i64))) ∧ Below w.heap.size w wr) (fun _ _ s6 _ _ _ _ => 100000 - (intOf s6).toNat)
  case atStart => exact ⟨[], false, 0, rfl, rfl, by omega, Upto.start HOK.out, World.ownsRow_nil _ _ _ _, Below.refl _ _⟩
  case round =>
    obtain ⟨O, b, l, rfl, rfl, hl1, HU, HO, hB⟩ := hrel
    obtain ⟨wo, rfl⟩ : ∃ wo : World, wo = wr := ⟨_, rfl⟩
    have HRo := Lib.hid (HR.out.below hB)
    have HMS := Lib.hid (minVar_spec (l := (l : Int)) (by omega) (rightB_bd HOK.out))
    go_wp2
    go_loop [7, 8, 9] (fun s7 s8 _ => ∃ k : Nat, k ≤ zs.length ∧ s8 = .int .i64 k ∧ s7 = .int .i64 (minVar l (zs.take k))) (fun _ s8 _ => zs.length - (intOf s8).toNat)
    case atStart => exact ⟨0, Nat.zero_le _, rfl, rfl⟩
    case round =>
      obtain ⟨k, hk, rfl, rfl⟩ := hrel
      by_cases hlt : k < zs.length
      · have hltz : (k : Int) < (zs.length : Int) := by omega
        obtain ⟨b1, off, rfl, hb1, hc⟩ := HRo.out.pos hlt
        have c1 := hc k hlt
        have hx := rightB_bd HOK.out zs[k]! (getElem!_mem hlt)
        have habs := Abs_any zs[k]! wo (by omega) (by omega)
        have HS : Hid (minVar l (zs.take (k + 1)) = minStep l (minVar l (zs.take k)) zs[k]!) := by show _ = _; rw [take_succ! hlt, minVar_snoc]
        clear hc
        generalize minVar l (zs.take k) = m at *
        generalize zs[k]! = x at *
        unfold minStep at HS
        generalize vr x = v at *
        by_cases h1 : (l : Int) < v
        · by_cases h2 : m = 0
          · have h2b : (m == 0) = true := by simpa using h2
            have HS2 : Hid (minVar l (zs.take (k + 1)) = v) := by show _ = _; rw [HS.out, if_pos ⟨h1, Or.inl h2⟩]
            clear h2
            go_wp2_with (go_at_call 36; refine habs.mono ?_; rintro e w' ⟨rfl, rfl⟩)
            go_round
            case rel => exact ⟨k + 1, by omega, by go_num, by rw [HS2.out]⟩
            case measure => simp [intOf]; omega
          · have h2b : (m == 0) = false := by simpa using h2
            by_cases h3 : v < m
            · have HS2 : Hid (minVar l (zs.take (k + 1)) = v) := by show _ = _; rw [HS.out, if_pos ⟨h1, Or.inr h3⟩]
              clear h2
              go_wp2_with (go_at_call 36; refine habs.mono ?_; rintro e w' ⟨rfl, rfl⟩)
              go_round
              case rel => exact ⟨k + 1, by omega, by go_num, by rw [HS2.out]⟩
              case measure => simp [intOf]; omega
            · have HS2 : Hid (minVar l (zs.take (k + 1)) = m) := by show _ = _; rw [HS.out, if_neg (by omega)]
              have h3d : decide (v < m) = false := by simpa using h3
              clear h2
              go_wp2_with (go_at_call 36; refine habs.mono ?_; rintro e w' ⟨rfl, rfl⟩)
              go_round
              case rel => exact ⟨k + 1, by omega, by go_num, by rw [HS2.out]⟩
              case measure => simp [intOf]; omega
        · have HS2 : Hid (minVar l (zs.take (k + 1)) = m) := by show _ = _; rw [HS.out, if_neg (by omega)]
          have h1d : decide ((l : Int) < v) = false := by simpa using h1
          go_wp2_with (go_at_call 36; refine habs.mono ?_; rintro e w' ⟨rfl, rfl⟩)
          go_round
          case rel => exact ⟨k + 1, by omega, by go_num, by rw [HS2.out]⟩
          case measure => simp [intOf]; omega
      · have hltz : ¬ (k : Int) < (zs.length : Int) := by omega
        have hkk : k = zs.length := by omega
        rw [hkk, List.take_length]
        have HB := Lib.hid hB
        rcases HMS.out with ⟨e0, hall⟩ | ⟨hm1, hm2, hex, hmin⟩
        · rw [e0]
          obtain ⟨h1, h2⟩ := HU.out.done HOK.out hall
          subst h1
          obtain ⟨a', c', hv, hrow, hcap⟩ := own_ints HO.out
          subst hv
          have HX : Hid (b = oppB (nf zs)) := h2
          clear h2 HU e0 hkk hltz hlt hk
          go_wp2
          go_ret2
          refine ⟨a', c', ?_, ?_, by rw [HN.out.1]; exact hcap, HB.out⟩
          · rw [HN.out.1, HN.out.2, ← HX.out]; rfl
          · rw [HN.out.1]; exact hrow
        · have HSTEP := Lib.hid (HU.out.step HOK.out (by omega) hm1 hm2 hmin)
          have HEX : Hid (inB (minVar l zs) zs = true ∨ inB (-(minVar l zs)) zs = true) := by
            obtain ⟨x, hx1, hx2⟩ := hex
            rcases (show x = minVar l zs ∨ x = -(minVar l zs) by unfold vr at hx2; omega) with h | h
            · left; rw [inB_iff, ← h]; exact hx1
            · right; rw [inB_iff, ← h]; exact hx1
          have HLEN : Hid ((O.length : Int) ≤ 2 * (l : Int)) := HU.out.short
          clear hex hmin HU HMS
          obtain ⟨v, hv⟩ : ∃ v : Nat, minVar l zs = (v : Int) := ⟨(minVar l zs).toNat, by omega⟩
          rw [hv] at HSTEP HEX hm1 hm2 ⊢
          have hv0 : ((v : Int) == 0) = false := by rw [beq_eq_false_iff_ne]; omega
          have hlen : O.length ≤ 200000 := by have := HLEN.out; omega
          have hin1 : Hid (∀ w2, Below w.heap.size w w2 → Calls Tryd.prog 27 #[.int .i64 (v : Int), .slice a zs.length c] w2 fun e w' => e = .returned (.bool (inB (v : Int) zs)) ∧ w2 = w') := fun w2 h => In_any _ a c zs w2 (HR.out.below h) (by omega)
          have hin2 : Hid (∀ w2, Below w.heap.size w w2 → Calls Tryd.prog 27 #[.int .i64 (-(v : Int)), .slice a zs.length c] w2 fun e w' => e = .returned (.bool (inB (-(v : Int)) zs)) ∧ w2 = w') := fun w2 h => In_any _ a c zs w2 (HR.out.below h) (by omega)
          have hle := hB.size
          unfold both at HSTEP
          clear hkk hltz hlt hk hv HLEN
          generalize inB (v : Int) zs = p at *
          generalize inB (-(v : Int)) zs = q at *
          cases p <;> cases q
          · -- v in: false, -v in: false
            exact absurd HEX.out (by simp)
          · -- v in: false, -v in: true
            go_wp2_with fail
            refine (hin1.out _ HB.out).mono ?_
            rintro e w2 ⟨rfl, rfl⟩
            go_wp2_with fail
            refine (hin2.out _ HB.out).mono ?_
            rintro e w3 ⟨rfl, rfl⟩
            have hA1 := World.ownsRow.alloc HO.out (.cells #[.int .i64 (-(v : Int))] 3)
            have hBA1 : Below w.heap.size w (wo.alloc (.cells #[.int .i64 (-(v : Int))] 3)) := Below.alloc HB.out (Below.size HB.out) _
            have HA1 := Lib.hid hA1
            have HBA1 := Lib.hid hBA1
            clear hA1 hBA1
            go_wp2_with (at_builtin; refine wpList_append_own _ rfl (.tmp 52) (.tmp 55) 22 rfl w.heap.size 3 i0 (.int .i64 0) 1 8 Tryd.underlying22 hi hz0 hz1 hz2 rfl (by decide) _ O.length (O.map (Value.int .i64)) rfl HA1.out ⟨wo.heap.size, 0, none⟩ 1 1 [.int .i64 (-(v : Int))] rfl ?d1 ?d2 ?d3 ?d4 ?d5 ?d6 ?_)
            case d1 => rfl
            case d2 => exact one_cell _ _ _
            case d3 => intro u hu; rw [List.mem_singleton.1 hu]; rfl
            case d4 => unfold maxLen; omega
            case d5 => omega
            case d6 => exact HBA1.out.size
            intro v1 wn1 hown1 hgrow1 _
            have HBN1 := Lib.hid (Below.grown HBA1.out hgrow1 HBA1.out.size (fun k' hk' => (World.ownsRow.lt HO.out k' hk').1))
            have HOW1 := Lib.hid (own_snoc hown1)
            clear hown1 hgrow1
            have HNEW : Hid (Upto zs (v : Int) (O ++ [-(v : Int)]) (b || (false && true))) := by
              have := HSTEP.out; show Upto _ _ _ _; simpa using this
            cases b
            · go_wp2_with fail
              refine (hin1.out _ HBN1.out).mono ?_
              rintro e w4 ⟨rfl, rfl⟩
              go_wp2_with fail
              go_roundw
              case rel => exact ⟨_, _, v, rfl, rfl, by omega, HNEW, HOW1, HBN1.out⟩
              case measure => simp [intOf]; omega
            · go_wp2_with fail
              go_roundw
              case rel => exact ⟨_, _, v, rfl, rfl, by omega, HNEW, HOW1, HBN1.out⟩
              case measure => simp [intOf]; omega
          · -- v in: true, -v in: false
            go_wp2_with fail
            refine (hin1.out _ HB.out).mono ?_
            rintro e w2 ⟨rfl, rfl⟩
            have hA1 := World.ownsRow.alloc HO.out (.cells #[.int .i64 (v : Int)] 3)
            have hBA1 : Below w.heap.size w (wo.alloc (.cells #[.int .i64 (v : Int)] 3)) := Below.alloc HB.out (Below.size HB.out) _
            have HA1 := Lib.hid hA1
            have HBA1 := Lib.hid hBA1
            clear hA1 hBA1
            go_wp2_with (at_builtin; refine wpList_append_own _ rfl (.tmp 44) (.tmp 46) 22 rfl w.heap.size 3 i0 (.int .i64 0) 1 8 Tryd.underlying22 hi hz0 hz1 hz2 rfl (by decide) _ O.length (O.map (Value.int .i64)) rfl HA1.out ⟨wo.heap.size, 0, none⟩ 1 1 [.int .i64 (v : Int)] rfl ?d1 ?d2 ?d3 ?d4 ?d5 ?d6 ?_)
            case d1 => rfl
            case d2 => exact one_cell _ _ _
            case d3 => intro u hu; rw [List.mem_singleton.1 hu]; rfl
            case d4 => unfold maxLen; omega
            case d5 => omega
            case d6 => exact HBA1.out.size
            intro v1 wn1 hown1 hgrow1 _
            have HBN1 := Lib.hid (Below.grown HBA1.out hgrow1 HBA1.out.size (fun k' hk' => (World.ownsRow.lt HO.out k' hk').1))
            have HOW1 := Lib.hid (own_snoc hown1)
            clear hown1 hgrow1
            go_wp2_with fail
            refine (hin2.out _ HBN1.out).mono ?_
            rintro e w3 ⟨rfl, rfl⟩
            have HNEW : Hid (Upto zs (v : Int) (O ++ [(v : Int)]) (b || (true && false))) := by
              have := HSTEP.out; show Upto _ _ _ _; simpa using this
            cases b
            · go_wp2_with fail
              refine (hin1.out _ HBN1.out).mono ?_
              rintro e w4 ⟨rfl, rfl⟩
              go_wp2_with fail
              refine (hin2.out _ HBN1.out).mono ?_
              rintro e w5 ⟨rfl, rfl⟩
              go_wp2_with fail
              go_roundw
              case rel => exact ⟨_, _, v, rfl, rfl, by omega, HNEW, HOW1, HBN1.out⟩
              case measure => simp [intOf]; omega
            · go_wp2_with fail
              go_roundw
              case rel => exact ⟨_, _, v, rfl, rfl, by omega, HNEW, HOW1, HBN1.out⟩
              case measure => simp [intOf]; omega
          · -- v in: true, -v in: true
            go_wp2_with fail
            refine (hin1.out _ HB.out).mono ?_
            rintro e w2 ⟨rfl, rfl⟩
            have hA1 := World.ownsRow.alloc HO.out (.cells #[.int .i64 (v : Int)] 3)
            have hBA1 : Below w.heap.size w (wo.alloc (.cells #[.int .i64 (v : Int)] 3)) := Below.alloc HB.out (Below.size HB.out) _
            have HA1 := Lib.hid hA1
            have HBA1 := Lib.hid hBA1
            clear hA1 hBA1
            go_wp2_with (at_builtin; refine wpList_append_own _ rfl (.tmp 44) (.tmp 46) 22 rfl w.heap.size 3 i0 (.int .i64 0) 1 8 Tryd.underlying22 hi hz0 hz1 hz2 rfl (by decide) _ O.length (O.map (Value.int .i64)) rfl HA1.out ⟨wo.heap.size, 0, none⟩ 1 1 [.int .i64 (v : Int)] rfl ?d1 ?d2 ?d3 ?d4 ?d5 ?d6 ?_)
            case d1 => rfl
            case d2 => exact one_cell _ _ _
            case d3 => intro u hu; rw [List.mem_singleton.1 hu]; rfl
            case d4 => unfold maxLen; omega
            case d5 => omega
            case d6 => exact HBA1.out.size
            intro v1 wn1 hown1 hgrow1 _
            have HBN1 := Lib.hid (Below.grown HBA1.out hgrow1 HBA1.out.size (fun k' hk' => (World.ownsRow.lt HO.out k' hk').1))
            have HOW1 := Lib.hid (own_snoc hown1)
            clear hown1 hgrow1
            go_wp2_with fail
            refine (hin2.out _ HBN1.out).mono ?_
            rintro e w3 ⟨rfl, rfl⟩
            have hA2 := World.ownsRow.alloc HOW1.out (.cells #[.int .i64 (-(v : Int))] 3)
            have hBA2 : Below w.heap.size w (wn1.alloc (.cells #[.int .i64 (-(v : Int))] 3)) := Below.alloc HBN1.out (Below.size HBN1.out) _
            have HA2 := Lib.hid hA2
            have HBA2 := Lib.hid hBA2
            clear hA2 hBA2
            go_wp2_with (at_builtin; refine wpList_append_own _ rfl (.tmp 52) (.tmp 55) 22 rfl w.heap.size 3 i0 (.int .i64 0) 1 8 Tryd.underlying22 hi hz0 hz1 hz2 rfl (by decide) _ (O ++ [(v : Int)]).length ((O ++ [(v : Int)]).map (Value.int .i64)) rfl HA2.out ⟨wn1.heap.size, 0, none⟩ 1 1 [.int .i64 (-(v : Int))] rfl ?d1 ?d2 ?d3 ?d4 ?d5 ?d6 ?_)
            case d1 => rfl
            case d2 => exact one_cell _ _ _
            case d3 => intro u hu; rw [List.mem_singleton.1 hu]; rfl
            case d4 => unfold maxLen; simp; omega
            case d5 => simp; omega
            case d6 => exact HBA2.out.size
            intro v2 wn2 hown2 hgrow2 _
            have HBN2 := Lib.hid (Below.grown HBA2.out hgrow2 HBA2.out.size (fun k' hk' => (World.ownsRow.lt HOW1.out k' hk').1))
            have HOW2 := Lib.hid (own_snoc2 hown2)
            clear hown2 hgrow2
            have HNEW : Hid (Upto zs (v : Int) ((O ++ [(v : Int)]) ++ [-(v : Int)]) (b || (true && true))) := by
              have := HSTEP.out; show Upto _ _ _ _; simpa using this
            cases b
            · go_wp2_with fail
              refine (hin1.out _ HBN2.out).mono ?_
              rintro e w4 ⟨rfl, rfl⟩
              go_wp2_with fail
              refine (hin2.out _ HBN2.out).mono ?_
              rintro e w5 ⟨rfl, rfl⟩
              go_wp2_with fail
              go_roundw
              case rel => exact ⟨_, _, v, rfl, rfl, by omega, HNEW, HOW2, HBN2.out⟩
              case measure => simp [intOf]; omega
            · go_wp2_with fail
              go_roundw
              case rel => exact ⟨_, _, v, rfl, rfl, by omega, HNEW, HOW2, HBN2.out⟩
              case measure => simp [intOf]; omega
end Go.Proofs.YtiimdehcfkoemaaDoor.Cl
