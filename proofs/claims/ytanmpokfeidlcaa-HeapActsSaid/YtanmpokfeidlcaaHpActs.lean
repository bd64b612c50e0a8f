/- The walk of HeapActs. -/
import Derived.Test.YtanmpokfeidlcaaHpArgs
import Derived.Deep.RegionHeld3
import Derived.Deep.CutBlock
namespace Go.Proofs.Ytanmpokfeidlcaa.Hp
open Go Go.RowKit Go.Lib

/-- The heap and the document's are as one. -/
def Both (w0 w : World) (B : Nat) (L : Loc) (R : RLoc) (n : Nat) : Prop := ∃ In A, IsHeap w L n In A ∧ IsRef w B R n In A ∧ Below w0.heap.size w0 w

theorem Only.cell {S : List Nat} {w w' : World} (h : Only S w w') {b : Nat} (hb : b ∉ S) (hl : b < w.heap.size) (j : Nat) : w'.cell? ⟨b, j, none⟩ = w.cell? ⟨b, j, none⟩ := World.cell?_of_block (w := w) (h.block b hl hb)

theorem both_mk {w0 w1 w2 w3 : World} {B : Nat} {L : Loc} {R : RLoc} {n : Nat} {In : Nat → Bool} {A : Nat → Int} (hb : Below w0.heap.size w0 w1) (o1 : Only L.all w1 w2) (h2 : IsHeap w2 L n In A) (o2 : Only (R.live n) w2 w3) (h3 : IsRef w3 B R n In A)
    (hL : ∀ b ∈ L.all, w0.heap.size ≤ b) (hLT : ∀ b ∈ L.all, b < B) (hBW : w0.heap.size ≤ B) : Both w0 w3 B L R n :=
  ⟨In, A, h2.only o2 (fun b hb q => by have := hLT b hb; have := h3.from' b (RLoc.live_all q); omega), h3,
    (hb.trans (o1.below hb.size hL)).trans (o2.below (Nat.le_trans hb.size o1.size) (fun b hb => by have := h3.from' b (RLoc.live_all hb); omega))⟩

theorem Next_ref_is {w : World} {B : Nat} {R : RLoc} {n : Nat} {In : Nat → Bool} {A : Nat → Int} (h : IsRef w B R n In A) (hn : n ≤ 100000) {v : Nat} (hv : IsNext n A In v) :
    Calls Try.prog 14 #[.pointer (some ⟨R.r, 0, none⟩)] w fun r w' => r = .returned (.tuple #[.int .i64 (v : Int), .bool true]) ∧ IsRef w' B R n (upd In v false) A ∧ Only (R.live n) w w' := by
  refine (Next_ref h hn).mono ?_
  rintro r w' ⟨u, b, rfl, ho, ⟨rfl, h1, h2⟩ | ⟨rfl, rfl, h1, _⟩⟩
  · obtain rfl := h1.unique hv
    exact ⟨rfl, h2, ho⟩
  · have := none_of_cnt h1 v hv.pos hv.le
    rw [hv.here] at this
    cases this
theorem Next_ref_none {w : World} {B : Nat} {R : RLoc} {n : Nat} {In : Nat → Bool} {A : Nat → Int} (h : IsRef w B R n In A) (hn : n ≤ 100000) (h0 : cnt n In = 0) :
    Calls Try.prog 14 #[.pointer (some ⟨R.r, 0, none⟩)] w fun r w' => r = .returned (.tuple #[.int .i64 0, .bool false]) ∧ IsRef w' B R n In A ∧ Only (R.live n) w w' := by
  refine (Next_ref h hn).mono ?_
  rintro r w' ⟨u, b, rfl, ho, ⟨rfl, h1, h2⟩ | ⟨rfl, rfl, h1, h2⟩⟩
  · have := none_of_cnt h0 u h1.pos h1.le
    rw [h1.here] at this
    cases this
  · exact ⟨rfl, h2, ho⟩

set_option maxHeartbeats 8000000 in
set_option maxRecDepth 100000 in
theorem HeapActs_law (s : Int) (a : Option Addr) (m c : Nat) (K : Nat → ActV) (w : World) (hr : ArgA w a m K) (hl : m ≤ 9223372036854775807) (hK : ∀ j, j < m → (K j).b ≤ 9223372036854775807 ∧ -9223372036854775808 ≤ (K j).v ∧ (K j).v ≤ 9223372036854775807) :
    Calls Try.prog 3 #[.int .i64 s, .slice a m c] w fun e w' => e = .returned (.bool true) ∧ Below w.heap.size w w' := by
  have HAW : Hid (∀ w, Calls Try.prog 8 #[] w fun e w' => e = .returned (.bool true) ∧ Below w.heap.size w w') := awake_any
  have HARG := Lib.hid hr
  have HKB := Lib.hid hK
  clear hr hK
  by_cases h80 : m ≤ 80
  · have h80z : ¬ (80 : Int) < (m : Int) := by omega
    have h80d : decide ((80 : Int) < (m : Int)) = false := by simpa using h80z
    by_cases hs : 0 ≤ s ∧ s ≤ 60
    · obtain ⟨n, rfl⟩ : ∃ n : Nat, s = (n : Int) := ⟨s.toNat, by omega⟩
      have hn60 : n ≤ 60 := by omega
      clear hs
      have hn : n ≤ 100000 := by omega
      have s1 : ¬ (60 : Int) < (n : Int) := by omega
      have s1d : decide ((60 : Int) < (n : Int)) = false := by simpa using s1
      have s2 : ¬ (n : Int) < 0 := by omega
      have s2d : decide ((n : Int) < 0) = false := by simp
      have s3 : ¬ (100000 : Int) < (n : Int) := by omega
      have s3d : decide ((100000 : Int) < (n : Int)) = false := by simpa using s3
      go_enter Try.func3, Try.ntmps3
      go_wp2_with fail
      refine (HAW.out w).mono ?_
      rintro e w1 ⟨rfl, hB1⟩
      have HB1 := Lib.hid hB1
      clear hB1
      go_wp2_with fail
      refine (New_ok n w1 hn).mono ?_
      rintro e w2 ⟨L, rfl, hh2, hb2, hl2⟩
      have HL2 : Hid (∀ b ∈ L.all, w.heap.size ≤ b) := fun b hb => Nat.le_trans HB1.out.size (hl2 b hb)
      have HLT : Hid (∀ b ∈ L.all, b < w2.heap.size) := hh2.lt
      have HH2 := Lib.hid (And.intro hh2 (HB1.out.trans (hb2.mono HB1.out.size)))
      clear hh2 hb2 hl2 HB1
      go_wp2_with fail
      refine (New_ref n w2 hn).mono ?_
      rintro e w3 ⟨R, rfl, hr3, hb3⟩
      have HS0 : Hid (Both w w3 w2.heap.size L R n) := by
        refine ⟨_, _, HH2.out.1.of_heap (fun b hb => hb3.block b (HLT.out b hb)), hr3, HH2.out.2.trans (hb3.mono HH2.out.2.size)⟩
      have HRB : Hid (∀ b ∈ R.all, w2.heap.size ≤ b) := hr3.from'
      have HBW : Hid (w.heap.size ≤ w2.heap.size) := HH2.out.2.size
      generalize w2.heap.size = B at *
      clear hr3 hb3 HH2
      go_wp2_with fail
      go_loopw [8] (fun iv wr => ∃ i : Nat, iv = .int .i64 (i : Int) ∧ i ≤ m ∧ Hid (Both w wr B L R n)) (fun iv _ => m - (intOf iv).toNat)
      case atStart => exact ⟨0, rfl, Nat.zero_le _, HS0⟩
      case round =>
        clear HS0
        obtain ⟨i, rfl, hi, HH⟩ := hrel
        by_cases hlt : i < m
        · have hltz : (i : Int) < (m : Int) := by omega
          have i0 : (0 : Int) ≤ (i : Int) := by omega
          obtain ⟨b, off, rfl, hb, hc⟩ := (HARG.out.below HH.out.choose_spec.choose_spec.2.2).resolve_left (by omega)
          obtain ⟨ck, cv, cb⟩ := hc i hlt
          have hkb := (HKB.out i hlt).1
          generalize K i = x at *
          obtain ⟨kk, vv, bb⟩ := x
          simp only at ck cv cb hkb
          have HX : Hid (∀ W1, W1 = wr.alloc (.cells #[.int .i64 kk, .int .i64 vv, .int .i64 bb] 31) → ∃ In A, IsHeap W1 L n In A ∧ IsRef W1 B R n In A ∧ Below w.heap.size w W1 ∧ wr.heap.size < W1.heap.size ∧ wr.heap.size ∉ L.all ∧ wr.heap.size ∉ R.live n ∧ W1.cell? ⟨wr.heap.size, 0, none⟩ = some (.int .i64 kk) ∧ W1.cell? ⟨wr.heap.size, 1, none⟩ = some (.int .i64 vv) ∧ W1.cell? ⟨wr.heap.size, 2, none⟩ = some (.int .i64 bb)) := by
            rintro W1 rfl
            obtain ⟨In, A, h1, h2, h3⟩ := HH.out
            refine ⟨In, A, h1.alloc _, h2.alloc _, h3.alloc h3.size _, by simp, fun q => ?_, fun q => ?_, ?_, ?_, ?_⟩
            · have := h1.lt _ q; omega
            · have := h2.lt _ q; omega
            · rw [World.cell?_alloc_at _ _ _ _ rfl]; rfl
            · rw [World.cell?_alloc_at _ _ _ _ rfl]; rfl
            · rw [World.cell?_alloc_at _ _ _ _ rfl]; rfl
          clear hc hb
          go_upto_block 2 with fail
          obtain ⟨In, A, hh1, hr1, hbw, hsz, hnL, hnR, d0, d1, d2⟩ := HX.out _ rfl
          clear HX ck cv cb HH
          generalize wr.alloc (.cells #[.int .i64 kk, .int .i64 vv, .int .i64 bb] 31) = W1 at *
          generalize wr.heap.size = H9 at *
          have HB0 := Lib.hid (And.intro hh1 (And.intro hr1 hbw))
          have HN := Lib.hid (And.intro hsz (And.intro hnL hnR))
          clear hh1 hr1 hbw hsz hnL hnR
          go_cut [10] from 58 to 168 (fun s10 wx => s10 = .bool true ∧ Hid (Both w wx B L R n))
          case first =>
            have hA := HB0.out.1.lens.2
            have HA := Lib.hid hA
            clear hA
            by_cases k0 : kk = 0
            · subst k0
              have P1 : Hid (Calls Try.prog 11 #[.pointer (some ⟨L.h, 0, none⟩), .int .i64 vv] W1.drew fun e w' => e = .returned (.bool (isV n vv && !In vv.toNat)) ∧ IsHeap w' L n (if isV n vv = true then upd In vv.toNat true else In) A ∧ Only L.all W1.drew w') := Put_heap (HB0.out.1.drewN 1) vv
              have P2 : Hid (∀ w5, Only L.all W1.drew w5 → Calls Try.prog 12 #[.pointer (some ⟨R.r, 0, none⟩), .int .i64 vv] w5 fun e w' => e = .returned (.bool (isV n vv && !In vv.toNat)) ∧ IsRef w' B R n (if isV n vv = true then upd In vv.toNat true else In) A ∧ Only (R.live n) w5 w') := fun w5 o5 => Put_ref ((HB0.out.2.1.drewN 1).only o5 HLT.out) vv hn
              generalize (isV n vv && !In vv.toNat) = q at *
              go_wp2_with fail
              go_region_held3 (fun w' => w'.cell? ⟨H9, 1, none⟩ = some (.int .i64 vv)) (first | exact d1 | exact d6 | exact d5 | go_keep) (first | (go_at_call 11; refine P1.out.mono ?_; rintro e w5 ⟨rfl, h5, o5⟩; have d5 := (o5.cell HN.out.2.1 HN.out.1 1).trans d1) | (go_at_call 12; refine (P2.out _ o5).mono ?_; rintro e w6 ⟨rfl, h6, o6⟩; have d6 := (o6.cell HN.out.2.2 (Nat.lt_of_lt_of_le HN.out.1 o5.size) 1).trans d5; have HB6 : Hid (Both w w6 B L R n) := both_mk HB0.out.2.2.drew o5 h5 o6 h6 HL2.out HLT.out HBW.out))
              go_wp2_with fail
              go_meet
              exact ⟨by simp, HB6⟩
            · by_cases k1 : kk = 1
              · subst k1
                have P1 : Hid (Calls Try.prog 13 #[.pointer (some ⟨L.h, 0, none⟩)] W1 fun r w' => ∃ (v : Nat) (q : Bool), r = .returned (.tuple #[.int .i64 (v : Int), .bool q]) ∧ Calls Try.prog 14 #[.pointer (some ⟨R.r, 0, none⟩)] w' fun r w6 => r = .returned (.tuple #[.int .i64 (v : Int), .bool q]) ∧ Both w w6 B L R n) := by
                  refine (Next_heap HB0.out.1).mono ?_
                  rintro r w5 ⟨v, q, rfl, o5, ⟨rfl, h5, h6⟩ | ⟨rfl, rfl, h5, h6⟩⟩
                  · refine ⟨v, true, rfl, (Next_ref_is (HB0.out.2.1.only o5 HLT.out) hn h5).mono ?_⟩
                    rintro r w6 ⟨rfl, h7, o6⟩
                    exact ⟨rfl, both_mk HB0.out.2.2 o5 h6 o6 h7 HL2.out HLT.out HBW.out⟩
                  · refine ⟨0, false, rfl, (Next_ref_none (HB0.out.2.1.only o5 HLT.out) hn h5).mono ?_⟩
                    rintro r w6 ⟨rfl, h7, o6⟩
                    exact ⟨rfl, both_mk HB0.out.2.2 o5 h6 o6 h7 HL2.out HLT.out HBW.out⟩
                go_wp2_with fail
                refine P1.out.mono ?_
                rintro r w5 ⟨v, q, rfl, p2⟩
                have P2 := Lib.hid p2
                clear p2
                go_wp2_with fail
                refine P2.out.mono ?_
                rintro r w6 ⟨rfl, h6⟩
                have HB6 : Hid (Both w w6 B L R n) := h6
                clear h6
                go_wp2_with fail
                go_meet
                exact ⟨by simp, HB6⟩
              · by_cases k2 : kk = 2
                · subst k2
                  have P1 : Hid (Calls Try.prog 15 #[.pointer (some ⟨L.h, 0, none⟩), .int .i64 vv, .int .i64 bb] W1.drew fun e w' => e = .returned (.bool (isV n vv && decide (0 ≤ bb))) ∧ IsHeap w' L n In (if isV n vv = true ∧ 0 ≤ bb then upd A vv.toNat (bump (A vv.toNat) bb) else A) ∧ Only L.all W1.drew w') := Bump_heap (HB0.out.1.drewN 1) vv bb hkb
                  have P2 : Hid (∀ w5, Only L.all W1.drew w5 → Calls Try.prog 16 #[.pointer (some ⟨R.r, 0, none⟩), .int .i64 vv, .int .i64 bb] w5 fun e w' => e = .returned (.bool (isV n vv && decide (0 ≤ bb))) ∧ IsRef w' B R n In (if isV n vv = true ∧ 0 ≤ bb then upd A vv.toNat (bump (A vv.toNat) bb) else A) ∧ Only (R.live n) w5 w') := fun w5 o5 => Bump_ref ((HB0.out.2.1.drewN 1).only o5 HLT.out) vv bb hn hkb HA.out
                  generalize (isV n vv && decide (0 ≤ bb)) = q at *
                  go_wp2_with fail
                  go_region_held3 (fun w' => w'.cell? ⟨H9, 1, none⟩ = some (.int .i64 vv) ∧ w'.cell? ⟨H9, 2, none⟩ = some (.int .i64 bb)) (first | exact ⟨d1, d2⟩ | exact d6 | exact d5 | go_keep) (first | (go_at_call 15; refine P1.out.mono ?_; rintro e w5 ⟨rfl, h5, o5⟩; have d5 := And.intro ((o5.cell HN.out.2.1 HN.out.1 1).trans d1) ((o5.cell HN.out.2.1 HN.out.1 2).trans d2)) | (go_at_call 16; refine (P2.out _ o5).mono ?_; rintro e w6 ⟨rfl, h6, o6⟩; have d6 := And.intro ((o6.cell HN.out.2.2 (Nat.lt_of_lt_of_le HN.out.1 o5.size) 1).trans d5.1) ((o6.cell HN.out.2.2 (Nat.lt_of_lt_of_le HN.out.1 o5.size) 2).trans d5.2); have HB6 : Hid (Both w w6 B L R n) := both_mk HB0.out.2.2.drew o5 h5 o6 h6 HL2.out HLT.out HBW.out))
                  go_wp2_with fail
                  go_meet
                  exact ⟨by simp, HB6⟩
                · by_cases k3 : kk = 3
                  · subst k3
                    have P1 : Hid (Calls Try.prog 17 #[.pointer (some ⟨L.h, 0, none⟩)] W1 fun r w' => r = .returned (.tuple #[]) ∧ Calls Try.prog 18 #[.pointer (some ⟨R.r, 0, none⟩)] w' fun r w6 => r = .returned (.tuple #[]) ∧ Both w w6 B L R n) := by
                      refine (Halve_heap HB0.out.1).mono ?_
                      rintro r w5 ⟨rfl, h5, o5⟩
                      refine ⟨rfl, (Halve_ref (HB0.out.2.1.only o5 HLT.out) hn HA.out).mono ?_⟩
                      rintro r w6 ⟨rfl, h7, o6⟩
                      exact ⟨rfl, both_mk HB0.out.2.2 o5 h5 o6 h7 HL2.out HLT.out HBW.out⟩
                    go_wp2_with fail
                    refine P1.out.mono ?_
                    rintro r w5 ⟨rfl, p2⟩
                    have P2 := Lib.hid p2
                    clear p2
                    go_wp2_with fail
                    refine P2.out.mono ?_
                    rintro r w6 ⟨rfl, h6⟩
                    have HB6 : Hid (Both w w6 B L R n) := h6
                    clear h6
                    go_wp2_with fail
                    go_meet
                    exact ⟨rfl, HB6⟩
                  · have e0 : (kk == 0) = false := by simpa using k0
                    have e1 : (kk == 1) = false := by simpa using k1
                    have e2 : (kk == 2) = false := by simpa using k2
                    have e3 : (kk == 3) = false := by simpa using k3
                    clear k0 k1 k2 k3
                    go_wp2_with fail
                    go_meet
                    exact ⟨rfl, In, A, HB0.out⟩
          case rest =>
            obtain ⟨rfl, HB5⟩ := hcut
            clear d0 d1 d2 HB0 HN hkb
            obtain ⟨In2, A2, hh, hr, hw⟩ := HB5.out
            have HLH := Lib.hid (Len_heap hh)
            have HLR := Lib.hid (Len_ref hr hn)
            have HB2 := Lib.hid (And.intro hh (And.intro hr hw))
            clear hh hr hw HB5
            go_wp2_with fail
            refine HLH.out.mono ?_
            rintro r w6 ⟨rfl, rfl⟩
            go_wp2_with fail
            refine HLR.out.mono ?_
            rintro r w6 ⟨rfl, rfl⟩
            clear HLH HLR
            go_wp2_with fail
            go_loopw [15] (fun iv wr => ∃ v : Nat, iv = .int .i64 (v : Int) ∧ v ≤ n + 2 ∧ Hid (IsHeap wr L n In2 A2 ∧ IsRef wr B R n In2 A2 ∧ Below w.heap.size w wr)) (fun iv _ => n + 2 - (intOf iv).toNat)
            case atStart => exact ⟨0, rfl, Nat.zero_le _, HB2⟩
            case round =>
              clear HB2
              obtain ⟨v, rfl, hv, HB2⟩ := hrel
              by_cases hv1 : v ≤ n + 1
              · have hvz : (v : Int) ≤ (n : Int) + 1 := by omega
                have hhas := Has_heap HB2.out.1 (v : Int)
                have hact := Activity_heap HB2.out.1 (v : Int)
                have href := act_ref HB2.out.2.1 v hv1 hn
                rw [Int.toNat_natCast] at hhas hact
                have hr0 := HB2.out.2.1.c0
                by_cases hin : 1 ≤ v ∧ v ≤ n
                · rw [isV_nat hin.1 hin.2] at hhas hact href
                  rw [if_pos rfl] at hact href
                  rw [Bool.true_and] at hhas
                  obtain ⟨u, rfl⟩ : ∃ u, v = u + 1 := ⟨v - 1, by omega⟩
                  obtain ⟨ha, hp⟩ := HB2.out.2.1.ins.resolve_left (by omega)
                  rw [ha] at hr0
                  have hc := hp.cell (i := u) (by omega)
                  unfold inF at hc
                  have z1 : (1 : Int) ≤ (u : Int) + 1 := by omega
                  have z2 : (u : Int) + 1 ≤ (n : Int) := by omega
                  have u0 : (0 : Int) ≤ (u : Int) := by omega
                  have ub : (u : Int) < (n : Int) := by omega
                  push_cast at hhas hact href hvz ⊢
                  generalize In2 (u + 1) = x at *
                  generalize A2 (u + 1) = y at *
                  have HHAS := Lib.hid hhas
                  have HACT := Lib.hid hact
                  have HREF := Lib.hid href
                  clear hhas hact href ha hp
                  go_wp2_with fail
                  refine HHAS.out.mono ?_
                  rintro r w6 ⟨rfl, rfl⟩
                  go_wp2_with fail
                  refine HACT.out.mono ?_
                  rintro r w6 ⟨rfl, rfl⟩
                  go_wp2_with fail
                  refine HREF.out.mono ?_
                  rintro r w6 ⟨rfl, rfl⟩
                  go_wp2_with fail
                  go_roundw
                  case rel => exact ⟨u + 2, by go_num, by omega, HB2⟩
                  case measure => simp [intOf]; omega
                · have hf : isV n (v : Int) = false := by unfold isV; simp; omega
                  rw [hf] at hhas hact href
                  rw [if_neg (by simp)] at hact href
                  rw [Bool.false_and] at hhas
                  have HHAS := Lib.hid hhas
                  have HACT := Lib.hid hact
                  have HREF := Lib.hid href
                  clear hhas hact href hf
                  by_cases hv0 : v = 0
                  · subst hv0
                    go_wp2_with fail
                    refine HHAS.out.mono ?_
                    rintro r w6 ⟨rfl, rfl⟩
                    go_wp2_with fail
                    refine HACT.out.mono ?_
                    rintro r w6 ⟨rfl, rfl⟩
                    go_wp2_with fail
                    refine HREF.out.mono ?_
                    rintro r w6 ⟨rfl, rfl⟩
                    go_wp2_with fail
                    go_roundw
                    case rel => exact ⟨1, by go_num, by omega, HB2⟩
                    case measure => simp [intOf]
                  · have z1 : (1 : Int) ≤ (v : Int) := by omega
                    have z2 : ¬ (v : Int) ≤ (n : Int) := by omega
                    have z2d : decide ((v : Int) ≤ (n : Int)) = false := by simpa using z2
                    go_wp2_with fail
                    refine HHAS.out.mono ?_
                    rintro r w6 ⟨rfl, rfl⟩
                    go_wp2_with fail
                    refine HACT.out.mono ?_
                    rintro r w6 ⟨rfl, rfl⟩
                    go_wp2_with fail
                    refine HREF.out.mono ?_
                    rintro r w6 ⟨rfl, rfl⟩
                    go_wp2_with fail
                    go_roundw
                    case rel => exact ⟨v + 1, by go_num, by omega, HB2⟩
                    case measure => simp [intOf]; omega
              · have hvz : ¬ (v : Int) ≤ (n : Int) + 1 := by omega
                have hvd : decide ((v : Int) ≤ (n : Int) + 1) = false := by simpa using hvz
                have HB3 : Hid (Both w wr B L R n) := ⟨In2, A2, HB2.out⟩
                go_wp2_with fail
                go_roundw
                case rel => exact ⟨i + 1, by go_num, by omega, HB3⟩
                case measure => simp [intOf]; omega
        · obtain rfl : i = m := by omega
          have hltz : ¬ (i : Int) < (i : Int) := by omega
          go_wp2_with fail
          go_ret
          obtain ⟨_, _, _, _, hb⟩ := HH.out
          exact ⟨rfl, hb⟩
    · by_cases hs2 : s < 0 ∨ 100000 < s
      · rcases hs2 with hs2 | hs2
        · have s1 : ¬ (60 : Int) < s := by omega
          have s1d : decide ((60 : Int) < s) = false := by simpa using s1
          go_enter Try.func3, Try.ntmps3
          go_wp2_with fail
          refine (HAW.out w).mono ?_
          rintro e w1 ⟨rfl, hB1⟩
          have HB1 := Lib.hid hB1
          clear hB1
          go_wp2_with fail
          refine (New_err s w1 (by omega)).mono ?_
          rintro e w2 ⟨rfl, rfl⟩
          go_wp2_with fail
          go_ret
          exact ⟨rfl, HB1.out⟩
        · have s1 : (60 : Int) < s := by omega
          have s2 : ¬ s ≤ (100000 : Int) := by omega
          have s2d : decide (s ≤ (100000 : Int)) = false := by simpa using s2
          have s3 : ¬ s < 0 := by omega
          have s3d : decide (s < 0) = false := by simpa using s3
          go_enter Try.func3, Try.ntmps3
          go_wp2_with fail
          refine (HAW.out w).mono ?_
          rintro e w1 ⟨rfl, hB1⟩
          have HB1 := Lib.hid hB1
          clear hB1
          go_wp2_with fail
          refine (New_err s w1 (by omega)).mono ?_
          rintro e w2 ⟨rfl, rfl⟩
          go_wp2_with fail
          go_ret
          exact ⟨rfl, HB1.out⟩
      · have s1 : (60 : Int) < s := by omega
        have s2 : s ≤ (100000 : Int) := by omega
        go_enter Try.func3, Try.ntmps3
        go_wp2_with fail
        refine (HAW.out w).mono ?_
        rintro e w1 ⟨rfl, hB1⟩
        have HB1 := Lib.hid hB1
        clear hB1
        go_wp2_with fail
        refine (HAW.out w1).mono ?_
        rintro e w2 ⟨rfl, hB2⟩
        have HB2 := Lib.hid hB2
        clear hB2
        go_wp2_with fail
        go_ret
        exact ⟨rfl, HB1.out.trans (HB2.out.mono HB1.out.size)⟩
  · have h80z : (80 : Int) < (m : Int) := by omega
    go_enter Try.func3, Try.ntmps3
    go_wp2_with fail
    refine (HAW.out w).mono ?_
    rintro e w1 ⟨rfl, hB1⟩
    have HB1 := Lib.hid hB1
    clear hB1
    go_wp2_with fail
    refine (HAW.out w1).mono ?_
    rintro e w2 ⟨rfl, hB2⟩
    have HB2 := Lib.hid hB2
    clear hB2
    go_wp2_with fail
    go_ret
    exact ⟨rfl, HB1.out.trans (HB2.out.mono HB1.out.size)⟩
end Go.Proofs.Ytanmpokfeidlcaa.Hp
