/- The walk of HeapBack. -/
import Derived.Test.YtanmpokfeidlcaaHpHalves
import Derived.Deep.AppendLies
namespace Go.Proofs.Ytanmpokfeidlcaa.Hp
open Go Go.RowKit Go.Lib

/-- All but the first j of X. -/
def remF (X : Nat → Nat) (j : Nat) : Nat → Bool := fun v => decide (∀ k, k < j → X k ≠ v)
theorem remF_zero (X : Nat → Nat) : remF X 0 = fun _ => true := by funext v; unfold remF; simp
theorem remF_iff {X : Nat → Nat} {j v : Nat} : remF X j v = true ↔ ∀ k, k < j → X k ≠ v := by unfold remF; simp
theorem remF_congr {X Y : Nat → Nat} {j : Nat} (h : ∀ k, k < j → X k = Y k) : remF X j = remF Y j := by
  funext v; rw [Bool.eq_iff_iff, remF_iff, remF_iff]
  constructor <;> intro q k hk <;> have := q k hk <;> have := h k hk <;> omega
theorem remF_take (X : Nat → Nat) (j : Nat) : upd (remF X j) (X j) false = remF X (j + 1) := by
  funext v; rw [Bool.eq_iff_iff, remF_iff]
  by_cases e : v = X j
  · rw [e, upd_same]
    constructor
    · intro q; cases q
    · intro q; exact absurd rfl (q j (by omega))
  · rw [upd_ne _ _ _ e, remF_iff]
    constructor
    · intro q k hk
      by_cases z : k = j
      · subst z; exact fun y => e y.symm
      · exact q k (by omega)
    · intro q k hk; exact q k (by omega)
theorem remF_out (X : Nat → Nat) {j k : Nat} (h : k < j) : remF X j (X k) = false := by
  rw [← Bool.not_eq_true, remF_iff]; intro q; exact q k h rfl
theorem remF_put {X : Nat → Nat} {j : Nat} (h : remF X j (X j) = true) : upd (remF X (j + 1)) (X j) true = remF X j := by
  funext v; rw [Bool.eq_iff_iff]
  by_cases e : v = X j
  · rw [e, upd_same, h]
  · rw [upd_ne _ _ _ e, remF_iff, remF_iff]
    constructor
    · intro q k hk; exact q k (by omega)
    · intro q k hk
      by_cases z : k = j
      · subst z; exact fun y => e y.symm
      · exact q k (by omega)
theorem cnt_remF {n : Nat} {A : Nat → Int} {X : Nat → Nat} {j : Nat} (h : ∀ k, k < j → IsNext n A (remF X k) (X k)) : cnt n (remF X j) + j = n := by
  induction j with
  | zero => rw [remF_zero, cnt_all (fun _ _ _ => rfl)]; rfl
  | succ j ih =>
    have h1 := ih (fun k hk => h k (by omega))
    have h2 := h j (by omega)
    have h3 := cnt_take h2.pos h2.le h2.here
    rw [remF_take] at h3
    omega

def vals (X : Nat → Nat) (j : Nat) : List Value := (List.range j).map fun k => .int .i64 (X k : Int)
theorem vals_step (X : Nat → Nat) (j v : Nat) : vals X j ++ [.int .i64 (v : Int)] = vals (upd X j v) (j + 1) := by
  unfold vals
  rw [List.range_succ, List.map_append]
  congr 1
  · refine List.map_congr_left fun k hk => ?_
    rw [upd_ne _ _ _ (by have := List.mem_range.1 hk; omega)]
  · simp [upd_same]
theorem vals_at (X : Nat → Nat) {j k : Nat} (h : k < j) : (vals X j)[k]? = some (.int .i64 (X k : Int)) := by
  unfold vals; simp [h]

theorem owns_only {S : List Nat} {w w' : World} {base : Nat} {e : TypeId} {size : Nat} {v : Value} {n : Nat} {xs : List Value} (h : w.ownsRow base e size v n xs) (ho : Only S w w') (hS : ∀ b ∈ S, b < base) : w'.ownsRow base e size v n xs := by
  obtain ⟨h1, h2⟩ := h
  refine ⟨h1, ?_⟩
  rcases h2 with h2 | ⟨g, cap, cur, hv, hg, hh, r⟩
  · exact Or.inl h2
  · exact Or.inr ⟨g, cap, cur, hv, hg, by rw [ho.block g (lt_of_block hh) (fun q => by have := hS g q; omega)]; exact hh, r⟩
theorem IsHeap.grown {w w' : World} {L : Loc} {n : Nat} {In : Nat → Bool} {A : Nat → Int} (h : IsHeap w L n In A) {row : Option Nat} (hg : w.grownBy w' row) (hr : ∀ b ∈ L.all, some b ≠ row) : IsHeap w' L n In A :=
  h.of_heap (fun b hb => hg.block b (h.lt b hb) (hr b hb))
theorem owns_block {w : World} {base : Nat} {e : TypeId} {size : Nat} {v : Value} {n : Nat} {xs : List Value} (h : w.ownsRow base e size v n xs) : ∀ b, v.ownBlock = some b → base ≤ b := by
  intro b hb
  rcases h.2 with ⟨h2, _⟩ | ⟨g, cap, cur, hv, hg, _⟩
  · subst h2; cases hb
  · subst hv; simp [Value.ownBlock] at hb; omega
theorem owns_form {w : World} {base : Nat} {e : TypeId} {size : Nat} {v : Value} {n : Nat} {xs : List Value} (h : w.ownsRow base e size v n xs) (h0 : 0 < n) : ∃ g cap, v = .slice (some ⟨g, 0, none⟩) n cap ∧ base ≤ g ∧ g < w.heap.size := by
  rcases h.2 with ⟨_, h2⟩ | ⟨g, cap, cur, hv, hg, hh, _⟩
  · omega
  · exact ⟨g, cap, hv, hg, lt_of_block hh⟩

set_option maxHeartbeats 4000000 in
set_option maxRecDepth 100000 in
theorem HeapBack_law (a : Option Addr) (n c : Nat) (G : Nat → Int) (s : Nat) (w : World) (hr : ArgI w a n G) (hl : n ≤ 9223372036854775807) (hs : s < 256) (hG : ∀ j, -9223372036854775808 ≤ G j ∧ G j ≤ 9223372036854775807) :
    Calls Try.prog 6 #[.slice a n c, .int .u8 (s : Int)] w fun e w' => e = .returned (.bool true) ∧ Below w.heap.size w w' := by
  have HAW : Hid (∀ w, Calls Try.prog 8 #[] w fun e w' => e = .returned (.bool true) ∧ Below w.heap.size w w') := awake_any
  have HARG := Lib.hid hr
  have HGB := Lib.hid hG
  clear hr hG
  by_cases hbig : n ≤ 40 ∧ 0 < n
  · obtain ⟨h40, h0⟩ := hbig
    have h40z : ¬ (40 : Int) < (n : Int) := by omega
    have h40d : decide ((40 : Int) < (n : Int)) = false := by simpa using h40z
    have h0z : ((n : Int) == 0) = false := by simp; omega
    have hn : n ≤ 100000 := by omega
    obtain ⟨t, ht⟩ : ∃ t, t = s % n := ⟨_, rfl⟩
    have htn : t < n := by rw [ht]; exact Nat.mod_lt _ h0
    have hmod : (s : Int) % (n : Int) = (t : Int) := by rw [ht]; omega
    have hmod1 : ((s : Int)).tmod (n : Int) = (t : Int) := by rw [Int.tmod_eq_emod_of_nonneg (by omega)]; exact hmod
    have hn0 : n ≠ 0 := by omega
    obtain ⟨ii, hi, hz0, hz1, hz2⟩ := info_parts infoInt
    clear ht
    go_enter Try.func6, Try.ntmps6
    go_wp2_with fail
    refine (HAW.out w).mono ?_
    rintro e w1 ⟨rfl, hB1⟩
    have HB1 := Lib.hid hB1
    clear hB1
    go_wp2_with fail
    refine (New_ok n w1 hn).mono ?_
    rintro e w2 ⟨L, rfl, hh2, hb2, hl2⟩
    obtain ⟨B, hB⟩ : ∃ B, B = w2.heap.size := ⟨_, rfl⟩
    have HLT : Hid (∀ b ∈ L.all, b < B) := by rw [hB]; exact hh2.lt
    have HS0 : Hid (IsHeap w2 L n (fun _ => true) (fillA clipP G 0) ∧ Below w.heap.size w w2 ∧ (∀ b ∈ L.all, w.heap.size ≤ b) ∧ B ≤ w2.heap.size) := by
      rw [fillA_zero]
      exact ⟨hh2, HB1.out.trans (hb2.mono HB1.out.size), fun b hb => Nat.le_trans HB1.out.size (hl2 b hb), Nat.le_of_eq hB⟩
    have HLE : Hid (w.heap.size ≤ B) := by rw [hB]; exact HS0.out.2.1.size
    clear hh2 hb2 hl2 HB1 hB
    go_wp2_with fail
    go_loopw [7] (fun iv wr => ∃ j : Nat, iv = .int .i64 (j : Int) ∧ j ≤ n ∧ Hid (IsHeap wr L n (fun _ => true) (fillA clipP G j) ∧ Below w.heap.size w wr ∧ (∀ b ∈ L.all, w.heap.size ≤ b) ∧ B ≤ wr.heap.size)) (fun iv _ => n - (intOf iv).toNat)
    case atStart => exact ⟨0, rfl, Nat.zero_le _, HS0⟩
    case round =>
      obtain ⟨j, rfl, hj, HH⟩ := hrel
      by_cases hlt : j < n
      · have hltz : (j : Int) < (n : Int) := by omega
        obtain ⟨b, off, rfl, hb, hc⟩ := (HARG.out.below HH.out.2.1).resolve_left (by omega)
        have cj := hc j hlt
        have HST := Lib.hid (Bump_fillP HH.out.1 hlt (HGB.out j).2)
        generalize hg : G j = g at *
        clear hc hb hg
        go_wp2_with fail
        refine HST.out.mono ?_
        rintro e w3 ⟨rfl, h3, o3⟩
        have HH3 : Hid (IsHeap w3 L n (fun _ => true) (fillA clipP G (j + 1)) ∧ Below w.heap.size w w3 ∧ (∀ b ∈ L.all, w.heap.size ≤ b) ∧ B ≤ w3.heap.size) := ⟨h3, HH.out.2.1.trans (o3.below HH.out.2.1.size HH.out.2.2.1), HH.out.2.2.1, Nat.le_trans HH.out.2.2.2 o3.size⟩
        clear h3 o3
        go_wp2_with fail
        go_roundw
        case rel => exact ⟨j + 1, by go_num, by omega, HH3⟩
        case measure => simp [intOf]; omega
      · obtain rfl : j = n := by omega
        have hltz : ¬ (j : Int) < (j : Int) := by omega
        have HLL : Hid (∀ b ∈ L.all, w.heap.size ≤ b) := HH.out.2.2.1
        have HS1 : Hid (wr.ownsRow B 3 1 (.slice none 0 0) 0 (vals (fun _ => 0) 0) ∧ IsHeap wr L j (remF (fun _ => 0) 0) (fillA clipP G j) ∧ (∀ k, k < 0 → IsNext j (fillA clipP G j) (remF (fun _ => 0) k) 0) ∧ Below w.heap.size w wr ∧ B ≤ wr.heap.size) :=
          ⟨World.ownsRow_nil _ _ _ _, by rw [remF_zero]; exact HH.out.1, fun k hk => absurd hk (by omega), HH.out.2.1, HH.out.2.2.2⟩
        clear HH HS0
        generalize fillA clipP G j = A at *
        go_wp2_with fail
        go_loopw [8, 9] (fun ov iv wr => ∃ (i : Nat) (X : Nat → Nat), iv = .int .i64 (i : Int) ∧ i ≤ t + 1 ∧ Hid (wr.ownsRow B 3 1 ov i (vals X i) ∧ IsHeap wr L j (remF X i) A ∧ (∀ k, k < i → IsNext j A (remF X k) (X k)) ∧ Below w.heap.size w wr ∧ B ≤ wr.heap.size)) (fun _ iv _ => t + 1 - (intOf iv).toNat)
        case atStart => exact ⟨0, fun _ => 0, rfl, Nat.zero_le _, HS1⟩
        case round =>
          obtain ⟨i, X, rfl, hit, HH⟩ := hrel
          by_cases hlt2 : i ≤ t
          · have hltz2 : (i : Int) ≤ (t : Int) := by omega
            have HNX : Hid (Calls Try.prog 13 #[.pointer (some ⟨L.h, 0, none⟩)] wr fun r w' => ∃ v : Nat, r = .returned (.tuple #[.int .i64 (v : Int), .bool true]) ∧ IsNext j A (remF X i) v ∧ IsHeap w' L j (upd (remF X i) v false) A ∧ Only L.all wr w') := by
              refine (Next_heap HH.out.2.1).mono ?_
              rintro r w' ⟨v, b, rfl, ho, ⟨rfl, h1, h2⟩ | ⟨rfl, rfl, h1, _⟩⟩
              · exact ⟨v, rfl, h1, h2, ho⟩
              · have := cnt_remF HH.out.2.2.1; omega
            go_wp2_with fail
            refine HNX.out.mono ?_
            rintro r w3 ⟨v, rfl, hv, h3, o3⟩
            have hh := Has_heap h3 (v : Int)
            rw [isV_nat hv.pos hv.le, Int.toNat_natCast, upd_same] at hh
            have HHAS := Lib.hid hh
            have hown := owns_only HH.out.1 o3 HLT.out
            have HO := Lib.hid hown
            have HS3 := Lib.hid (Nat.le_trans HH.out.2.2.2.2 o3.size)
            have HB3 := Lib.hid (HH.out.2.2.2.1.trans (o3.below HH.out.2.2.2.1.size HLL.out))
            have HV := Lib.hid (And.intro hv h3)
            clear hh hv h3 o3 hown HNX
            go_wp2_with fail
            refine HHAS.out.mono ?_
            rintro r w4 ⟨rfl, rfl⟩
            go_wp2_with (at_builtin; refine wpList_append_lies _ rfl _ _ 46 rfl B 3 ii (.int .i64 0) 1 8 Try.underlying46 hi hz0 hz1 hz2 rfl (by decide) _ _ _ rfl (HO.out.alloc _) ⟨w3.heap.size, 0, none⟩ 1 1 [.int .i64 (v : Int)] rfl rfl ?c1 ?c2 (by decide) ?c3 ?c4 ?c5 (w3.heap.size + 1) (by simp) ?_)
            case c1 =>
              intro q u hq
              match q, hq with
              | 0, hq => simp at hq; subst hq; simp [Addr.add]
            case c2 => intro u hu; simp at hu; subst hu; rfl
            case c3 => unfold maxLen; omega
            case c4 => omega
            case c5 => have := HS3.out; simp; omega
            · intro g cap w5 hown' hgrow _ _
              have HH5 : Hid (w5.ownsRow B 3 1 (.slice (some ⟨g, 0, none⟩) (i + 1) cap) (i + 1) (vals (upd X i v) (i + 1)) ∧ IsHeap w5 L j (remF (upd X i v) (i + 1)) A ∧ (∀ k, k < i + 1 → IsNext j A (remF (upd X i v) k) (upd X i v k)) ∧ Below w.heap.size w w5 ∧ B ≤ w5.heap.size) := by
                have hpre : ∀ k, k ≤ i → remF (upd X i v) k = remF X k := fun k hk => remF_congr (fun q hq => upd_ne _ _ _ (by omega))
                have hrem : remF (upd X i v) (i + 1) = upd (remF X i) v false := by rw [← remF_take, hpre i (Nat.le_refl _), upd_same]
                refine ⟨by rw [← vals_step]; exact hown', ?_, fun k hk => ?_, ?_, ?_⟩
                · rw [hrem]
                  refine (HV.out.2.alloc _).grown hgrow (fun b hb e => ?_)
                  have h1 := owns_block HO.out b e.symm
                  have h2 := HLT.out b hb
                  omega
                · by_cases q : k = i
                  · subst q; rw [upd_same, hpre k (Nat.le_refl _)]; exact HV.out.1
                  · rw [upd_ne _ _ _ q, hpre k (by omega)]; exact HH.out.2.2.1 k (by omega)
                · refine (HB3.out.alloc HB3.out.size _).grown hgrow (by have := HB3.out.size; simp; omega) (fun k hk => ?_)
                  have h1 := owns_block HO.out k hk
                  have h2 := HLE.out
                  omega
                · exact Nat.le_trans (Nat.le_trans HS3.out (by simp)) hgrow.size
              clear hown' hgrow
              go_wp2_with fail
              go_roundw
              case rel => exact ⟨i + 1, upd X i v, by go_num, by omega, HH5⟩
              case measure => simp [intOf]; omega
          · obtain rfl : i = t + 1 := by omega
            have hltz2 : ¬ ((t : Int) + 1) ≤ (t : Int) := by omega
            obtain ⟨g, cap, rfl, hgB, hgs⟩ := owns_form HH.out.1 (by omega)
            have hcell : ∀ k, k < t + 1 → wr.cell? ⟨g, k, none⟩ = some (.int .i64 (X k : Int)) := fun k hk => by rw [HH.out.1.cellAt k (by omega)]; exact vals_at X hk
            have HGL : Hid (g ∉ L.all) := fun q => by have := HLT.out g q; omega
            have HX : Hid (∀ k, k < t + 1 → IsNext j A (remF X k) (X k)) := HH.out.2.2.1
            have HS2 : Hid (IsHeap wr L j (remF X (t + 1)) A ∧ (∀ k, k < t + 1 → wr.cell? ⟨g, k, none⟩ = some (.int .i64 (X k : Int))) ∧ g < wr.heap.size ∧ Below w.heap.size w wr) := ⟨HH.out.2.1, hcell, hgs, HH.out.2.2.2.1⟩
            clear HH hcell hgs
            push_cast
            go_wp2_with fail
            go_loopw [12] (fun iv wr => ∃ i : Nat, iv = .int .i64 ((i : Int) - 1) ∧ i ≤ t + 1 ∧ Hid (IsHeap wr L j (remF X i) A ∧ (∀ k, k < t + 1 → wr.cell? ⟨g, k, none⟩ = some (.int .i64 (X k : Int))) ∧ g < wr.heap.size ∧ Below w.heap.size w wr)) (fun iv _ => (intOf iv + 1).toNat)
            case atStart => exact ⟨t + 1, by go_num, Nat.le_refl _, HS2⟩
            case round =>
              clear HS2
              obtain ⟨i, rfl, hit, HH⟩ := hrel
              by_cases hz : 0 < i
              · obtain ⟨q, rfl⟩ : ∃ q, i = q + 1 := ⟨i - 1, by omega⟩
                have e1 : ((q + 1 : Nat) : Int) - 1 = (q : Int) := by omega
                rw [e1]
                have cq := HH.out.2.1 q (by omega)
                have qb : (q : Int) < (t : Int) + 1 := by omega
                have q0 : (0 : Int) ≤ (q : Int) := by omega
                have hx := HX.out q (by omega)
                have hp := Put_heap HH.out.1 ((X q : Nat) : Int)
                rw [isV_nat hx.pos hx.le, if_pos rfl, Int.toNat_natCast, remF_out X (by omega : q < q + 1), remF_put hx.here] at hp
                have HP1 := Lib.hid hp
                have HP2 : Hid (∀ w3, IsHeap w3 L j (remF X q) A → Calls Try.prog 11 #[.pointer (some ⟨L.h, 0, none⟩), .int .i64 (X q : Int)] w3 fun e w' => e = .returned (.bool false) ∧ IsHeap w' L j (remF X q) A ∧ Only L.all w3 w') := by
                  intro w3 h3
                  have hp := Put_heap h3 ((X q : Nat) : Int)
                  rw [isV_nat hx.pos hx.le, if_pos rfl, Int.toNat_natCast, hx.here, upd_self hx.here] at hp
                  exact hp
                have HXQ : Hid (∀ w3, Only L.all wr w3 → w3.cell? ⟨g, q, none⟩ = some (.int .i64 (X q : Int))) := fun w3 o3 => (World.cell?_of_block (w := wr) (o3.block g HH.out.2.2.1 HGL.out)).trans (HH.out.2.1 q (by omega))
                clear hx hp e1 hz
                generalize X q = x at *
                go_wp2_with fail
                refine HP1.out.mono ?_
                rintro r w3 ⟨rfl, h3, o3⟩
                have cq3 := HXQ.out w3 o3
                have HP3 := Lib.hid (HP2.out w3 h3)
                have O3 := Lib.hid o3
                clear h3 o3
                go_wp2_with fail
                refine HP3.out.mono ?_
                rintro r w4 ⟨rfl, h4, o4⟩
                have HH4 : Hid (IsHeap w4 L j (remF X q) A ∧ (∀ k, k < t + 1 → w4.cell? ⟨g, k, none⟩ = some (.int .i64 (X k : Int))) ∧ g < w4.heap.size ∧ Below w.heap.size w w4) := by
                  have oo := O3.out.trans o4
                  exact ⟨h4, fun k hk => (World.cell?_of_block (w := wr) (oo.block g HH.out.2.2.1 HGL.out)).trans (HH.out.2.1 k hk), Nat.lt_of_lt_of_le HH.out.2.2.1 oo.size, HH.out.2.2.2.trans (oo.below HH.out.2.2.2.size HLL.out)⟩
                clear h4 o4
                go_wp2_with fail
                go_roundw
                case rel => exact ⟨q, rfl, by omega, HH4⟩
                case measure => simp [intOf]
              · obtain rfl : i = 0 := by omega
                clear hz
                go_wp2_with fail
                go_loopw [13] (fun iv wr => ∃ i : Nat, iv = .int .i64 (i : Int) ∧ i ≤ t + 1 ∧ Hid (IsHeap wr L j (remF X i) A ∧ (∀ k, k < t + 1 → wr.cell? ⟨g, k, none⟩ = some (.int .i64 (X k : Int))) ∧ g < wr.heap.size ∧ Below w.heap.size w wr)) (fun iv _ => t + 1 - (intOf iv).toNat)
                case atStart => exact ⟨0, rfl, Nat.zero_le _, HH⟩
                case round =>
                  clear HH
                  obtain ⟨i, rfl, hit2, HH⟩ := hrel
                  by_cases hlt3 : i < t + 1
                  · have hltz3 : (i : Int) < (t : Int) + 1 := by omega
                    have ci := HH.out.2.1 i hlt3
                    have i0 : (0 : Int) ≤ (i : Int) := by omega
                    have hnx := Next_is HH.out.1 (HX.out i hlt3)
                    rw [remF_take] at hnx
                    have HNX := Lib.hid hnx
                    have HXI : Hid (∀ w3, Only L.all wr w3 → w3.cell? ⟨g, i, none⟩ = some (.int .i64 (X i : Int))) := fun w3 o3 => (World.cell?_of_block (w := wr) (o3.block g HH.out.2.2.1 HGL.out)).trans (HH.out.2.1 i hlt3)
                    clear hnx
                    generalize X i = x at *
                    go_wp2_with fail
                    refine HNX.out.mono ?_
                    rintro r w3 ⟨rfl, h3, o3⟩
                    have ci3 := HXI.out w3 o3
                    have HH3 : Hid (IsHeap w3 L j (remF X (i + 1)) A ∧ (∀ k, k < t + 1 → w3.cell? ⟨g, k, none⟩ = some (.int .i64 (X k : Int))) ∧ g < w3.heap.size ∧ Below w.heap.size w w3) :=
                      ⟨h3, fun k hk => (World.cell?_of_block (w := wr) (o3.block g HH.out.2.2.1 HGL.out)).trans (HH.out.2.1 k hk), Nat.lt_of_lt_of_le HH.out.2.2.1 o3.size, HH.out.2.2.2.trans (o3.below HH.out.2.2.2.size HLL.out)⟩
                    clear h3 o3
                    go_wp2_with fail
                    go_roundw
                    case rel => exact ⟨_, _, _, _, _, _, _, _, _, _, _, _, _, _, _, _, _, _, _, _, _, ⟨i + 1, by go_num, by omega, HH3⟩, rfl⟩
                    case measure => simp [intOf]; omega
                  · obtain rfl : i = t + 1 := by omega
                    have hltz3 : ¬ (t : Int) + 1 < (t : Int) + 1 := by omega
                    have hlen := Len_heap HH.out.1
                    have hcnt : (cnt j (remF X (t + 1)) : Int) = (j : Int) - ((t : Int) + 1) := by have := cnt_remF HX.out; omega
                    rw [hcnt] at hlen
                    have HLEN := Lib.hid hlen
                    clear hlen hcnt
                    push_cast
                    go_wp2_with fail
                    refine HLEN.out.mono ?_
                    rintro r w4 ⟨rfl, rfl⟩
                    go_wp2_with fail
                    go_ret
                    exact ⟨by simp, HH.out.2.2.2⟩
  · by_cases h40 : n ≤ 40
    · obtain rfl : n = 0 := by omega
      go_enter Try.func6, Try.ntmps6
      go_wp2_with fail
      refine (HAW.out w).mono ?_
      rintro e w1 ⟨rfl, hB1⟩
      have HB1 := Lib.hid hB1
      clear hB1
      go_wp2_with fail
      refine (HAW.out w1).mono ?_
      rintro e w2 ⟨rfl, hB2⟩
      have HB2 := Lib.hid hB2
      clear hB2
      go_wp2_with fail
      go_ret
      exact ⟨rfl, HB1.out.trans (HB2.out.mono HB1.out.size)⟩
    · have h40z : (40 : Int) < (n : Int) := by omega
      go_enter Try.func6, Try.ntmps6
      go_wp2_with fail
      refine (HAW.out w).mono ?_
      rintro e w1 ⟨rfl, hB1⟩
      have HB1 := Lib.hid hB1
      clear hB1
      go_wp2_with fail
      refine (HAW.out w1).mono ?_
      rintro e w2 ⟨rfl, hB2⟩
      have HB2 := Lib.hid hB2
      clear hB2
      go_wp2_with fail
      go_ret
      exact ⟨rfl, HB1.out.trans (HB2.out.mono HB1.out.size)⟩
end Go.Proofs.Ytanmpokfeidlcaa.Hp
