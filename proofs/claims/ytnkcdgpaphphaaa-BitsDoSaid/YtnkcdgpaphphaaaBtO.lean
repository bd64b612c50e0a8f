/- Contracts of Trim, Bits, Value, Const, Inputs. -/
import Derived.Test.YtnkcdgpaphphaaaBtB
namespace Go.Proofs.Ytnkcdgpaphphaaa.Gr
open Go Go.RowKit Go.Lib Go.Maps

theorem bmod_half (n : Int) {w : Nat} (hw : 0 < w) : trimZ n w = (n + (2 ^ (w - 1) : Nat)) % (2 ^ w : Nat) - (2 ^ (w - 1) : Nat) := by
  have hp := pow_half hw
  have hq := pow_pos' (w - 1)
  unfold trimZ Int.bmod
  rw [hp]
  generalize 2 ^ (w - 1) = p at *
  have h1 := Int.emod_nonneg n (show ((2 * p : Nat) : Int) ≠ 0 by omega)
  have h2 := Int.emod_lt_of_pos n (show (0 : Int) < ((2 * p : Nat) : Int) by omega)
  rw [← Int.emod_add_emod]
  generalize n % ((2 * p : Nat) : Int) = r at *
  show (if r < (((2 * p : Nat) : Int) + 1) / 2 then r else r - ((2 * p : Nat) : Int)) = _
  split
  · rw [Int.emod_eq_of_lt (by omega) (by omega)]; omega
  · rw [show r + (p : Int) = (r - (p : Int)) + ((2 * p : Nat) : Int) by omega, Int.add_emod_right, Int.emod_eq_of_lt (by omega) (by omega)]; omega
theorem shifted (n : Int) {w u : Nat} (hw : 0 < w) (hu : u + w = 64) : IntKind.i64.wrap (n * 2 ^ u) / 2 ^ u = trimZ n w := by
  have c1 : ((2 ^ (w - 1) : Nat) : Int) = 2 ^ (w - 1) := by push_cast; rfl
  have c2 : ((2 ^ w : Nat) : Int) = 2 ^ w := by push_cast; rfl
  have e1 : (9223372036854775808 : Int) = 2 ^ u * ((2 ^ (w - 1) : Nat) : Int) := by
    rw [c1, ← Int.pow_add, show u + (w - 1) = 63 by omega]; rfl
  have e2 : (18446744073709551616 : Int) = 2 ^ u * ((2 ^ w : Nat) : Int) := by
    rw [c2, ← Int.pow_add, hu]; rfl
  have hp : (0 : Int) < 2 ^ u := Int.pow_pos (by omega)
  rw [IntKind.wrap_i64, e1, e2, Int.mul_comm n, ← Int.mul_add, Int.mul_emod_mul_of_pos _ _ hp, ← Int.mul_sub, Int.mul_ediv_cancel_left _ (by omega), bmod_half n hw]

set_option maxHeartbeats 1000000 in
theorem Trim_any (n w : Int) (W : World) : Calls Try.prog 42 #[.int .i64 n, .int .i64 w] W fun e w' => e = .returned (.int .i64 (trimZ n (lim w))) ∧ W = w' := by
  have HL := Lib.hid (limit_any w W)
  have h1 := lim_pos w
  have h2 := lim_le w
  generalize lim w = m at *
  obtain ⟨u, hu⟩ : ∃ u, u = 64 - m := ⟨_, rfl⟩
  have HE : Hid (RowKit.wrap64 (n * 2 ^ u) / 2 ^ u = trimZ n m) := by
    unfold Hid RowKit.wrap64
    rw [← IntKind.wrap_i64]
    exact shifted n (by omega) (by omega)
  have e1 : (64 : Int) - (m : Int) = (u : Int) := by omega
  have e2 : min u 64 = u := by omega
  have hu0 : (0 : Int) ≤ (u : Int) := by omega
  have hu1 : u ≤ 64 := by omega
  clear hu
  go_enter Try.func42, Try.ntmps42
  go_wp2_with fail
  refine HL.out.mono ?_
  rintro e w' ⟨rfl, rfl⟩
  go_wp2_with fail
  go_ret
  rw [← HE.out]
  exact ⟨rfl, rfl⟩

theorem and_one (x : Int) : bits .and .i64 x 1 = x % 2 := by
  show IntKind.i64.wrap ((BitVec.ofInt 64 x &&& BitVec.ofInt 64 1).toNat : Int) = _
  have h2 : (BitVec.ofInt 64 (1 : Int)).toNat = 1 := by decide
  rw [BitVec.toNat_and, h2, Nat.and_one_is_mod, wrap_i64 (by omega) (by omega), BitVec.toNat_ofInt]
  omega
def bitI (n : Int) (k : Nat) : Bool := decide ((n / (2 ^ k : Nat)) % 2 = 1)
theorem bitI_eq (n : Int) (k : Nat) : (bits .and .i64 (n / 2 ^ k) 1 == 1) = bitI n k := by
  rw [and_one]; unfold bitI
  have e : ((2 ^ k : Nat) : Int) = 2 ^ k := by push_cast; rfl
  rw [e]
  by_cases h : n / 2 ^ k % 2 = 1
  · rw [h]; rfl
  · rw [decide_eq_false h]; simp [h]
theorem bitsL_get {n : Int} {m k : Nat} (h : k < m) : (bitsL n m).getD k false = bitI n k := by
  unfold bitsL bitI
  rw [List.getD_eq_getElem?_getD, List.getElem?_map, List.getElem?_range h]; rfl

set_option maxRecDepth 100000 in
set_option maxHeartbeats 1000000 in
theorem Bits_any (n w : Int) (W : World) (hn : -9223372036854775808 ≤ n ∧ n ≤ 9223372036854775807) : Calls Try.prog 34 #[.int .i64 n, .int .i64 w] W fun e w' => e = .returned (.slice (some ⟨W.heap.size, 0, none⟩) (lim w) (lim w)) ∧ Below W.heap.size W w' ∧ RowAt w' W.heap.size 4 (lim w) (fun i => .bool (bitI n i)) := by
  have HL := Lib.hid (limit_any w W)
  have h1 := lim_pos w
  have h2 := lim_le w
  generalize lim w = m at *
  have hm := fun V => run_make_row' (P := Try.prog) 23 4 (.bool false) 1 Try.underlying23 infoBool rfl .i64 .i64 m (by omega) (by omega) V
  have START : Hid (RowAt (W.alloc (.cells (madeCells #[.bool false] m) 4)) W.heap.size 4 m (fun i => .bool (if i < 0 then bitI n i else false)) ∧ Below W.heap.size W (W.alloc (.cells (madeCells #[.bool false] m) 4))) :=
    ⟨RowAt.of_made (heap_alloc_new W _) (fun i _ => by simp), (Below.refl _ _).alloc (Nat.le_refl _) _⟩
  have HN := Lib.hid hn
  clear hn
  go_enter Try.func34, Try.ntmps34
  go_wp2_with fail
  refine HL.out.mono ?_
  rintro e w' ⟨rfl, rfl⟩
  go_wp2_with fail
  go_loopw [6, 12] (fun _ iv wr => ∃ k : Nat, iv = .int .i64 (k : Int) ∧ k ≤ m ∧ Hid (RowAt wr W.heap.size 4 m (fun i => .bool (if i < k then bitI n i else false)) ∧ Below W.heap.size W wr)) (fun _ iv _ => m - (RowKit.intOf iv).toNat)
  case atStart => exact ⟨0, rfl, Nat.zero_le _, START⟩
  case round =>
    obtain ⟨k, rfl, hk, HH⟩ := hrel
    by_cases hlt : k < m
    · have hlz : (k : Int) < (m : Int) := by omega
      have k0 : (0 : Int) ≤ (k : Int) := by omega
      have k64 : min k 64 = k := by omega
      have HB := Lib.hid (bitI_eq n k)
      have f0 := HH.out.1.free k
      have c0 := HH.out.1.cell hlt
      have HP : Hid (RowAt (wr.setCell ⟨W.heap.size, k, none⟩ (.bool (bits .and .i64 (n / 2 ^ k) 1 == 1))) W.heap.size 4 m (fun i => .bool (if i < k + 1 then bitI n i else false)) ∧ Below W.heap.size W (wr.setCell ⟨W.heap.size, k, none⟩ (.bool (bits .and .i64 (n / 2 ^ k) 1 == 1)))) := by
        refine ⟨(HH.out.1.set k _).congr fun i hi => ?_, HH.out.2.setCell (Nat.le_refl _) _⟩
        by_cases e : i = k
        · subst e; rw [upd_same, if_pos (by omega), HB.out]
        · rw [upd_ne _ _ _ e]
          by_cases q : i < k
          · rw [if_pos q, if_pos (by omega)]
          · rw [if_neg q, if_neg (by omega)]
      generalize (if k < k then bitI n k else false) = y at *
      clear HH HB
      go_wp2_with fail
      go_roundw
      case rel => exact ⟨k + 1, by go_num, by omega, HP⟩
      case measure => simp [RowKit.intOf]; omega
    · obtain rfl : k = m := by omega
      have hlz : ¬ (k : Int) < (k : Int) := by omega
      have HF : Hid (Below W.heap.size W wr ∧ RowAt wr W.heap.size 4 k (fun i => .bool (bitI n i))) := ⟨HH.out.2, HH.out.1.congr fun i hi => by rw [if_pos hi]⟩
      clear HH
      go_wp2_with fail
      go_ret
      exact ⟨rfl, HF.out.1, HF.out.2⟩

theorem or_pow (a k : Nat) (ha : a < 2 ^ k) (hk : k ≤ 16) : bits .or .i64 (a : Int) (2 ^ k) = ((a + 2 ^ k : Nat) : Int) := by
  have hp : 2 ^ k ≤ 2 ^ 16 := Nat.pow_le_pow_right (by omega) hk
  have h1 : (BitVec.ofInt 64 (a : Int)).toNat = a := by
    rw [BitVec.ofInt_natCast, BitVec.toNat_ofNat]; exact Nat.mod_eq_of_lt (by omega)
  have h2 : (BitVec.ofInt 64 (2 ^ k : Int)).toNat = 2 ^ k := by
    have : (2 ^ k : Int) = ((2 ^ k : Nat) : Int) := by push_cast; rfl
    rw [this, BitVec.ofInt_natCast, BitVec.toNat_ofNat]; exact Nat.mod_eq_of_lt (by omega)
  show IntKind.i64.wrap ((BitVec.ofInt 64 (a : Int) ||| BitVec.ofInt 64 (2 ^ k : Int)).toNat : Int) = _
  rw [BitVec.toNat_or, h1, h2]
  have : a ||| 2 ^ k = a + 2 ^ k := by
    rw [Nat.or_comm, Nat.add_comm]
    have := Nat.two_pow_add_eq_or_of_lt ha 1
    simpa using this.symm
  rw [this]
  exact wrap_i64 (by omega) (by omega)

/-- What the first so many come to. -/
def mUn (M : Nat → Bool) (k : Nat) : Nat := un ((List.range k).map M)
theorem mUn_succ (M : Nat → Bool) (k : Nat) : mUn M (k + 1) = mUn M k + 2 ^ k * (M k).toNat := by
  unfold mUn; rw [List.range_succ, List.map_append, un_append]; simp [un]
theorem mUn_lt (M : Nat → Bool) (k : Nat) : mUn M k < 2 ^ k := by
  have := un_lt ((List.range k).map M); simpa [mUn] using this

set_option maxRecDepth 100000 in
set_option maxHeartbeats 1000000 in
theorem Value_any (W : World) (a : Option Addr) (n c : Nat) (M : Nat → Bool) (ha : ArgV (fun j => .bool (M j)) W a n) (hn : n ≤ 9223372036854775807) :
    Calls Try.prog 36 #[.slice a n c] W fun e w' => e = .returned (.int .i64 (trimZ (mUn M (min n 16) : Int) (lim (min n 16 : Nat)))) ∧ W = w' := by
  obtain ⟨m, hm⟩ : ∃ m, m = min n 16 := ⟨_, rfl⟩
  have e1 : min (n : Int) 16 = (m : Int) := by omega
  have hm1 : m ≤ 16 := by omega
  have hmn : m ≤ n := by omega
  rw [← hm]
  have HT : Hid (∀ V, Calls Try.prog 42 #[.int .i64 (mUn M m : Int), .int .i64 (m : Int)] V fun e w' => e = .returned (.int .i64 (trimZ (mUn M m : Int) (lim (m : Int)))) ∧ V = w') := fun V => Trim_any _ _ V
  have HA := Lib.hid ha
  have START : W = W := rfl
  clear ha hm
  go_enter Try.func36, Try.ntmps36
  go_wp2_with fail
  go_loopw [4, 5, 10] (fun sv _ iv wr => ∃ k : Nat, sv = .int .i64 (mUn M k : Int) ∧ iv = .int .i64 (k : Int) ∧ k ≤ m ∧ SameW wr W) (fun _ _ iv _ => m - (RowKit.intOf iv).toNat)
  case atStart => exact ⟨0, rfl, rfl, Nat.zero_le _, rfl⟩
  case round =>
    obtain ⟨k, rfl, rfl, hk, HS⟩ := hrel
    obtain rfl : wr = W := HS
    by_cases hlt : k < m
    · have hlz : (k : Int) < (m : Int) := by omega
      have hln : (k : Int) < (n : Int) := by omega
      have k0 : (0 : Int) ≤ (k : Int) := by omega
      have k64 : min k 64 = k := by omega
      obtain ⟨b, off, rfl, hb, hc⟩ := HA.out.resolve_left (by omega)
      have cc : wr.cell? ⟨b, off + k, none⟩ = some (.bool (M k)) := hc k (by omega)
      have HU := Lib.hid (mUn_succ M k)
      have HO := Lib.hid (or_pow (mUn M k) k (mUn_lt M k) (by omega))
      have hpw : IntKind.i64.wrap (2 ^ k) = 2 ^ k := by
        have hp : 2 ^ k ≤ 2 ^ 16 := Nat.pow_le_pow_right (by omega) (show k ≤ 16 by omega)
        have : (2 ^ k : Int) = ((2 ^ k : Nat) : Int) := by push_cast; rfl
        rw [this]
        generalize 2 ^ k = p at *
        exact wrap_i64 (by omega) (by omega)
      generalize hu : mUn M k = u at *
      clear hc hu
      cases hM : M k
      · rw [hM] at cc HU
        have HU2 : Hid (mUn M (k + 1) = u) := by rw [Hid, HU.out]; simp
        clear hM
        go_wp2_with fail
        go_roundw
        case rel => exact ⟨k + 1, by rw [HU2.out], by go_num, by omega, rfl⟩
        case measure => simp [RowKit.intOf]; omega
      · rw [hM] at cc HU
        have HU2 : Hid (mUn M (k + 1) = u + 2 ^ k) := by rw [Hid, HU.out]; simp
        clear hM
        go_wp2_with fail
        go_roundw
        case rel => exact ⟨k + 1, by rw [HU2.out, ← HO.out], by go_num, by omega, rfl⟩
        case measure => simp [RowKit.intOf]; omega
    · obtain rfl : k = m := by omega
      have hlz : ¬ (k : Int) < (k : Int) := by omega
      go_wp2_with fail
      refine (HT.out _).mono ?_
      rintro e w' ⟨rfl, rfl⟩
      go_wp2_with fail
      go_ret
      exact ⟨rfl, rfl⟩
end Go.Proofs.Ytnkcdgpaphphaaa.Gr
