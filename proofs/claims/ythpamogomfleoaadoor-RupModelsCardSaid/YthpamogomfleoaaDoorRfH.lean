/- The document's Model and Brute (weirgateref01): a number's bits, and is there a model among all. -/
import Derived.Test.YthpamogomfleoaaDoorRfF
import Derived.Test.YthpamogomfleoaaDoorClK
namespace Go.Proofs.YthpamogomfleoaaDoor.Cl
open Go Go.RowKit Go.Lib Go.Sort Go.Proofs.YthpamogomfleoaaDoor.Up


/-- That number's bits. -/
def bits (n v : Nat) : List Bool := (List.range v).map fun i => decide ((n / 2 ^ i) % 2 = 1)
theorem bits_len (n v : Nat) : (bits n v).length = v := by simp [bits]
theorem bits_snoc (n v : Nat) : bits n (v + 1) = bits n v ++ [decide ((n / 2 ^ v) % 2 = 1)] := by simp [bits, List.range_succ]

set_option maxHeartbeats 4000000 in
set_option maxRecDepth 100000 in
theorem Model_any (n v : Nat) (w : World) (hn : n ≤ 1000000000) (hv : v ≤ 1000) :
    Calls Tryd.prog 27 #[.int .i64 (n : Int), .int .i64 (v : Int)] w fun e w' => ∃ a c, e = .returned (.slice a v c) ∧ RowIn Value.bool w' a (bits n v) ∧ Below w.heap.size w w' := by
  obtain ⟨ii, hi, hz0, hz1, hz2⟩ := info_parts info_bool
  go_enter Tryd.func27, Tryd.ntmps27
  go_wp2_with fail
  go_loopw [0, 5, 6] (fun nv ov iv wr => ∃ k : Nat, iv = .int .i64 (k : Int) ∧ k ≤ v ∧ nv = .int .i64 ((n / 2 ^ k : Nat) : Int) ∧ Hid (wr.ownsRow w.heap.size 4 1 ov k ((bits n k).map Value.bool) ∧ Below w.heap.size w wr)) (fun _ _ iv _ => v - (intOf iv).toNat)
  case atStart => exact ⟨0, rfl, Nat.zero_le _, by simp, World.ownsRow_nil _ _ _ _, Below.refl _ _⟩
  case round =>
    obtain ⟨k, rfl, hk, rfl, HO⟩ := hrel
    by_cases hlt : k < v
    · have hltz : (k : Int) < (v : Int) := by omega
      have HST : Hid ((bits n (k + 1)).map Value.bool = (bits n k).map Value.bool ++ [.bool (decide ((n / 2 ^ k) % 2 = 1))]) := by
        rw [Hid, bits_snoc, List.map_append]; rfl
      have HN : Hid (n / 2 ^ (k + 1) = n / 2 ^ k / 2) := by rw [Hid, Nat.pow_succ, Nat.div_div_eq_div_mul]
      have hy : n / 2 ^ k ≤ 1000000000 := Nat.le_trans (Nat.div_le_self _ _) hn
      have HOO := Lib.hid HO.out.1
      have HBB := Lib.hid HO.out.2
      clear HO
      generalize n / 2 ^ k = y at *
      have HX : Hid (decide (y % 2 = 1) = ((y : Int) % 2 == 1)) := by
        show _ = _
        rw [Bool.eq_iff_iff, decide_eq_true_iff, beq_iff_eq]
        omega
      go_wp2_with (at_builtin; refine wpList_append_own _ rfl (.tmp 12) (.tmp 16) 29 rfl w.heap.size 4 ii (.bool false) 1 1 Tryd.underlying29 hi hz0 hz1 hz2 rfl (by decide) _ _ _ rfl (HOO.out.alloc _) ⟨wr.heap.size, 0, none⟩ 1 1 [.bool ((y : Int) % 2 == 1)] rfl rfl ?c1 ?c2 ?c3 ?c4 ?c5 ?_)
      case c1 =>
        intro q u hq
        match q, hq with
        | 0, hq => simp at hq; subst hq; simp [Addr.add]
      case c2 => intro u hu; simp at hu; subst hu; rfl
      case c3 => unfold maxLen; omega
      case c4 => omega
      case c5 => have := HBB.out.size; simp; omega
      · intro v1 w1 hown1 hgrow1 _
        have HO2 : Hid (w1.ownsRow w.heap.size 4 1 v1 (k + 1) ((bits n (k + 1)).map Value.bool) ∧ Below w.heap.size w w1) := by
          refine ⟨by rw [HST.out, HX.out]; exact hown1, ?_⟩
          exact (HBB.out.alloc HBB.out.size _).grown hgrow1 (by have := HBB.out.size; simp; omega) (fun q hq => (HOO.out.lt q hq).1)
        clear hown1 hgrow1
        go_wp2_with fail
        go_roundw
        case rel => exact ⟨k + 1, by go_num, by omega, by rw [HN.out]; go_num, HO2⟩
        case measure => simp [intOf]; omega
    · obtain rfl : k = v := by omega
      have hltz : ¬ (k : Int) < (k : Int) := by omega
      have hO := HO.out.1
      have HB := Lib.hid HO.out.2
      obtain ⟨b2, d2, e2, h1, h2, _⟩ := own_val (zs := bits n k) (by rw [bits_len]; exact hO)
      rw [bits_len] at e2
      subst e2
      have H1 := Lib.hid h1
      clear hO HO h1 h2
      go_wp2_with fail
      go_ret
      exact ⟨b2, ⟨d2, rfl⟩, H1.out, HB.out⟩

/-- What Brute says. -/
def BruteB (cs : List (List Int)) (v : Nat) : Prop := ∃ n, n < 2 ^ v ∧ allB cs (bits n v) = true
def BruteE (w : World) (cs : List (List Int)) (v : Nat) (e : Ending) (w' : World) : Prop := ∃ r, e = .returned (.bool r) ∧ (r = true ↔ BruteB cs v) ∧ Below w.heap.size w w'

set_option maxHeartbeats 4000000 in
set_option maxRecDepth 100000 in
theorem Brute_any (rs : List Row) (a : Option Addr) (c v : Nat) (w : World) (hrs : RowsIn w a rs) (hl : rs.length ≤ 1000000000) (hv : v ≤ 20) :
    Calls Tryd.prog 12 #[.slice a rs.length c, .int .i64 (v : Int)] w (BruteE w (rs.map Row.zs) v) := by
  have HRS := Lib.hid hrs
  have hp : 2 ^ v ≤ 1048576 := Nat.pow_le_pow_right (by omega) hv (n := 2)
  clear hrs
  go_enter Tryd.func12, Tryd.ntmps12
  go_wp2_with fail
  go_loopw [5] (fun iv wr => ∃ k : Nat, iv = .int .i64 (k : Int) ∧ k ≤ 2 ^ v ∧ Hid ((∀ n, n < k → allB (rs.map Row.zs) (bits n v) = false) ∧ Below w.heap.size w wr)) (fun iv _ => 2 ^ v - (intOf iv).toNat)
  case atStart => exact ⟨0, rfl, Nat.zero_le _, fun j hj => absurd hj (by omega), Below.refl _ _⟩
  case round =>
    obtain ⟨k, rfl, hk, HO⟩ := hrel
    have hsh : wrap64 ((2 : Int) ^ v) = ((2 ^ v : Nat) : Int) := by
      have e : ((2 : Int) ^ v) = ((2 ^ v : Nat) : Int) := by norm_cast
      rw [e]; unfold wrap64; generalize 2 ^ v = x at *; omega
    by_cases hlt : k < 2 ^ v
    · have hltz : (k : Int) < wrap64 ((2 : Int) ^ v) := by rw [hsh]; omega
      clear hsh
      have HM := Lib.hid (Model_any k v wr (by omega) (by omega))
      have HALL : Hid (∀ w2 ma mc, RowsIn w2 a rs → RowIn Value.bool w2 ma (bits k v) → Calls Tryd.prog 14 #[.slice a rs.length c, .slice ma v mc] w2 fun e w' => e = .returned (.bool (allB (rs.map Row.zs) (bits k v))) ∧ w2 = w') := fun w2 ma mc h1 h2 => by
        have := RefAll_any a c rs ma mc (bits k v) w2 h1 (by omega) h2
        rw [bits_len] at this
        exact this
      have HY : Hid (allB (rs.map Row.zs) (bits k v) = true → BruteB (rs.map Row.zs) v) := fun q => ⟨k, hlt, q⟩
      have HF : Hid (allB (rs.map Row.zs) (bits k v) = false → ∀ n, n < k + 1 → allB (rs.map Row.zs) (bits n v) = false) := fun q n hn => by
        by_cases e : n = k
        · subst e; exact q
        · exact HO.out.1 n (by omega)
      generalize allB (rs.map Row.zs) (bits k v) = A at *
      have hcase : A = true ∨ A = false := by cases A <;> simp
      rcases hcase with q | q
      · subst q
        go_wp2_with (first
          | (go_at_call 27; refine HM.out.mono ?_; rintro e w1 ⟨ma, mc, rfl, hm1, hb1⟩)
          | (go_at_call 14; refine (HALL.out w1 ma mc (HRS.out.below (HO.out.2.trans (hb1.mono HO.out.2.size))) hm1).mono ?_; rintro e w2 ⟨rfl, rfl⟩))
        go_ret
        exact ⟨true, rfl, ⟨fun _ => HY.out trivial, fun _ => rfl⟩, HO.out.2.trans (hb1.mono HO.out.2.size)⟩
      · subst q
        go_wp2_with (first
          | (go_at_call 27; refine HM.out.mono ?_; rintro e w1 ⟨ma, mc, rfl, hm1, hb1⟩)
          | (go_at_call 14; refine (HALL.out w1 ma mc (HRS.out.below (HO.out.2.trans (hb1.mono HO.out.2.size))) hm1).mono ?_; rintro e w2 ⟨rfl, rfl⟩))
        have HO2 := Lib.hid (And.intro (HF.out trivial) (HO.out.2.trans (hb1.mono HO.out.2.size)))
        go_roundw
        case rel => exact ⟨k + 1, by go_num, by omega, HO2⟩
        case measure => simp [intOf]; omega
    · have hltz : ¬ (k : Int) < wrap64 ((2 : Int) ^ v) := by rw [hsh]; omega
      clear hsh
      have HN : Hid (¬ BruteB (rs.map Row.zs) v) := by
        rintro ⟨n, hn, q⟩
        rw [HO.out.1 n (by omega)] at q
        cases q
      go_wp2_with fail
      go_ret
      exact ⟨false, rfl, ⟨fun q => (by cases q), fun q => absurd q HN.out⟩, HO.out.2⟩
end Go.Proofs.YthpamogomfleoaaDoor.Cl
