/- The document's own Digits. -/
import Derived.Test.YtiimdehcfkoemaaDoorClZe
namespace Go.Proofs.YtiimdehcfkoemaaDoor.Cl
open Go Go.RowKit Go.Lib Go.Sort

theorem digits_small (u : Nat) (h : u < 10) : Lib.decDigits u = [UInt8.ofNat (48 + u)] := by rw [Lib.decDigits, dif_pos h]
theorem digits_big (u : Nat) (h : ¬ u < 10) : Lib.decDigits u = Lib.decDigits (u / 10) ++ Lib.decDigits (u % 10) := by
  rw [Lib.decDigits, dif_neg h, digits_small (u % 10) (by omega)]

set_option maxHeartbeats 4000000 in
set_option maxRecDepth 100000 in
theorem RefDigit_any (u : Nat) (h : u < 10) (w : World) :
    Calls Tryd.prog 48 #[.int .i64 (u : Int)] w (Itoad (u : Int) w) := by
  unfold Itoad
  have hcases : u = 0 ∨ u = 1 ∨ u = 2 ∨ u = 3 ∨ u = 4 ∨ u = 5 ∨ u = 6 ∨ u = 7 ∨ u = 8 ∨ u = 9 := by omega
  have hal := fun x : Value => ((Below.refl w.heap.size w).alloc (Nat.le_refl _) (.cells #[x] 5) : Below w.heap.size w (w.alloc (.cells #[x] 5)))
  have hconv : ∀ b : UInt8, (convert 54 9 (.slice (some ⟨w.heap.size, 0, none⟩) 1 1)).run Tryd.prog (w.alloc (.cells #[.int .u8 b.toNat] 5)) = .ok (.string ⟨#[b]⟩) (w.alloc (.cells #[.int .u8 b.toNat] 5)) := fun b =>
    run_convert_bytes_back (P := Tryd.prog) _ 54 9 5 ⟨w.heap.size, 0, none⟩ 1 [b] Tryd.underlying54 Tryd.underlying5 Tryd.underlying9 (fun j hj => by
      obtain rfl : j = 0 := by simpa using hj
      simp [Addr.add])
  rcases hcases with rfl | rfl | rfl | rfl | rfl | rfl | rfl | rfl | rfl | rfl
  · have hc : (convert 54 9 (.slice (some ⟨w.heap.size, 0, none⟩) 1 1)).run Tryd.prog (w.alloc (.cells #[.int .u8 48] 5)) = .ok (.string ⟨#[48]⟩) (w.alloc (.cells #[.int .u8 48] 5)) := hconv 48
    clear hconv
    go_enter Tryd.func48, Tryd.ntmps48
    go_wp2
    go_ret
    exact ⟨_, rfl, by show _ = _; rw [Lib.itoa_nonneg, digits_small _ (by omega)]; rfl, by decide, hal _⟩
  · have hc : (convert 54 9 (.slice (some ⟨w.heap.size, 0, none⟩) 1 1)).run Tryd.prog (w.alloc (.cells #[.int .u8 49] 5)) = .ok (.string ⟨#[49]⟩) (w.alloc (.cells #[.int .u8 49] 5)) := hconv 49
    clear hconv
    go_enter Tryd.func48, Tryd.ntmps48
    go_wp2
    go_ret
    exact ⟨_, rfl, by show _ = _; rw [Lib.itoa_nonneg, digits_small _ (by omega)]; rfl, by decide, hal _⟩
  · have hc : (convert 54 9 (.slice (some ⟨w.heap.size, 0, none⟩) 1 1)).run Tryd.prog (w.alloc (.cells #[.int .u8 50] 5)) = .ok (.string ⟨#[50]⟩) (w.alloc (.cells #[.int .u8 50] 5)) := hconv 50
    clear hconv
    go_enter Tryd.func48, Tryd.ntmps48
    go_wp2
    go_ret
    exact ⟨_, rfl, by show _ = _; rw [Lib.itoa_nonneg, digits_small _ (by omega)]; rfl, by decide, hal _⟩
  · have hc : (convert 54 9 (.slice (some ⟨w.heap.size, 0, none⟩) 1 1)).run Tryd.prog (w.alloc (.cells #[.int .u8 51] 5)) = .ok (.string ⟨#[51]⟩) (w.alloc (.cells #[.int .u8 51] 5)) := hconv 51
    clear hconv
    go_enter Tryd.func48, Tryd.ntmps48
    go_wp2
    go_ret
    exact ⟨_, rfl, by show _ = _; rw [Lib.itoa_nonneg, digits_small _ (by omega)]; rfl, by decide, hal _⟩
  · have hc : (convert 54 9 (.slice (some ⟨w.heap.size, 0, none⟩) 1 1)).run Tryd.prog (w.alloc (.cells #[.int .u8 52] 5)) = .ok (.string ⟨#[52]⟩) (w.alloc (.cells #[.int .u8 52] 5)) := hconv 52
    clear hconv
    go_enter Tryd.func48, Tryd.ntmps48
    go_wp2
    go_ret
    exact ⟨_, rfl, by show _ = _; rw [Lib.itoa_nonneg, digits_small _ (by omega)]; rfl, by decide, hal _⟩
  · have hc : (convert 54 9 (.slice (some ⟨w.heap.size, 0, none⟩) 1 1)).run Tryd.prog (w.alloc (.cells #[.int .u8 53] 5)) = .ok (.string ⟨#[53]⟩) (w.alloc (.cells #[.int .u8 53] 5)) := hconv 53
    clear hconv
    go_enter Tryd.func48, Tryd.ntmps48
    go_wp2
    go_ret
    exact ⟨_, rfl, by show _ = _; rw [Lib.itoa_nonneg, digits_small _ (by omega)]; rfl, by decide, hal _⟩
  · have hc : (convert 54 9 (.slice (some ⟨w.heap.size, 0, none⟩) 1 1)).run Tryd.prog (w.alloc (.cells #[.int .u8 54] 5)) = .ok (.string ⟨#[54]⟩) (w.alloc (.cells #[.int .u8 54] 5)) := hconv 54
    clear hconv
    go_enter Tryd.func48, Tryd.ntmps48
    go_wp2
    go_ret
    exact ⟨_, rfl, by show _ = _; rw [Lib.itoa_nonneg, digits_small _ (by omega)]; rfl, by decide, hal _⟩
  · have hc : (convert 54 9 (.slice (some ⟨w.heap.size, 0, none⟩) 1 1)).run Tryd.prog (w.alloc (.cells #[.int .u8 55] 5)) = .ok (.string ⟨#[55]⟩) (w.alloc (.cells #[.int .u8 55] 5)) := hconv 55
    clear hconv
    go_enter Tryd.func48, Tryd.ntmps48
    go_wp2
    go_ret
    exact ⟨_, rfl, by show _ = _; rw [Lib.itoa_nonneg, digits_small _ (by omega)]; rfl, by decide, hal _⟩
  · have hc : (convert 54 9 (.slice (some ⟨w.heap.size, 0, none⟩) 1 1)).run Tryd.prog (w.alloc (.cells #[.int .u8 56] 5)) = .ok (.string ⟨#[56]⟩) (w.alloc (.cells #[.int .u8 56] 5)) := hconv 56
    clear hconv
    go_enter Tryd.func48, Tryd.ntmps48
    go_wp2
    go_ret
    exact ⟨_, rfl, by show _ = _; rw [Lib.itoa_nonneg, digits_small _ (by omega)]; rfl, by decide, hal _⟩
  · have hc : (convert 54 9 (.slice (some ⟨w.heap.size, 0, none⟩) 1 1)).run Tryd.prog (w.alloc (.cells #[.int .u8 57] 5)) = .ok (.string ⟨#[57]⟩) (w.alloc (.cells #[.int .u8 57] 5)) := hconv 57
    clear hconv
    go_enter Tryd.func48, Tryd.ntmps48
    go_wp2
    go_ret
    exact ⟨_, rfl, by show _ = _; rw [Lib.itoa_nonneg, digits_small _ (by omega)]; rfl, by decide, hal _⟩

set_option maxHeartbeats 4000000 in
set_option maxRecDepth 100000 in
theorem RefDigits_nat (u : Nat) (hu : u ≤ 1000000000) (w : World) :
    Calls Tryd.prog 48 #[.int .i64 (u : Int)] w (Itoad (u : Int) w) := by
  induction u using Nat.strongRecOn generalizing w with
  | _ u ih =>
    by_cases h : u < 10
    · exact RefDigit_any u h w
    · have hz : ¬ (u : Int) < 10 := by omega
      have hz0 : ¬ (u : Int) < 0 := by omega
      have e1 : ((u / 10 : Nat) : Int) = (u : Int) / 10 := by omega
      have e2 : ((u % 10 : Nat) : Int) = (u : Int) % 10 := by omega
      have H1 := Lib.hid (fun w => ih (u / 10) (by omega) (by omega) w)
      have H2 := Lib.hid (fun w => RefDigit_any (u % 10) (by omega) w)
      have HE : Hid (Lib.itoa (u : Int) = Lib.itoa ((u : Int) / 10) ++ Lib.itoa ((u : Int) % 10)) := by
        show _ = _; rw [← e1, ← e2, Lib.itoa_nonneg, Lib.itoa_nonneg, Lib.itoa_nonneg, digits_big u h]
      have HN := Lib.hid (Lib.itoa_length_le (u : Int) (by omega) (by omega))
      rw [e1] at H1
      rw [e2] at H2
      unfold Itoad at H1 H2 ⊢
      clear e1 e2 ih h
      go_enter Tryd.func48, Tryd.ntmps48
      go_wp2_with fail
      refine (H1.out _).mono ?_
      rintro e w1 ⟨s1, rfl, hs1, hl1, hb1⟩
      go_wp2_with fail
      refine (H2.out _).mono ?_
      rintro e w2 ⟨s2, rfl, hs2, hl2, hb2⟩
      have HAPP : Hid ((s1 ++ s2).data.toList = Lib.itoa (u : Int)) := by
        show _ = _; rw [ByteArray.data_append, Array.toList_append, hs1.out, hs2.out, HE.out]
      have hsz : (s1 ++ s2).size ≤ 21 := by rw [size_data, HAPP.out]; exact HN.out
      go_wp2_with fail
      go_ret
      exact ⟨_, rfl, HAPP, hsz, hb1.trans (hb2.mono hb1.size)⟩

theorem RefDigits_any (n : Int) (h0 : -1000000000 ≤ n) (h1 : n ≤ 1000000000) (w : World) :
    Calls Tryd.prog 48 #[.int .i64 n] w (Itoad n w) := by
  by_cases h : n < 0
  · have H1 := Lib.hid (fun w => RefDigits_nat n.natAbs (by omega) w)
    have e : ((n.natAbs : Nat) : Int) = -n := by omega
    have HE : Hid (Lib.itoa n = 45 :: Lib.itoa (-n)) := by
      show _ = _
      rw [← e, Lib.itoa_nonneg]; unfold Lib.itoa; rw [if_pos h]
    have HN := Lib.hid (Lib.itoa_length_le n (by omega) (by omega))
    rw [e] at H1
    unfold Itoad at H1 ⊢
    clear e
    go_enter Tryd.func48, Tryd.ntmps48
    go_wp2_with fail
    refine (H1.out _).mono ?_
    rintro e w1 ⟨s1, rfl, hs1, hl1, hb1⟩
    have HAPP : Hid ((({ data := #[45] } : ByteArray) ++ s1).data.toList = Lib.itoa n) := by
      show _ = _; rw [ByteArray.data_append, Array.toList_append, hs1.out, HE.out]; rfl
    have hsz : (({ data := #[45] } : ByteArray) ++ s1).size ≤ 21 := by rw [size_data, HAPP.out]; exact HN.out
    go_wp2_with fail
    go_ret
    exact ⟨_, rfl, HAPP, hsz, hb1⟩
  · obtain ⟨u, rfl⟩ : ∃ u : Nat, n = (u : Int) := ⟨n.toNat, by omega⟩
    exact RefDigits_nat u (by omega) w
end Go.Proofs.YtiimdehcfkoemaaDoor.Cl
