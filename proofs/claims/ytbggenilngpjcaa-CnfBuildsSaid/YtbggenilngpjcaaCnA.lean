/- Contracts of the maker's small calls: made, Vars, literal, Take. -/
import Derived.Test.YtbggenilngpjcaaCnMem
namespace Go.Proofs.Ytbggenilngpjcaa.Cn
open Go Go.RowKit Go.Lib Go.Maps Go.Proofs.Ytbggenilngpjcaa.Gr

set_option maxHeartbeats 400000 in
theorem made_any {w : World} {gh : Nat} {M : MLoc} {S : Mk} (h : MRep w gh M S) :
    Calls Try.prog 31 #[.pointer (some ⟨M.h, 0, none⟩)] w fun e w' => e = .returned (.bool true) ∧ w = w' := by
  have c0 := h.c0
  clear h
  go_enter Try.func31, Try.ntmps31
  go_wp2
  go_ret
  exact ⟨rfl, rfl⟩

set_option maxHeartbeats 400000 in
theorem Vars_any {w : World} {gh : Nat} {M : MLoc} {S : Mk} (h : MRep w gh M S) :
    Calls Try.prog 13 #[.pointer (some ⟨M.h, 0, none⟩)] w fun e w' => e = .returned (.int .i64 (S.vs.length : Int)) ∧ w = w' := by
  have HM := Lib.hid (made_any h)
  have c1 := h.c1
  have hlen := h.len
  clear h
  go_enter Try.func13, Try.ntmps13
  go_wp2_with fail
  refine HM.out.mono ?_
  rintro e w' ⟨rfl, rfl⟩
  go_wp2_with fail
  go_ret
  exact ⟨rfl, rfl⟩

set_option maxHeartbeats 400000 in
theorem literal_any {w : World} {gh : Nat} {M : MLoc} {S : Mk} (h : MRep w gh M S) (e : Nat) (he : e < 1000000) (hl : S.vs.length < 1000000) :
    Calls Try.prog 33 #[.pointer (some ⟨M.h, 0, none⟩), .int .i64 (e : Int)] w fun r w' => r = .returned (.int .i64 (lit S.vs e)) ∧ w = w' := by
  have c1 := h.c1
  obtain ⟨q, hq⟩ : ∃ q, q = e / 2 := ⟨_, rfl⟩
  have hd : (e : Int).tdiv 2 = (q : Int) := by rw [Int.tdiv_eq_ediv_of_nonneg (by omega), hq]; omega
  have hm3 : (e : Int).tmod 2 = ((e % 2 : Nat) : Int) := by rw [Int.tmod_eq_emod_of_nonneg (by omega)]; omega
  have hlook := h.look (n := q) (by omega)
  have q9 : (q : Int) ≤ 1000000 := by omega
  have e0 : ¬ (e : Int) < 0 := by omega
  have e9 : (e : Int) ≤ 1000000 := by omega
  have hv := var_le S.vs q
  have HE : Hid (lit S.vs e = if e % 2 = 1 then -(var S.vs q : Int) else (var S.vs q : Int)) := by rw [Hid, hq]; rfl
  generalize var S.vs q = v at *
  have v9 : (v : Int) ≤ 1000000 := by omega
  rcases Nat.mod_two_eq_zero_or_one e with h2 | h2
  · rw [h2] at hm3
    have HE2 : Hid (lit S.vs e = (v : Int)) := by rw [Hid, HE.out, if_neg (by omega)]
    clear h hq he hl hv h2 HE
    go_enter Try.func33, Try.ntmps33
    go_wp2
    go_ret
    rw [HE2.out]
    exact ⟨rfl, rfl⟩
  · rw [h2] at hm3
    have HE2 : Hid (lit S.vs e = -(v : Int)) := by rw [Hid, HE.out, if_pos h2]
    clear h hq he hl hv h2 HE
    go_enter Try.func33, Try.ntmps33
    go_wp2
    go_ret
    rw [HE2.out]
    exact ⟨rfl, rfl⟩

set_option maxHeartbeats 400000 in
theorem Take_any {w : World} {gh : Nat} {M : MLoc} {S : Mk} (h : MRep w gh M S) :
    Calls Try.prog 14 #[.pointer (some ⟨M.h, 0, none⟩)] w fun e w' => e = .returned M.cv ∧ w' = w.setCell ⟨M.h, 2, none⟩ (.slice none 0 0) := by
  have HM := Lib.hid (made_any h)
  have c2 := h.c2
  have fz := h.head.free 2
  obtain ⟨a, c, e, _⟩ := own_form h.rows
  rw [e] at c2 ⊢
  clear h e
  go_enter Try.func14, Try.ntmps14
  go_wp2_with fail
  refine HM.out.mono ?_
  rintro e w' ⟨rfl, rfl⟩
  go_wp2_with fail
  go_ret
  exact ⟨rfl, rfl⟩
end Go.Proofs.Ytbggenilngpjcaa.Cn
