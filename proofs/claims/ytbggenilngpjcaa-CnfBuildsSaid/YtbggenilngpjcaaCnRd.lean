/- Contracts of the document's own Need and Lit, whole. -/
import Derived.Test.YtbggenilngpjcaaCnRc
namespace Go.Proofs.Ytbggenilngpjcaa.Cn
open Go Go.RowKit Go.Lib Go.Maps Go.Proofs.Ytbggenilngpjcaa.Gr

theorem RNeed_any {r : Nat} {gv : Value} {L : List Nd} (hW : Wf L) (hl : L.length ≤ 400) (n : Nat) : n < L.length + 1 → ∀ (w : World) (R : RLoc) (S S' : Mk), RM w r gv L R S → Ok L S.vs → S'.cs.length ≤ 10000 → Need L n S S' →
    Calls Try.prog 34 #[.pointer (some ⟨R.h, 0, none⟩), .int .i64 (n : Int)] w (RNE w r gv L R S') := by
  induction n using Nat.strongRecOn with
  | _ n ih =>
    intro hn w R S S' h hO hcs hN
    have h0 : n ∉ S.vs → ∃ k, n = k + 1 ∧ k < L.length ∧ ∃ d, L[k]? = some d ∧ nd L n = d := fun q => by
      have : n ≠ 0 := fun e => q (e ▸ hO.zero)
      obtain ⟨k, rfl⟩ : ∃ k, n = k + 1 := ⟨n - 1, by omega⟩
      have hk : k < L.length := by omega
      exact ⟨k, rfl, hk, _, List.getElem?_eq_getElem hk, by rw [nd_succ, List.getElem?_eq_getElem hk]; rfl⟩
    cases hN with
    | old q => exact RNeed_old h hO hl n q
    | leaf q e =>
      obtain ⟨k, rfl, hk, d, hd, hnd⟩ := h0 q
      rw [e] at hnd
      subst hnd
      have := RNeed_leaf h hO hl k q hd
      have e2 : asn L S (k + 1) = ⟨S.vs ++ [k + 1], S.cs⟩ := by unfold asn; rw [e]; simp [cls]
      rw [e2]; exact this
    | @and _ a b _ S1 S2 q e p1 p2 =>
      obtain ⟨k, rfl, hk, d, hd, hnd⟩ := h0 q
      rw [e] at hnd
      subst hnd
      obtain ⟨q1, q2, q3, _⟩ := nd_pair hW e
      have hO1 := p1.ok hW hO (by omega)
      have hO2 := p2.ok hW hO1 (by omega)
      have hq2 : k + 1 ∉ S2.vs := fun z => by
        rcases p2.le hW _ z with z | z
        · rcases p1.le hW _ z with z | z
          · exact q z
          · omega
        · omega
      have e2 : asn L S2 (k + 1) = ⟨S2.vs ++ [k + 1], S2.cs ++ [[-((S2.vs.length : Int) + 1), lit (S2.vs ++ [k + 1]) a], [-((S2.vs.length : Int) + 1), lit (S2.vs ++ [k + 1]) b], [(S2.vs.length : Int) + 1, -lit (S2.vs ++ [k + 1]) a, -lit (S2.vs ++ [k + 1]) b]]⟩ := by
        unfold asn; rw [e]; simp [cls]
      have hc2 : S2.cs.length ≤ 10000 := by
        rw [e2] at hcs
        have : S2.cs.length + 3 ≤ 10000 := by simpa using hcs
        omega
      have hc1 : S1.cs.length ≤ 10000 := by
        obtain ⟨X, Y, e3⟩ := p2.ext
        rw [e3] at hc2
        have : S1.cs.length + Y.length ≤ 10000 := by simpa using hc2
        omega
      rw [e2]
      refine RNeed_and h hO hO2 hl k a b q hd ⟨by omega, by omega⟩ hc2 hq2 (ih (a / 2) (by omega) (by omega) w R S S1 h hO hc1 p1) fun w1 R1 hh h1 => ?_
      rw [← hh]
      exact ih (b / 2) (by omega) (by omega) w1 R1 S1 S2 h1 hO1 hc2 p2

/-- What Lit answers. -/
def RLE (w : World) (r : Nat) (gv : Value) (L : List Nd) (R : RLoc) (S' : Mk) (x : Int) (e : Ending) (w' : World) : Prop :=
  e = .returned (.int .i64 x) ∧ ∃ R', R'.h = R.h ∧ RM w' r gv L R' S' ∧ XFr (R.has r gv) w w' (R'.has r gv)

set_option maxRecDepth 100000 in
set_option maxHeartbeats 2000000 in
theorem RLit_any {w : World} {r : Nat} {gv : Value} {L : List Nd} {R : RLoc} {S S' : Mk} (h : RM w r gv L R S) (hO : Ok L S.vs) (hW : Wf L) (hl : L.length ≤ 400) (e : Nat) (he : e < 2 * (L.length + 1)) (hcs : S'.cs.length ≤ 10000) (hN : Need L (e / 2) S S') :
    Calls Try.prog 12 #[.pointer (some ⟨R.h, 0, none⟩), .int .i64 (e : Int)] w (RLE w r gv L R S' (lit S'.vs e)) := by
  have c0 := h.c0
  obtain ⟨ga, gc, eg, g0⟩ := h.gr.form
  obtain ⟨N, hNN⟩ : ∃ N, N = L.length := ⟨_, rfl⟩
  rw [← hNN] at g0
  obtain ⟨q, hq⟩ : ∃ q, q = e / 2 := ⟨_, rfl⟩
  have HNEED := Lib.hid (RNeed_any hW hl (e / 2) (by omega) w R S S' h hO hcs hN)
  rw [← hq] at HNEED
  have hO' := hN.ok hW hO (by omega)
  have HLIT : Hid (∀ w2 R2, R2.h = R.h → RM w2 r gv L R2 S' → Calls Try.prog 35 #[.pointer (some ⟨R.h, 0, none⟩), .int .i64 (e : Int)] w2 fun x w' => x = .returned (.int .i64 (lit S'.vs e)) ∧ w2 = w') := fun w2 R2 hh hr => by
    rw [← hh]; exact reflit_any hr e (by omega) (by have := hO'.len; omega) (fun x hx => by have := hO'.own x hx; omega)
  have hd : (e : Int).tdiv 2 = (q : Int) := by rw [Int.tdiv_eq_ediv_of_nonneg (by omega), hq]; omega
  have e0 : ¬ (e : Int) < 0 := by omega
  have e9 : (e : Int) ≤ 1000000 := by omega
  have q9 : (q : Int) ≤ 1000000 := by omega
  have qN : ¬ N < q := by omega
  have qN1 : ¬ (N : Int) < (q : Int) := by omega
  clear h hO hN hcs hl hNN hq he hO' eg
  go_enter Try.func12, Try.ntmps12
  go_wp2_with fail
  refine HNEED.out.mono ?_
  rintro e w2 ⟨rfl, R2, s1, s2, s3⟩
  have HL2 := Lib.hid (HLIT.out w2 R2 s1 s2)
  have HS := Lib.hid (And.intro s1 (And.intro s2 s3))
  clear s1 s2 s3
  go_wp2_with fail
  refine HL2.out.mono ?_
  rintro e w' ⟨rfl, rfl⟩
  go_wp2_with fail
  go_ret
  exact ⟨rfl, R2, HS.out.1, HS.out.2.1, HS.out.2.2⟩
end Go.Proofs.Ytbggenilngpjcaa.Cn
