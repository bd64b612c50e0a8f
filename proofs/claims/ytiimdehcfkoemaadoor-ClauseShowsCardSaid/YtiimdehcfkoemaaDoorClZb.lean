/- What the document's own Parse needs: its numbers against the program's words for them. No walk. -/
import Derived.Test.YtiimdehcfkoemaaDoorClZa
namespace Go.Proofs.YtiimdehcfkoemaaDoor.Cl
open Go Go.RowKit Go.Lib Go.Sort

theorem minus_no {l : List UInt8} (h : l.head? = some 45) : numOk l = false := by
  cases l with
  | nil => cases h
  | cons b t =>
    have hb : b = 45 := by simpa using h
    subst hb
    unfold numOk
    have : (45 :: t : List UInt8).all digB = false := by rw [List.all_cons]; rfl
    rw [this]; simp
theorem refN_ok {l : List UInt8} (h : numOk l = true) : refN l = some (numV l : Int) := by
  unfold refN
  rw [if_neg (by intro e; rw [minus_no e] at h; cases h), if_pos h]
theorem refN_bad {l : List UInt8} (h : numOk l = false) : refN l = none ∨ ∃ v : Int, v < 0 ∧ -1000000 < v ∧ refN l = some v := by
  unfold refN
  split
  · split
    · split
      · right; exact ⟨_, by omega, by have := numV_bd (l := l.tail) (by assumption); omega, rfl⟩
      · left; rfl
    · left; rfl
  · left; rw [if_neg (by rw [h]; simp)]
theorem refN_bd {l : List UInt8} {x : Int} (h : refN l = some x) : -1000000 < x ∧ x < 1000000 := by
  unfold refN at h
  split at h
  · split at h
    · split at h
      · cases h; have := numV_bd (l := l.tail) (by assumption); omega
      · cases h
    · cases h
  · split at h
    · cases h; have := numV_bd (l := l) (by assumption); omega
    · cases h
theorem entryV_ref (l : List UInt8) : entryV l = (refN l).bind fun x => if -100000 ≤ x ∧ x ≤ 100000 then some x else none := by
  unfold entryV refN
  split
  · by_cases h1 : numOk l.tail = true
    · by_cases h2 : numV l.tail ≠ 0
      · rw [if_pos h1, if_pos h2]
        by_cases h3 : numV l.tail ≤ 100000
        · rw [if_pos ⟨h1, h3, h2⟩]; simp only [Option.bind_some]; rw [if_pos (by omega)]
        · rw [if_neg (fun h => h3 h.2.1)]; simp only [Option.bind_some]; rw [if_neg (by omega)]
      · rw [if_pos h1, if_neg h2, if_neg (fun h => h2 h.2.2)]; rfl
    · rw [if_neg h1, if_neg (fun h => h1 h.1)]; rfl
  · by_cases h1 : numOk l = true
    · rw [if_pos h1]
      by_cases h3 : numV l ≤ 100000
      · rw [if_pos ⟨h1, h3⟩]; simp only [Option.bind_some]; rw [if_pos (by omega)]
      · rw [if_neg (fun h => h3 h.2)]; simp only [Option.bind_some]; rw [if_neg (by omega)]
    · rw [if_neg h1, if_neg (fun h => h1 h.1)]; rfl

theorem parsed_open {V : Int} : ∀ (n : Nat) (L : List (List UInt8)) (st : PSt), L.length = n → parsed V L = some st → st.opn = !st.c.isEmpty
  | 0, L, st, h, hp => by
    rw [List.eq_nil_of_length_eq_zero h] at hp
    cases hp; rfl
  | n + 1, L, st, h, hp => by
    obtain ⟨T, x, rfl⟩ : ∃ T x, L = T ++ [x] := ⟨L.dropLast, L.getLast (by intro e; rw [e] at h; cases h), (List.dropLast_concat_getLast _).symm⟩
    rw [parsed_snoc] at hp
    cases ht : parsed V T with
    | none => rw [ht] at hp; cases hp
    | some s0 =>
      rw [ht] at hp
      unfold pstep at hp
      cases he : entryV x with
      | none => rw [he] at hp; cases hp
      | some n' =>
        rw [he] at hp
        simp only at hp
        split at hp
        · split at hp
          · cases hp; rfl
          · cases hp; simp
        · cases hp
/-- A word that the document's own loop refuses. -/
theorem pstep_bad {V x : Int} {st : PSt} {w : List UInt8} (h : refN w = some x) (hx : x ≠ 0) (hb : isLit x = false ∨ V < vr x) : pstep V (some st) w = none := by
  unfold pstep
  rw [entryV_ref, h]
  simp only [Option.bind_some]
  rcases hb with hb | hb
  · have hb' := (isLit_not x).1 hb
    rw [if_neg (by omega)]
  · by_cases h2 : -100000 ≤ x ∧ x ≤ 100000
    · rw [if_pos h2]; simp only; rw [if_neg (by omega)]
    · rw [if_neg h2]
theorem pstep_miss {V : Int} {st : PSt} {w : List UInt8} (h : refN w = none) : pstep V (some st) w = none := by
  unfold pstep; rw [entryV_ref, h]; rfl
theorem entry_lit {x : Int} {w : List UInt8} (h : refN w = some x) (hb : isLit x = true ∨ x = 0) : entryV w = some x := by
  rw [entryV_ref, h]
  simp only [Option.bind_some]
  rcases hb with hb | hb
  · have hb' := (isLit_iff x).1 hb
    rw [if_pos (by omega)]
  · rw [if_pos (by omega)]
theorem clauses_fail {V : Int} {L : List (List UInt8)} {k : Nat} (hk : k < L.length) {st : PSt} (hp : parsed V (L.take k) = some st) (h : pstep V (some st) L[k]! = none) : clausesR V L = none := by
  have h1 : parsed V (L.take (k + 1)) = none := by rw [take_succ! hk, parsed_snoc, hp, h]
  unfold clausesR; rw [parsed_fail h1]; rfl
end Go.Proofs.YtiimdehcfkoemaaDoor.Cl
