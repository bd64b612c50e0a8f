/- strings.FieldsFunc at ASCII separators goes byte by byte. No program. -/
import Derived.Test.YtiimdehcfkoemaaDoorClWords
namespace Go.Proofs.YtiimdehcfkoemaaDoor.Cl
open Go Go.Lib

def sepN (r : Nat) : Bool := r == 32 || r == 9 || r == 13 || r == 10
theorem sepN_byte (b : UInt8) : sepN b.toNat = isSep b := by
  have key : ∀ k : UInt8, (b.toNat == k.toNat) = (b == k) := fun k => by
    rw [Bool.eq_iff_iff, beq_iff_eq, beq_iff_eq]; exact ⟨fun h => UInt8.toNat_inj.1 h, fun h => by rw [h]⟩
  unfold sepN isSep
  rw [← key 32, ← key 9, ← key 13, ← key 10]; rfl
theorem sep_high {b : UInt8} (h : 128 ≤ b.toNat) : isSep b = false := by
  rw [← sepN_byte]; unfold sepN; simp; omega
theorem sepN_high {r : Nat} (h : 128 ≤ r) : sepN r = false := by unfold sepN; simp; omega

theorem decodeN_high (n b0 b1 b2 b3 : Nat) (h0 : 128 ≤ b0) : 128 ≤ (decodeN n b0 b1 b2 b3).1 ∧ ((decodeN n b0 b1 b2 b3).2 = 1 ∨ ((decodeN n b0 b1 b2 b3).2 = 2 ∧ 1 < n ∧ b1 / 64 = 2) ∨ ((decodeN n b0 b1 b2 b3).2 = 3 ∧ 2 < n ∧ b1 / 64 = 2 ∧ b2 / 64 = 2) ∨ ((decodeN n b0 b1 b2 b3).2 = 4 ∧ 3 < n ∧ b1 / 64 = 2 ∧ b2 / 64 = 2 ∧ b3 / 64 = 2)) := by
  unfold decodeN
  rw [if_neg (by omega)]
  split
  · split <;> simp <;> omega
  · split
    · split <;> simp <;> omega
    · split
      · split <;> simp <;> omega
      · simp

/-- A rune that is no ASCII byte covers no separator. -/
theorem rune_bytes (s : ByteArray) (pos : Nat) (hp : pos < s.data.toList.length) (h : 128 ≤ (s.data.toList.getD pos 0).toNat) :
    128 ≤ (Utf8.decode s pos).1 ∧ 1 ≤ (Utf8.decode s pos).2 ∧ pos + (Utf8.decode s pos).2 ≤ s.data.toList.length ∧ ∀ b ∈ (s.data.toList.drop pos).take (Utf8.decode s pos).2, isSep b = false := by
  have hd := decode_N s pos
  have hh := decodeN_high (s.data.toList.length - pos) (s.data.toList.getD pos 0).toNat (s.data.toList.getD (pos + 1) 0).toNat (s.data.toList.getD (pos + 2) 0).toNat (s.data.toList.getD (pos + 3) 0).toNat h
  rw [← hd] at hh
  generalize Utf8.decode s pos = d at *
  obtain ⟨r, k⟩ := d
  simp only at hh ⊢
  have hk : k = 1 ∨ k = 2 ∨ k = 3 ∨ k = 4 := by omega
  have hb : ∀ j, j < k → 128 ≤ (s.data.toList.getD (pos + j) 0).toNat := fun j hj => by
    rcases (show j = 0 ∨ j = 1 ∨ j = 2 ∨ j = 3 by omega) with rfl | rfl | rfl | rfl
    · exact h
    · omega
    · omega
    · omega
  refine ⟨hh.1, by omega, by omega, fun b hbm => ?_⟩
  obtain ⟨j, hj, e⟩ := List.mem_iff_getElem.1 hbm
  rw [List.getElem_take, List.getElem_drop] at e
  rw [List.length_take, List.length_drop] at hj
  have := hb j (by omega)
  rw [List.getD_eq_getElem?_getD, List.getElem?_eq_getElem (by omega)] at this
  rw [← e]
  exact sep_high this

theorem fold_nonsep : ∀ (t w : List UInt8) (o : List (List UInt8)), (∀ b ∈ t, isSep b = false) → t.foldl fstep (w, o) = (w ++ t, o)
  | [], w, o, _ => by simp
  | c :: t, w, o, h => by
    rw [List.foldl_cons]
    have e : fstep (w, o) c = (w ++ [c], o) := by unfold fstep; rw [h c (by simp)]; rfl
    rw [e, fold_nonsep t _ _ (fun b hb => h b (List.mem_cons_of_mem _ hb))]
    simp

theorem fstep_sep {b : UInt8} (h : isSep b = true) (w : List UInt8) (o : List (List UInt8)) : fstep (w, o) b = ([], if w = [] then o else o ++ [w]) := by unfold fstep; rw [h]; rfl
theorem fstep_non {b : UInt8} (h : isSep b = false) (w : List UInt8) (o : List (List UInt8)) : fstep (w, o) b = (w ++ [b], o) := by unfold fstep; rw [h]; rfl
def wordOf (L : List UInt8) (pos : Nat) : Option Nat → List UInt8
  | some a => (L.drop a).take (pos - a)
  | none => []
def doneOf (L : List UInt8) (acc : List (Nat × Nat)) : List (List UInt8) := acc.map fun x => (L.drop x.1).take (x.2 - x.1)

theorem spans_eq (s : ByteArray) : ∀ (f pos : Nat) (st : Option Nat) (acc : List (Nat × Nat)), s.data.toList.length ≤ pos + f → pos ≤ s.data.toList.length → (∀ a, st = some a → a < pos) →
    (s.data.toList.take pos).foldl fstep ([], []) = (wordOf s.data.toList pos st, doneOf s.data.toList acc) →
    doneOf s.data.toList (closeSpans s (spansFromP sepN s f pos st acc)) = fieldsL s.data.toList := by
  have hsz : s.size = s.data.toList.length := by rw [Array.length_toList]; rfl
  -- at the end
  have fin : ∀ (pos : Nat) (st : Option Nat) (acc : List (Nat × Nat)), pos = s.data.toList.length → (∀ a, st = some a → a < pos) →
      (s.data.toList.take pos).foldl fstep ([], []) = (wordOf s.data.toList pos st, doneOf s.data.toList acc) → doneOf s.data.toList (closeSpans s (acc, st)) = fieldsL s.data.toList := by
    intro pos st acc hp ha hf
    subst hp
    rw [List.take_length] at hf
    unfold fieldsL
    rw [hf, fstep_end]
    cases st with
    | none => simp [closeSpans, wordOf]
    | some a =>
      have := ha a rfl
      have hne : (s.data.toList.drop a).take (s.data.toList.length - a) ≠ [] := by
        intro e
        have := congrArg List.length e
        rw [List.length_take, List.length_drop, List.length_nil] at this
        omega
      show doneOf _ (acc ++ [(a, s.size)]) = if (s.data.toList.drop a).take (s.data.toList.length - a) = [] then _ else _
      rw [if_neg hne]
      simp only [doneOf, List.map_append, List.map_cons, List.map_nil, hsz]; rfl
  intro f
  induction f with
  | zero =>
    intro pos st acc h1 h2 h3 h4
    exact fin pos st acc (by omega) h3 h4
  | succ f ih =>
    intro pos st acc h1 h2 h3 h4
    unfold spansFromP
    by_cases hp : pos < s.size
    · rw [if_pos hp]
      have hp' : pos < s.data.toList.length := by omega
      have hget : s.data.toList.getD pos 0 = s.data.toList[pos] := by rw [List.getD_eq_getElem?_getD, List.getElem?_eq_getElem hp']; rfl
      by_cases hb : (s.data.toList.getD pos 0).toNat < 128
      · -- an ASCII byte
        have hd : Utf8.decode s pos = ((s.data.toList.getD pos 0).toNat, 1) := by rw [decode_N]; exact decodeN_ascii _ _ _ _ _ hb
        rw [hd]
        have htake : s.data.toList.take (pos + 1) = s.data.toList.take pos ++ [s.data.toList.getD pos 0] := by rw [hget, List.take_succ_eq_append_getElem hp']
        simp only
        rw [sepN_byte]
        cases hs : isSep (s.data.toList.getD pos 0) with
        | true =>
          rw [if_pos rfl]
          cases st with
          | none =>
            refine ih (pos + 1) none acc (by omega) (by omega) (fun a e => by cases e) ?_
            rw [htake, List.foldl_append, h4, List.foldl_cons, List.foldl_nil, fstep_sep hs]
            rfl
          | some a =>
            have ha := h3 a rfl
            refine ih (pos + 1) none _ (by omega) (by omega) (fun a e => by cases e) ?_
            rw [htake, List.foldl_append, h4, List.foldl_cons, List.foldl_nil, fstep_sep hs]
            have hne : (s.data.toList.drop a).take (pos - a) ≠ [] := by
              intro e
              have := congrArg List.length e
              rw [List.length_take, List.length_drop, List.length_nil] at this
              omega
            show (([] : List UInt8), if (s.data.toList.drop a).take (pos - a) = [] then _ else _) = _
            rw [if_neg hne]
            simp only [wordOf, doneOf, List.map_append, List.map_cons, List.map_nil]
        | false =>
          rw [if_neg (by simp)]
          have hfold : (s.data.toList.take (pos + 1)).foldl fstep ([], []) = (wordOf s.data.toList pos st ++ [s.data.toList.getD pos 0], doneOf s.data.toList acc) := by
            rw [htake, List.foldl_append, h4, List.foldl_cons, List.foldl_nil, fstep_non hs]
          cases st with
          | none =>
            refine ih (pos + 1) (some pos) acc (by omega) (by omega) (fun a e => by cases e; omega) ?_
            rw [hfold]
            simp only [wordOf, List.nil_append]
            rw [show pos + 1 - pos = 1 by omega, hget, List.drop_eq_getElem_cons hp']; rfl
          | some a =>
            have ha := h3 a rfl
            refine ih (pos + 1) (some a) acc (by omega) (by omega) (fun a' e => by cases e; omega) ?_
            rw [hfold]
            simp only [wordOf]
            rw [show pos + 1 - a = (pos - a) + 1 by omega, List.take_add, List.drop_drop, show a + (pos - a) = pos by omega, hget, List.drop_eq_getElem_cons hp']; rfl
      · -- a longer rune, or a broken one
        obtain ⟨hr, hk1, hk2, hall⟩ := rune_bytes s pos hp' (by omega)
        rw [sepN_high hr, if_neg (by simp)]
        have hfold : (s.data.toList.take (pos + (Utf8.decode s pos).2)).foldl fstep ([], []) = (wordOf s.data.toList pos st ++ (s.data.toList.drop pos).take (Utf8.decode s pos).2, doneOf s.data.toList acc) := by
          rw [List.take_add, List.foldl_append, h4, fold_nonsep _ _ _ hall]
        generalize (Utf8.decode s pos).2 = k at *
        cases st with
        | none =>
          refine ih (pos + k) (some pos) acc (by omega) (by omega) (fun a e => by cases e; omega) ?_
          rw [hfold]
          simp only [wordOf, List.nil_append]
          rw [show pos + k - pos = k by omega]
        | some a =>
          have ha := h3 a rfl
          refine ih (pos + k) (some a) acc (by omega) (by omega) (fun a' e => by cases e; omega) ?_
          rw [hfold]
          simp only [wordOf]
          rw [show pos + k - a = (pos - a) + k by omega, List.take_add, List.drop_drop, show a + (pos - a) = pos by omega]
    · rw [if_neg hp]
      exact fin pos st acc (by omega) h3 h4

theorem goFields_eq (s : ByteArray) : (goFieldsP sepN s).map (·.data.toList) = fieldsL s.data.toList := by
  have hsz : s.data.toList.length = s.size := by rw [Array.length_toList]; rfl
  rw [← spans_eq s s.size 0 none [] (by omega) (by omega) (fun a e => by cases e) (by simp [wordOf, doneOf])]
  unfold goFieldsP spansOfP doneOf
  rw [List.map_map]
  exact List.map_congr_left fun x _ => extract_data s x.1 x.2
end Go.Proofs.YtiimdehcfkoemaaDoor.Cl
