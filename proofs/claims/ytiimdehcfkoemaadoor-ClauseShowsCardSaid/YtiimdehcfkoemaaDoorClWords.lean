/- The words of a text: by lines and fields, as package clause finds them, and byte by byte, as the document's own answer does; that both are the same. No program. -/
import Derived.Lib.SplitLaws
import Derived.Lib.FieldsP
import Derived.Lib.TrimUEq
namespace Go.Proofs.YtiimdehcfkoemaaDoor.Cl
open Go Go.Lib

def isSep (b : UInt8) : Bool := b == 32 || b == 9 || b == 13 || b == 10
/-- One byte of a line's fields: the word that is open, the words that are done. -/
def fstep (st : List UInt8 × List (List UInt8)) (b : UInt8) : List UInt8 × List (List UInt8) :=
  if isSep b then ([], if st.1 = [] then st.2 else st.2 ++ [st.1]) else (st.1 ++ [b], st.2)
def fieldsL (l : List UInt8) : List (List UInt8) := (fstep (l.foldl fstep ([], [])) 10).2
def splitL : List UInt8 → List (List UInt8)
  | [] => [[]]
  | b :: r => if b = 10 then [] :: splitL r else match splitL r with
    | h :: t => (b :: h) :: t
    | [] => [[b]]
def lineWords (l : List UInt8) : List (List UInt8) := if l.head? = some 99 then [] else fieldsL l
def wordsL (l : List UInt8) : List (List UInt8) := (splitL l).flatMap lineWords

/-- The document's own: at a line's begin? is it left out? the open word; the words. -/
structure WSt where
  begin_ : Bool
  skip : Bool
  word : List UInt8
  out : List (List UInt8)
def wstep (st : WSt) (c : UInt8) : WSt :=
  if isSep c then ⟨c == 10, (if st.begin_ then c == 99 else st.skip), [], if st.word = [] then st.out else st.out ++ [st.word]⟩
  else ⟨c == 10, (if st.begin_ then c == 99 else st.skip), (if (if st.begin_ then c == 99 else st.skip) then st.word else st.word ++ [c]), st.out⟩
def wordsM (l : List UInt8) : List (List UInt8) := ((l ++ [10]).foldl wstep ⟨true, false, [], []⟩).out

theorem splitL_ne (l : List UInt8) : splitL l ≠ [] := by
  cases l with
  | nil => simp [splitL]
  | cons b r => unfold splitL; split
                · simp
                · split <;> simp

theorem splitK_eq : ∀ l : List UInt8, splitK [10] 0 (count l [10]) l = splitL l
  | [] => by rw [count_one]; rfl
  | b :: r => by
    have ih := splitK_eq r
    by_cases hb : b = 10
    · subst hb
      have hix : index (10 :: r) [10] = 0 := by rw [index]; simp [List.isPrefixOf]
      rw [count_cons_eq, Nat.add_comm, splitK, hix]
      simp only [splitL, if_true]
      rw [← ih]
      simp
    · rw [count_cons_ne b 10 r hb]
      have hp : ([10] : List UInt8).isPrefixOf (b :: r) = false := by simp [List.isPrefixOf, Ne.symm hb]
      have hix : index (b :: r) [10] = if index r [10] == -1 then -1 else index r [10] + 1 := by rw [index, hp]; simp
      cases hc : count r [10] with
      | zero =>
        rw [hc] at ih
        simp only [splitK] at ih ⊢
        unfold splitL
        rw [if_neg hb, ← ih]
      | succ k =>
        rw [hc] at ih
        have hne : ¬ index r [10] = -1 := fun h => by rw [count_miss h] at hc; omega
        have hge := index_ge r [10]
        obtain ⟨j, hj⟩ : ∃ j : Nat, index r [10] = j := ⟨(index r [10]).toNat, by omega⟩
        simp only [splitK, hj] at ih
        rw [if_neg (by simp)] at ih
        have hix' : index (b :: r) [10] = ((j + 1 : Nat) : Int) := by rw [hix, hj, if_neg (by simp)]; omega
        simp only [splitK, hix']
        rw [if_neg (by simp; omega)]
        unfold splitL
        rw [if_neg hb, ← ih]
        simp

theorem split_data (s : ByteArray) : (splitB ⟨#[10]⟩ 0 (countB s ⟨#[10]⟩) s).map (·.data.toList) = splitL s.data.toList := by
  rw [splitB_data]; exact splitK_eq _

/-- A text's first line. -/
theorem splitL_first : ∀ l : List UInt8, (splitL l = [l] ∧ 10 ∉ l) ∨ ∃ h r, l = h ++ 10 :: r ∧ 10 ∉ h ∧ splitL l = h :: splitL r
  | [] => Or.inl ⟨rfl, by simp⟩
  | b :: r => by
    by_cases hb : b = 10
    · subst hb
      exact Or.inr ⟨[], r, rfl, by simp, by simp [splitL]⟩
    · rcases splitL_first r with ⟨h1, h2⟩ | ⟨h, t, h1, h2, h3⟩
      · left
        refine ⟨?_, by simp [h2]; exact fun e => hb e.symm⟩
        unfold splitL; rw [if_neg hb, h1]
      · right
        refine ⟨b :: h, t, by rw [h1]; rfl, by simp [h2]; exact fun e => hb e.symm, ?_⟩
        rw [show splitL (b :: r) = (match splitL r with
          | h :: t => (b :: h) :: t
          | [] => [[b]]) by rw [splitL]; rw [if_neg hb], h3]

theorem wstep_plain : ∀ (t : List UInt8) (w : List UInt8) (o : List (List UInt8)), 10 ∉ t → t.foldl wstep ⟨false, false, w, o⟩ = ⟨false, false, (t.foldl fstep (w, o)).1, (t.foldl fstep (w, o)).2⟩
  | [], w, o, _ => rfl
  | c :: t, w, o, h => by
    have hc : c ≠ 10 := fun e => h (by simp [e])
    have hcb : (c == 10) = false := by simpa using hc
    rw [List.foldl_cons, List.foldl_cons]
    have e : wstep ⟨false, false, w, o⟩ c = ⟨false, false, (fstep (w, o) c).1, (fstep (w, o) c).2⟩ := by
      unfold wstep fstep
      simp only [hcb]
      cases isSep c <;> simp
    rw [e]
    exact wstep_plain t _ _ (fun hm => h (List.mem_cons_of_mem _ hm))
theorem wstep_skip : ∀ (t : List UInt8) (o : List (List UInt8)), 10 ∉ t → t.foldl wstep ⟨false, true, [], o⟩ = ⟨false, true, [], o⟩
  | [], o, _ => rfl
  | c :: t, o, h => by
    have hc : c ≠ 10 := fun e => h (by simp [e])
    have hcb : (c == 10) = false := by simpa using hc
    rw [List.foldl_cons]
    have e : wstep ⟨false, true, [], o⟩ c = ⟨false, true, [], o⟩ := by
      unfold wstep; simp only [hcb]; cases isSep c <;> simp
    rw [e]
    exact wstep_skip t _ (fun hm => h (List.mem_cons_of_mem _ hm))

theorem fstep_out : ∀ (t : List UInt8) (w : List UInt8) (o : List (List UInt8)), t.foldl fstep (w, o) = ((t.foldl fstep (w, [])).1, o ++ (t.foldl fstep (w, [])).2)
  | [], w, o => by simp
  | c :: t, w, o => by
    rw [List.foldl_cons, List.foldl_cons]
    have e : fstep (w, o) c = ((fstep (w, []) c).1, o ++ (fstep (w, []) c).2) := by
      unfold fstep
      cases isSep c
      · simp
      · by_cases hw : w = [] <;> simp [hw]
    rw [e, fstep_out t _ (o ++ _), fstep_out t (fstep (w, []) c).1 (fstep (w, []) c).2]
    simp

theorem fstep_end (w : List UInt8) (o : List (List UInt8)) : fstep (w, o) 10 = ([], if w = [] then o else o ++ [w]) := by simp [fstep, isSep]
theorem fieldsL_at (l : List UInt8) (o : List (List UInt8)) : fstep (l.foldl fstep ([], o)) 10 = ([], o ++ fieldsL l) := by
  unfold fieldsL
  rw [fstep_out l [] o]
  generalize l.foldl fstep ([], []) = p
  obtain ⟨w, q⟩ := p
  rw [fstep_end, fstep_end]
  split <;> simp

/-- One line, its end with it. -/
theorem line_step (h : List UInt8) (s0 : Bool) (o : List (List UInt8)) (hn : 10 ∉ h) : ∃ s, (h ++ [10]).foldl wstep ⟨true, s0, [], o⟩ = ⟨true, s, [], o ++ lineWords h⟩ := by
  cases h with
  | nil => exact ⟨false, by simp [wstep, isSep, lineWords, fieldsL, fstep]⟩
  | cons c t =>
    have hc : c ≠ 10 := fun e => hn (by simp [e])
    have hcb : (c == 10) = false := by simpa using hc
    have ht : 10 ∉ t := fun hm => hn (List.mem_cons_of_mem _ hm)
    rw [List.foldl_append, show List.foldl wstep ⟨true, s0, [], o⟩ (c :: t) = List.foldl wstep (wstep ⟨true, s0, [], o⟩ c) t from rfl]
    by_cases h99 : c = 99
    · subst h99
      have e : wstep ⟨true, s0, [], o⟩ 99 = ⟨false, true, [], o⟩ := by simp [wstep, isSep]
      rw [e, wstep_skip t o ht]
      exact ⟨true, by simp [wstep, isSep, lineWords]⟩
    · have h99b : (c == 99) = false := by simpa using h99
      have e : wstep ⟨true, s0, [], o⟩ c = ⟨false, false, (fstep ([], o) c).1, (fstep ([], o) c).2⟩ := by
        unfold wstep fstep
        simp only [hcb, h99b]
        cases isSep c <;> simp
      rw [e, wstep_plain t _ _ ht]
      have e2 : t.foldl fstep ((fstep ([], o) c).1, (fstep ([], o) c).2) = (c :: t).foldl fstep ([], o) := rfl
      rw [e2]
      have e3 := fieldsL_at (c :: t) o
      refine ⟨false, ?_⟩
      rw [show lineWords (c :: t) = fieldsL (c :: t) by unfold lineWords; rw [if_neg (by simpa using h99)]]
      have e4 : ∀ (w : List UInt8) (p : List (List UInt8)), [(10 : UInt8)].foldl wstep ⟨false, false, w, p⟩ = ⟨true, false, (fstep (w, p) 10).1, (fstep (w, p) 10).2⟩ := by
        intro w p; simp [wstep, fstep, isSep]
      rw [e4]
      show WSt.mk true false (fstep ((c :: t).foldl fstep ([], o)) 10).1 _ = _
      rw [e3]

theorem words_lines : ∀ (n : Nat) (l : List UInt8), l.length ≤ n → ∀ (s0 : Bool) (o : List (List UInt8)), ((l ++ [10]).foldl wstep ⟨true, s0, [], o⟩).out = o ++ wordsL l
  | n, l, hn, s0, o => by
    rcases splitL_first l with ⟨h1, h2⟩ | ⟨h, r, h1, h2, h3⟩
    · obtain ⟨s, e⟩ := line_step l s0 o h2
      rw [e]; unfold wordsL; rw [h1]; simp
    · obtain ⟨s, e⟩ := line_step h s0 o h2
      have hl : l.length = h.length + 1 + r.length := by rw [h1]; simp; omega
      cases n with
      | zero => omega
      | succ n =>
        rw [h1, show h ++ 10 :: r ++ [10] = (h ++ [10]) ++ (r ++ [10]) by simp, List.foldl_append, e, words_lines n r (by omega)]
        rw [← h1]
        unfold wordsL
        rw [h3]; simp

theorem wordsM_eq (l : List UInt8) : wordsM l = wordsL l := by
  unfold wordsM; rw [words_lines l.length l (Nat.le_refl _)]; rfl
end Go.Proofs.YtiimdehcfkoemaaDoor.Cl
