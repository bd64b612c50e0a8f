/- What is shown is read as itself: no program. -/
import Derived.Test.YtiimdehcfkoemaaDoorClZg
namespace Go.Proofs.YtiimdehcfkoemaaDoor.Cl
open Go Go.RowKit Go.Lib Go.Sort

/-! ### Lines and fields -/
theorem splitL_app : ∀ (h r : List UInt8), 10 ∉ h → splitL (h ++ 10 :: r) = h :: splitL r
  | [], r, _ => by simp [splitL]
  | b :: h, r, hn => by
    have hb : b ≠ 10 := fun e => hn (by simp [e])
    have ih := splitL_app h r (fun hm => hn (List.mem_cons_of_mem _ hm))
    rw [List.cons_append, show splitL (b :: (h ++ 10 :: r)) = (match splitL (h ++ 10 :: r) with
      | h :: t => (b :: h) :: t
      | [] => [[b]]) by rw [splitL, if_neg hb]; rfl, ih]
/-- A word: not empty, without separators. -/
def Wd (u : List UInt8) : Prop := u ≠ [] ∧ ∀ b ∈ u, isSep b = false
theorem fold_word : ∀ (u w : List UInt8) (o : List (List UInt8)), (∀ b ∈ u, isSep b = false) → u.foldl fstep (w, o) = (w ++ u, o)
  | [], w, o, _ => by simp
  | b :: u, w, o, h => by
    rw [List.foldl_cons]
    have e : fstep (w, o) b = (w ++ [b], o) := by unfold fstep; rw [h b (by simp)]; simp
    rw [e, fold_word u _ _ (fun x hx => h x (List.mem_cons_of_mem _ hx))]; simp
theorem fold_words : ∀ (us : List (List UInt8)) (o : List (List UInt8)), (∀ u ∈ us, Wd u) → (us.flatMap (· ++ [32])).foldl fstep ([], o) = ([], o ++ us)
  | [], o, _ => by simp
  | u :: us, o, h => by
    have hu := h u (by simp)
    rw [List.flatMap_cons, List.foldl_append, List.foldl_append, fold_word u [] o hu.2]
    have e : [(32 : UInt8)].foldl fstep ([] ++ u, o) = ([], o ++ [u]) := by simp [fstep, isSep, hu.1]
    rw [e, fold_words us _ (fun x hx => h x (List.mem_cons_of_mem _ hx))]; simp
theorem fields_line (us : List (List UInt8)) (z : List UInt8) (h : ∀ u ∈ us, Wd u) (hz : Wd z) : fieldsL (us.flatMap (· ++ [32]) ++ z) = us ++ [z] := by
  unfold fieldsL
  rw [List.foldl_append, fold_words us [] h, fold_word z [] _ hz.2, fstep_end]
  simp [hz.1]

/-! ### Numerals -/
theorem dig_toNat (d : Nat) (h : d < 10) : (UInt8.ofNat (48 + d)).toNat = 48 + d := by
  rw [UInt8.toNat_ofNat']; omega
theorem dec_facts (u : Nat) : (Lib.decDigits u).all digB = true ∧ numV (Lib.decDigits u) = u ∧ Lib.decDigits u ≠ [] := by
  induction u using Nat.strongRecOn with
  | _ u ih =>
    by_cases h : u < 10
    · rw [digits_small u h]
      refine ⟨?_, ?_, by simp⟩
      · simp only [List.all_cons, List.all_nil, Bool.and_true]; unfold digB; rw [dig_toNat u h]; simp; omega
      · unfold numV; simp only [List.foldl_cons, List.foldl_nil]; rw [dig_toNat u h]; omega
    · rw [Lib.decDigits, dif_neg h]
      obtain ⟨h1, h2, h3⟩ := ih (u / 10) (by omega)
      have hd := dig_toNat (u % 10) (by omega)
      refine ⟨?_, ?_, by simp⟩
      · rw [List.all_append, h1]; simp only [List.all_cons, List.all_nil, Bool.and_true, Bool.true_and]; unfold digB; rw [hd]; simp; omega
      · rw [numV_snoc, h2, hd]; omega
theorem dec_length : ∀ (k u : Nat), u < 10 ^ (k + 1) → (Lib.decDigits u).length ≤ k + 1
  | 0, u, h => by rw [digits_small u (by simpa using h)]; simp
  | k + 1, u, h => by
    by_cases h10 : u < 10
    · rw [digits_small u h10]; simp
    · rw [Lib.decDigits, dif_neg h10]
      have := dec_length k (u / 10) (by rw [Nat.pow_succ] at h; omega)
      simp only [List.length_append, List.length_cons, List.length_nil]; omega
theorem dec_ok (u : Nat) (h : u < 1000000) : numOk (Lib.decDigits u) = true := by
  obtain ⟨h1, _, h3⟩ := dec_facts u
  have := dec_length 5 u (by simpa using h)
  unfold numOk
  rw [h1]
  cases e : Lib.decDigits u with
  | nil => exact absurd e h3
  | cons b t => rw [e] at this; simp; simpa using this
theorem digB_sep {b : UInt8} (h : digB b = true) : isSep b = false ∧ b ≠ 10 ∧ b ≠ 99 ∧ b ≠ 45 := by
  unfold digB at h
  rw [Bool.and_eq_true, decide_eq_true_eq, decide_eq_true_eq] at h
  refine ⟨?_, ?_, ?_, ?_⟩
  · unfold isSep
    simp only [Bool.or_eq_false_iff, beq_eq_false_iff_ne]
    refine ⟨⟨⟨?_, ?_⟩, ?_⟩, ?_⟩ <;> (rintro rfl; simp at h)
  all_goals (rintro rfl; simp at h)
theorem dec_byte {u : Nat} {b : UInt8} (h : b ∈ Lib.decDigits u) : isSep b = false ∧ b ≠ 10 ∧ b ≠ 99 ∧ b ≠ 45 := digB_sep (List.all_eq_true.1 (dec_facts u).1 b h)
theorem itoa_byte {x : Int} {b : UInt8} (h : b ∈ Lib.itoa x) : isSep b = false ∧ b ≠ 10 ∧ b ≠ 99 := by
  unfold Lib.itoa at h
  split at h
  · rcases List.mem_cons.1 h with rfl | h
    · exact ⟨rfl, by decide, by decide⟩
    · have := dec_byte h; exact ⟨this.1, this.2.1, this.2.2.1⟩
  · have := dec_byte h; exact ⟨this.1, this.2.1, this.2.2.1⟩
theorem itoa_ne (x : Int) : Lib.itoa x ≠ [] := by
  unfold Lib.itoa
  split
  · simp
  · exact (dec_facts _).2.2
theorem itoa_wd (x : Int) : Wd (Lib.itoa x) := ⟨itoa_ne x, fun _ h => (itoa_byte h).1⟩
theorem itoa_nat_val (u : Nat) (h : u < 1000000) : valN (Lib.itoa (u : Int)) = u ∧ numOk (Lib.itoa (u : Int)) = true := by
  rw [Lib.itoa_nonneg]
  refine ⟨?_, dec_ok u h⟩
  unfold valN; rw [if_pos (dec_ok u h)]; exact (dec_facts u).2.1
theorem dec_head (u : Nat) : (Lib.decDigits u).head? ≠ some 45 := by
  intro h
  exact (dec_byte (List.mem_of_mem_head? h)).2.2.2 rfl
theorem entry_itoa (x : Int) (h0 : -100000 ≤ x) (h1 : x ≤ 100000) : entryV (Lib.itoa x) = some x := by
  by_cases h : x < 0
  · obtain ⟨u, rfl⟩ : ∃ u : Nat, x = -(u : Int) := ⟨x.natAbs, by omega⟩
    rw [Lib.itoa_neg u (by omega)]
    have h2 := (dec_facts u).2.1
    unfold entryV
    rw [List.head?_cons, if_pos rfl, List.tail_cons, if_pos ⟨dec_ok u (by omega), by rw [h2]; omega, by rw [h2]; omega⟩, h2]
  · obtain ⟨u, rfl⟩ : ∃ u : Nat, x = (u : Int) := ⟨x.toNat, by omega⟩
    rw [Lib.itoa_nonneg]
    have h2 := (dec_facts u).2.1
    unfold entryV
    rw [if_neg (dec_head u), if_pos ⟨dec_ok u (by omega), by rw [h2]; omega⟩, h2]

/-! ### The greatest variable -/
theorem litMax_ge (n x : Int) : n ≤ litMax n x ∧ (isLit x = true → vr x ≤ litMax n x) := by
  unfold litMax
  cases h : isLit x with
  | false => simp
  | true => simp; omega
theorem rowMax_ge : ∀ (zs : List Int) (n : Int), n ≤ rowMax n zs ∧ ∀ x ∈ zs, isLit x = true → vr x ≤ rowMax n zs
  | [], n => ⟨Int.le_refl _, fun x h => by cases h⟩
  | z :: zs, n => by
    have h1 := litMax_ge n z
    have h2 := rowMax_ge zs (litMax n z)
    refine ⟨Int.le_trans h1.1 h2.1, fun x hx hl => ?_⟩
    rcases List.mem_cons.1 hx with rfl | hx
    · exact Int.le_trans (h1.2 hl) h2.1
    · exact h2.2 x hx hl
theorem foldMax_ge : ∀ (cs : List (List Int)) (n : Int), n ≤ cs.foldl rowMax n ∧ ∀ c ∈ cs, ∀ x ∈ c, isLit x = true → vr x ≤ cs.foldl rowMax n
  | [], n => ⟨Int.le_refl _, fun x h => by cases h⟩
  | z :: zs, n => by
    have h1 := rowMax_ge z n
    have h2 := foldMax_ge zs (rowMax n z)
    refine ⟨Int.le_trans h1.1 h2.1, fun c hc x hx hl => ?_⟩
    rcases List.mem_cons.1 hc with rfl | hc
    · exact Int.le_trans (h1.2 x hx hl) h2.1
    · exact h2.2 c hc x hx hl
theorem greatest_ge {cs : List (List Int)} {c : List Int} {x : Int} (hc : c ∈ cs) (hx : x ∈ c) (hl : isLit x = true) : vr x ≤ greatest cs := (foldMax_ge cs 0).2 c hc x hx hl

/-! ### Clauses -/
theorem pstep_lit {V x : Int} {cs : List (List Int)} {d : List Int} {o : Bool} (hl : isLit x = true) (hv : vr x ≤ V) : pstep V (some ⟨cs, d, o⟩) (Lib.itoa x) = some ⟨cs, d ++ [x], true⟩ := by
  have hb := (isLit_iff x).1 hl
  unfold pstep
  rw [entry_itoa x (by omega) (by omega)]
  simp only
  rw [if_pos hv, if_neg (by omega)]
theorem pstep_end {V : Int} {cs : List (List Int)} {d : List Int} {o : Bool} (hV : 0 ≤ V) : pstep V (some ⟨cs, d, o⟩) [48] = some ⟨cs ++ [d], [], false⟩ := by
  have e : ([48] : List UInt8) = Lib.itoa 0 := by rw [show (0 : Int) = ((0 : Nat) : Int) from rfl, Lib.itoa_nonneg, digits_small 0 (by omega)]; rfl
  rw [e]
  unfold pstep
  rw [entry_itoa 0 (by omega) (by omega)]
  simp only
  rw [if_pos (by unfold vr; omega)]; simp
theorem row_fold {V : Int} (hV : 0 ≤ V) : ∀ (c d : List Int) (cs : List (List Int)) (o : Bool), (∀ x ∈ c, isLit x = true ∧ vr x ≤ V) → (c.map Lib.itoa ++ [[48]]).foldl (pstep V) (some ⟨cs, d, o⟩) = some ⟨cs ++ [d ++ c], [], false⟩
  | [], d, cs, o, _ => by
    simp only [List.map_nil, List.nil_append, List.foldl_cons, List.foldl_nil]
    rw [pstep_end hV, List.append_nil]
  | x :: c, d, cs, o, h => by
    have hx := h x (by simp)
    rw [List.map_cons, List.cons_append, List.foldl_cons, pstep_lit hx.1 hx.2, row_fold hV c _ _ _ (fun y hy => h y (List.mem_cons_of_mem _ hy))]
    simp
theorem rows_fold {V : Int} (hV : 0 ≤ V) : ∀ (ds cs : List (List Int)), (∀ c ∈ ds, ∀ x ∈ c, isLit x = true ∧ vr x ≤ V) → (ds.flatMap fun c => c.map Lib.itoa ++ [[48]]).foldl (pstep V) (some ⟨cs, [], false⟩) = some ⟨cs ++ ds, [], false⟩
  | [], cs, _ => by simp
  | c :: ds, cs, h => by
    rw [List.flatMap_cons, List.foldl_append, row_fold hV c [] cs false (h c (by simp)), rows_fold hV ds _ (fun y hy => h y (List.mem_cons_of_mem _ hy))]
    simp

/-! ### The text's words -/
theorem wd48 : Wd [48] := ⟨by simp, fun b hb => by rw [List.mem_singleton.1 hb]; rfl⟩
theorem row_line (c : List Int) : rowText c ++ [48] = (c.map Lib.itoa).flatMap (· ++ [32]) ++ [48] := by
  unfold rowText; rw [List.flatMap_map]
theorem row_words (c : List Int) : lineWords (rowText c ++ [48]) = c.map Lib.itoa ++ [[48]] := by
  have hne : (rowText c ++ [48]).head? ≠ some 99 := by
    intro h
    have hm := List.mem_of_mem_head? h
    rcases List.mem_append.1 hm with hm | hm
    · unfold rowText at hm
      obtain ⟨x, _, hx⟩ := List.mem_flatMap.1 hm
      rcases List.mem_append.1 hx with hx | hx
      · exact (itoa_byte hx).2.2 rfl
      · simp at hx
    · simp at hm
  unfold lineWords
  rw [if_neg hne, row_line]
  exact fields_line _ _ (fun u hu => by obtain ⟨x, _, rfl⟩ := List.mem_map.1 hu; exact itoa_wd x) wd48
theorem row_no10 (c : List Int) : 10 ∉ rowText c ++ [48] := by
  intro h
  rcases List.mem_append.1 h with h | h
  · unfold rowText at h
    obtain ⟨x, _, hx⟩ := List.mem_flatMap.1 h
    rcases List.mem_append.1 hx with hx | hx
    · exact (itoa_byte hx).2.1 rfl
    · simp at hx
  · simp at h
theorem rows_words : ∀ cs : List (List Int), wordsL (rowsText cs) = cs.flatMap fun c => c.map Lib.itoa ++ [[48]]
  | [] => by simp [rowsText, wordsL, splitL, lineWords, fieldsL, fstep, isSep]
  | c :: cs => by
    have e : rowsText (c :: cs) = (rowText c ++ [48]) ++ 10 :: rowsText cs := by
      unfold rowsText; rw [List.flatMap_cons]; simp
    have ih := rows_words cs
    unfold wordsL at ih ⊢
    rw [e, splitL_app _ _ (row_no10 c), List.flatMap_cons, List.flatMap_cons, row_words, ih]
theorem head_words (v n : Int) (r : List UInt8) : wordsL (headText v n ++ r) = [112] :: [99, 110, 102] :: Lib.itoa v :: Lib.itoa n :: wordsL r := by
  have e : headText v n ++ r = (([[112], [99, 110, 102], Lib.itoa v] : List (List UInt8)).flatMap (· ++ [32]) ++ Lib.itoa n) ++ 10 :: r := by
    unfold headText; simp
  have hn : 10 ∉ (([[112], [99, 110, 102], Lib.itoa v] : List (List UInt8)).flatMap (· ++ [32]) ++ Lib.itoa n) := by
    intro h
    simp only [List.flatMap_cons, List.flatMap_nil, List.append_nil, List.mem_append, List.mem_cons, List.mem_nil_iff, or_false] at h
    rcases h with (h | h | h | h) | h
    all_goals first | (exact (itoa_byte h).2.1 rfl) | skip
    all_goals simp at h
    all_goals exact (itoa_byte h).2.1 rfl
  unfold wordsL
  rw [e, splitL_app _ _ hn, List.flatMap_cons]
  have hl : lineWords (([[112], [99, 110, 102], Lib.itoa v] : List (List UInt8)).flatMap (· ++ [32]) ++ Lib.itoa n) = [[112], [99, 110, 102], Lib.itoa v] ++ [Lib.itoa n] := by
    unfold lineWords
    rw [if_neg (by simp)]
    refine fields_line _ _ (fun u hu => ?_) (itoa_wd n)
    simp only [List.mem_cons, List.mem_nil_iff, or_false] at hu
    rcases hu with rfl | rfl | rfl
    · exact ⟨by simp, by decide⟩
    · exact ⟨by simp, by decide⟩
    · exact itoa_wd v
  rw [hl]; rfl

theorem rows_short {cs : List (List Int)} (h : cs.all rightB = true) (hl : ∀ c ∈ cs, c.length ≤ 30) : (rowsText cs).length ≤ 662 * cs.length := by
  induction cs with
  | nil => simp [rowsText]
  | cons x r ih =>
    rw [List.all_cons, Bool.and_eq_true] at h
    have h1 := rowText_length h.1
    have h2 := hl x (by simp)
    have h3 := ih h.2 fun z hz => hl z (List.mem_cons_of_mem _ hz)
    simp only [rowsText, List.flatMap_cons, List.length_append, List.length_cons, List.length_nil] at *
    omega

theorem parse_show (cs : List (List Int)) (hall : cs.all rightB = true) (hn : cs.length ≤ 60) (hl : ∀ c ∈ cs, c.length ≤ 30) : parseR (showText cs) = (cs, 0) := by
  have hg := greatest_bd cs
  have hlen : (showText cs).length ≤ 100000 := by
    unfold showText
    rw [if_pos hall]
    have h1 := Lib.itoa_length_le (greatest cs) (by omega) (by omega)
    have h2 := Lib.itoa_length_le (cs.length : Int) (by omega) (by omega)
    have h3 := rows_short hall hl
    unfold headText
    simp only [List.length_append, List.length_cons, List.length_nil]; omega
  unfold parseR
  rw [if_pos hlen]
  unfold showText
  rw [if_pos hall]
  unfold parse2
  rw [head_words, rows_words]
  obtain ⟨v, hv⟩ : ∃ v : Nat, greatest cs = (v : Int) := ⟨(greatest cs).toNat, by omega⟩
  have h1 := itoa_nat_val v (by omega)
  have h2 := itoa_nat_val cs.length (by omega)
  rw [hv]
  unfold headR
  simp only [h1.1, h1.2, h2.1, h2.2, Bool.and_self, if_true, and_self, List.drop_succ_cons, List.drop_zero]
  unfold clausesR parsed
  rw [rows_fold (by omega) cs [] (fun c hc x hx => by
    have hx' := List.all_eq_true.1 (List.all_eq_true.1 hall c hc) x hx
    exact ⟨hx', by rw [← hv]; exact greatest_ge hc hx hx'⟩)]
  simp [parse3]
end Go.Proofs.YtiimdehcfkoemaaDoor.Cl
