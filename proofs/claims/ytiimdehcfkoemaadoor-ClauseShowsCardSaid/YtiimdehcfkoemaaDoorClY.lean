/- The contract of clause.Parse. -/
import Derived.Test.YtiimdehcfkoemaaDoorClX
namespace Go.Proofs.YtiimdehcfkoemaaDoor.Cl
open Go Go.RowKit Go.Lib Go.Sort

/-- What the clauses behind a header come to. -/
def parse3 (N : Int) : Option (List (List Int)) → List (List Int) × Int
  | some cs => if (cs.length : Int) = N then (cs, 0) else ([], 11)
  | none => ([], 11)
def parse2 (L : List (List UInt8)) : List (List Int) × Int :=
  if (headR L).2.2 then parse3 (headR L).2.1 (clausesR (headR L).1 (L.drop 4)) else ([], 11)
/-- A text's clauses, and the error's number. -/
def parseR (l : List UInt8) : List (List Int) × Int := if l.length ≤ 100000 then parse2 (wordsL l) else ([], 12)
def Parsed (l : List UInt8) (w : World) (e : Ending) (w' : World) : Prop :=
  ∃ a c rs, e = .returned (.tuple #[.slice a rs.length c, .int .i64 (parseR l).2]) ∧ rs.map Row.zs = (parseR l).1 ∧ RowsIn w' a rs ∧ Below w.heap.size w w'
theorem rows_nil (w : World) (a : Option Addr) : RowsIn w a [] := ⟨RowIn.nil _ _ _, (fun r hr => by cases hr), (fun r hr => by cases hr)⟩
theorem headR_long {L : List (List UInt8)} (h : (headR L).2.2 = true) : 4 ≤ L.length := by
  match L, h with
  | _ :: _ :: _ :: _ :: _, _ => simp
  | [], h => cases h
  | [_], h => cases h
  | [_, _], h => cases h
  | [_, _, _], h => cases h
theorem valN_lt (l : List UInt8) : valN l < 1000000 := by
  unfold valN; split
  · exact numV_bd (by assumption)
  · omega
theorem headR_lt (L : List (List UInt8)) : (headR L).1 < 1000000 ∧ (headR L).2.1 < 1000000 := by
  unfold headR
  split
  · split
    · exact ⟨valN_lt _, valN_lt _⟩
    · simp
  · simp
theorem word_size_le (l : List UInt8) : ∀ x ∈ wordsL l, x.length ≤ l.length := by
  have h1 : ∀ (t : List UInt8) (w : List UInt8) (o : List (List UInt8)) (B : Nat), (∀ x ∈ o, x.length ≤ B) → w.length + t.length ≤ B → (∀ x ∈ (t.foldl fstep (w, o)).2, x.length ≤ B) ∧ (t.foldl fstep (w, o)).1.length ≤ B := by
    intro t
    induction t with
    | nil => intro w o B h1 h2; exact ⟨h1, by simpa using h2⟩
    | cons b t ih =>
      intro w o B h1 h2
      rw [List.foldl_cons]
      simp only [List.length_cons] at h2
      unfold fstep
      split
      · refine ih [] _ B ?_ (by simp; omega)
        intro x hx
        split at hx
        · exact h1 x hx
        · rcases List.mem_append.1 hx with hx | hx
          · exact h1 x hx
          · rw [List.mem_singleton.1 hx]; simp only; omega
      · exact ih _ _ B h1 (by simp; omega)
  have h2 : ∀ t : List UInt8, ∀ x ∈ fieldsL t, x.length ≤ t.length := by
    intro t x hx
    have h := h1 t [] [] t.length (fun x hx => by cases hx) (by simp)
    unfold fieldsL at hx
    generalize t.foldl fstep ([], []) = p at *
    obtain ⟨w, o⟩ := p
    rw [fstep_end] at hx
    simp only at hx h
    split at hx
    · exact h.1 x hx
    · rcases List.mem_append.1 hx with hx | hx
      · exact h.1 x hx
      · rw [List.mem_singleton.1 hx]; exact h.2
  intro x hx
  unfold wordsL at hx
  obtain ⟨ln, hln, hx⟩ := List.mem_flatMap.1 hx
  have h3 : ln.length ≤ l.length := by
    have h4 := split_count l
    have h5 : ∀ (L : List (List UInt8)) y, y ∈ L → y.length + 1 ≤ (L.map fun x => x.length + 1).sum := by
      intro L; induction L with
      | nil => intro y hy; cases hy
      | cons z t ih =>
        intro y hy
        simp only [List.map_cons, List.sum_cons]
        rcases List.mem_cons.1 hy with rfl | hy
        · omega
        · have := ih y hy; omega
    have := h5 _ _ hln
    omega
  unfold lineWords at hx
  split at hx
  · cases hx
  · exact Nat.le_trans (h2 ln x hx) h3
theorem row_drop {w : World} {b off : Nat} {ws : List ByteArray} (h : RowIn Value.string w (some ⟨b, off, none⟩) ws) (k : Nat) : RowIn Value.string w (some ⟨b, off + k, none⟩) (ws.drop k) := by
  rcases h with h | ⟨b', off', e, hb, hc⟩
  · left; rw [h]; simp
  · simp only [Option.some.injEq, Addr.mk.injEq, and_true] at e
    obtain ⟨rfl, rfl⟩ := e
    refine Or.inr ⟨b, off + k, rfl, hb, fun j hj => ?_⟩
    rw [List.length_drop] at hj
    have := hc (k + j) (by omega)
    rw [Nat.add_assoc, this, getElem!_pos _ (k + j) (by omega), getElem!_pos _ j (by rw [List.length_drop]; omega), List.getElem_drop]

set_option maxHeartbeats 4000000 in
set_option maxRecDepth 100000 in
theorem Parse_any (s : ByteArray) (w : World) (hs : s.size ≤ 9223372036854775807) (hM : MaxLenIn w) :
    Calls Tryd.prog 22 #[.string s] w (Parsed s.data.toList w) := by
  have hln : s.data.toList.length = s.size := by rw [Array.length_toList]; rfl
  by_cases hbig : s.size ≤ 100000
  · have hbz : ¬ (100000 : Int) < (s.size : Int) := by omega
    have HP : Hid (parseR s.data.toList = parse2 (wordsL s.data.toList)) := by show _ = _; unfold parseR; rw [if_pos (by omega)]
    have HW := Lib.hid (words_any s w hbig hM)
    have hsz := word_size_le s.data.toList
    have hcnt : (wordsL s.data.toList).length ≤ 100001 := by
      have := words_count s.data.toList (splitL s.data.toList).length
      rw [List.take_length] at this
      have e : (wordsL s.data.toList).length = ((splitL s.data.toList).flatMap lineWords).length := rfl
      omega
    have hh := headR_lt (wordsL s.data.toList)
    have HLONG : Hid ((headR (wordsL s.data.toList)).2.2 = true → 4 ≤ (wordsL s.data.toList).length) := headR_long
    obtain ⟨R, hR⟩ : ∃ R, R = parseR s.data.toList := ⟨_, rfl⟩
    unfold Parsed
    rw [← hR]
    rw [← hR] at HP
    generalize wordsL s.data.toList = L at *
    have HSZ := Lib.hid hsz
    clear hR hsz hM
    go_enter Tryd.func22, Tryd.ntmps22
    go_wp2_with fail
    refine HW.out.mono ?_
    rintro e w1 ⟨a, c, ws, rfl, hrow, hwl, hcap, hb1⟩
    have HROW := Lib.hid hrow
    have HWL := Lib.hid hwl
    have hwn : ws.length = L.length := by rw [← hwl, List.length_map]
    have HSW : Hid (∀ x ∈ ws, x.size ≤ 9223372036854775807) := fun x hx => by
      have h1 := HSZ.out x.data.toList (by rw [← hwl]; exact List.mem_map_of_mem hx)
      have h2 : x.data.toList.length = x.size := by rw [Array.length_toList]; rfl
      omega
    have HWN := Lib.hid hwn
    have hwlen : ws.length ≤ 100001 := by omega
    clear hrow hwl hwn HW
    go_wp2_with fail
    have hhd := header_any a c ws w1 HROW.out (by omega) HSW.out
    unfold Headed at hhd
    rw [HWL.out] at hhd
    refine hhd.mono ?_
    rintro e w2 ⟨rfl, hb2⟩
    have hB2 := hb1.trans (hb2.mono hb1.size)
    have HROW2 := Lib.hid (HROW.out.below hb2)
    clear hhd
    cases hok : (headR L).2.2 with
    | false =>
      have HR : Hid (R = ([], 11)) := by show _ = _; rw [HP.out]; unfold parse2; rw [hok]; rfl
      clear HP hok
      go_wp2_with fail
      go_ret2
      exact ⟨none, 0, [], by rw [HR.out]; rfl, by rw [HR.out]; rfl, rows_nil _ _, hB2⟩
    | true =>
      have h4 : 4 ≤ ws.length := by rw [HWN.out]; exact HLONG.out hok
      have HP2 : Hid (R = parse3 (headR L).2.1 (clausesR (headR L).1 (L.drop 4))) := by show _ = _; rw [HP.out]; unfold parse2; rw [hok]; rfl
      have hh1 := hh.1
      have hh2 := hh.2
      generalize (headR L).1 = V at *
      generalize (headR L).2.1 = N at *
      obtain ⟨b, off, rfl, hb, hc⟩ := HROW2.out.pos (j := 0) (by omega)
      have hdl : (ws.drop 4).length = ws.length - 4 := by rw [List.length_drop]
      have HCL : Hid (∀ a' c' w3, Below w2.heap.size w2 w3 → RowIn Value.string w3 a' (ws.drop 4) → Calls Tryd.prog 51 #[.slice a' (ws.length - 4) c', .int .i64 V] w3 (Claused V (L.drop 4) w3)) := fun a' c' w3 hb3 hrow3 => by
        have := clauses_any a' c' (ws.drop 4) V w3 hrow3 (by rw [hdl]; omega) (fun x hx => HSW.out x (List.mem_of_mem_drop hx)) (by omega)
        rw [hdl, List.map_drop, HWL.out] at this
        exact this
      have HD4 : Hid (RowIn Value.string w2 (some ⟨b, off + 4, none⟩) (ws.drop 4)) := row_drop HROW2.out 4
      have hz4 : (4 : Int) ≤ (ws.length : Int) := by omega
      have hz4c : (4 : Int) ≤ (c : Int) := by omega
      clear HP hok hh hc hdl
      by_cases hc4 : c = 4
      · subst hc4
        have hw4 : ws.length = 4 := by omega
        have hcall : Calls Tryd.prog 51 #[.slice (some ⟨b, off, none⟩) 0 0, .int .i64 V] w2 (Claused V (L.drop 4) w2) := by
          have := HCL.out (some ⟨b, off, none⟩) 0 w2 (Below.refl _ _) (Or.inl (List.eq_nil_of_length_eq_zero (by rw [List.length_drop]; omega)))
          rwa [hw4] at this
        go_wp2_with fail
        refine hcall.mono ?_
        rintro e w3 ⟨hb3, ⟨hnone, v, rfl⟩ | ⟨a', c', rs, hsome, rfl, hrs⟩⟩
        · have HR : Hid (R = ([], 11)) := by show _ = _; rw [HP2.out, hnone]; rfl
          clear hnone HP2
          go_wp2_with fail
          go_ret2
          exact ⟨none, 0, [], by rw [HR.out]; rfl, by rw [HR.out]; rfl, rows_nil _ _, hB2.trans (hb3.mono hB2.size)⟩
        · have HRS := Lib.hid hrs
          by_cases hN : (rs.length : Int) = (N : Int)
          · have HR : Hid (R = (rs.map Row.zs, 0)) := by show _ = _; rw [HP2.out, hsome]; unfold parse3; simp only; rw [List.length_map, if_pos hN]
            have hNb : ((rs.length : Int) != (N : Int)) = false := by simpa using hN
            clear hN HP2 hsome hrs
            go_wp2_with fail
            go_ret2
            exact ⟨a', c', rs, by rw [HR.out]; rfl, by rw [HR.out], HRS.out, hB2.trans (hb3.mono hB2.size)⟩
          · have HR : Hid (R = ([], 11)) := by show _ = _; rw [HP2.out, hsome]; unfold parse3; simp only; rw [List.length_map, if_neg hN]
            have hNb : ((rs.length : Int) != (N : Int)) = true := by rw [bne_iff_ne]; exact hN
            clear hN HP2 hsome hrs
            go_wp2_with fail
            go_ret2
            exact ⟨none, 0, [], by rw [HR.out]; rfl, by rw [HR.out]; rfl, rows_nil _ _, hB2.trans (hb3.mono hB2.size)⟩
      · have hcall := fun cc => HCL.out (some ⟨b, off + 4, none⟩) cc w2 (Below.refl _ _) HD4.out
        have hc5 : (5 : Int) ≤ (c : Int) := by omega
        have hcn : 5 ≤ c := by omega
        go_wp2_with fail
        refine (hcall _).mono ?_
        rintro e w3 ⟨hb3, ⟨hnone, v, rfl⟩ | ⟨a', c', rs, hsome, rfl, hrs⟩⟩
        · have HR : Hid (R = ([], 11)) := by show _ = _; rw [HP2.out, hnone]; rfl
          clear hnone HP2
          go_wp2_with fail
          go_ret2
          exact ⟨none, 0, [], by rw [HR.out]; rfl, by rw [HR.out]; rfl, rows_nil _ _, hB2.trans (hb3.mono hB2.size)⟩
        · have HRS := Lib.hid hrs
          by_cases hN : (rs.length : Int) = (N : Int)
          · have HR : Hid (R = (rs.map Row.zs, 0)) := by show _ = _; rw [HP2.out, hsome]; unfold parse3; simp only; rw [List.length_map, if_pos hN]
            have hNb : ((rs.length : Int) != (N : Int)) = false := by simpa using hN
            clear hN HP2 hsome hrs
            go_wp2_with fail
            go_ret2
            exact ⟨a', c', rs, by rw [HR.out]; rfl, by rw [HR.out], HRS.out, hB2.trans (hb3.mono hB2.size)⟩
          · have HR : Hid (R = ([], 11)) := by show _ = _; rw [HP2.out, hsome]; unfold parse3; simp only; rw [List.length_map, if_neg hN]
            have hNb : ((rs.length : Int) != (N : Int)) = true := by rw [bne_iff_ne]; exact hN
            clear hN HP2 hsome hrs
            go_wp2_with fail
            go_ret2
            exact ⟨none, 0, [], by rw [HR.out]; rfl, by rw [HR.out]; rfl, rows_nil _ _, hB2.trans (hb3.mono hB2.size)⟩
  · have hbz : (100000 : Int) < (s.size : Int) := by omega
    have HR : Hid (parseR s.data.toList = ([], 12)) := by show _ = _; unfold parseR; rw [if_neg (by omega)]
    unfold Parsed
    clear hln hbig hM
    go_enter Tryd.func22, Tryd.ntmps22
    go_wp2_with fail
    go_ret2
    exact ⟨none, 0, [], by rw [HR.out]; rfl, by rw [HR.out]; rfl, rows_nil _ _, Below.refl _ _⟩
end Go.Proofs.YtiimdehcfkoemaaDoor.Cl
