/- The law CnfOnce as a contract. -/
import Derived.Test.YtbggenilngpjcaaCnGrows
import Derived.Deep.RegionHeld3
namespace Go.Proofs.Ytbggenilngpjcaa.Cn
open Go Go.RowKit Go.Lib Go.Maps Go.Proofs.Ytbggenilngpjcaa.Gr

theorem Cls.form {w : World} {base : Nat} {v : Value} {rs : List Value} {n : Nat} (h : w.ownsRow base 26 1 v n rs) : ∃ a c, v = .slice a n c := by
  obtain ⟨a, c, e, _⟩ := own_form h; exact ⟨a, c, e⟩

/-- Where the law stands in its first loop: i literals are asked for, nn clauses taken. -/
def OnceA (W : World) (G : Gr.Loc) (L : List Nd) (mh : Nat) (es : List Nat) (ev : Value) (i nn : Nat) (lv : Value) (w : World) : Prop :=
  ∃ (M : MLoc) (S : Mk) (ls : List Int), M.h = mh ∧ LawM W w G L M S ∧ RowI W w G M ev (toI es) ∧ RowI W w G M lv ls ∧ (∀ k, ev.ownBlock = some k → lv.ownBlock ≠ some k) ∧ ls.length = i ∧ (∀ j, j < i → es.getD j 0 / 2 ∈ S.vs ∧ ls.getD j 0 = lit S.vs (es.getD j 0)) ∧ (nn + S.cs.length) % 3 = 1 ∧ (1 ≤ i → S.cs = [] ∧ 1 ≤ nn) ∧ nn ≤ 1000 * i
/-- .. and in its second. -/
def OnceB (W : World) (G : Gr.Loc) (L : List Nd) (mh : Nat) (vs : List Nat) (es : List Nat) (ev : Value) (ls : List Int) (lv : Value) (w : World) : Prop :=
  ∃ (M : MLoc), M.h = mh ∧ LawM W w G L M ⟨vs, []⟩ ∧ RowI W w G M ev (toI es) ∧ RowI W w G M lv ls
theorem OnceB.after {W w w' : World} {G : Gr.Loc} {L : List Nd} {mh : Nat} {vs es : List Nat} {ls : List Int} {ev lv : Value} (h : OnceB W G L mh vs es ev ls lv w) (hb : Below w.heap.size w w') : OnceB W G L mh vs es ev ls lv w' := by
  obtain ⟨M, h1, h2, h3, h4⟩ := h
  exact ⟨M, h1, h2.after hb, h3.after hb, h4.after hb⟩
/-- What is asked for again. -/
theorem OnceB.lit {W w : World} {G : Gr.Loc} {L : List Nd} {mh : Nat} {vs es : List Nat} {ls : List Int} {ev lv : Value} (h : OnceB W G L mh vs es ev ls lv w) (e : Nat) (he : e / 2 ∈ vs) (hl : L.length < 150000) :
    Calls Try.prog 11 #[.pointer (some ⟨mh, 0, none⟩), .int .i64 (e : Int)] w fun r w' => r = .returned (.int .i64 (Cn.lit vs e)) ∧ OnceB W G L mh vs es ev ls lv w' := by
  obtain ⟨M, h1, h2, h3, h4⟩ := h
  have := h2.both.ok.own _ he
  have hL := Lit_own h2.both e (by omega) hl (Nat.zero_le _) (Need.old he)
  rw [h1] at hL
  refine hL.mono fun r w' ⟨q1, M', q2, q3⟩ => ⟨q1, M', q3.h.trans h1, h2.mk' q2 q3 (Nat.zero_le _), h3.mk' q3, h4.mk' q3⟩

set_option maxRecDepth 100000 in
set_option maxHeartbeats 20000000 in
theorem CnfOnce_law (a : Option Addr) (m c : Nat) (K : Nat → ActV) (a2 : Option Addr) (m2 c2 : Nat) (P : Nat → Nat) (W : World) (hp : ArgA W a m K) (hP : ∀ j, j < m → (K j).a ≤ 9223372036854775807 ∧ (K j).b ≤ 9223372036854775807) (hm9 : m ≤ 9223372036854775807)
    (hp2 : ArgV (fun j => .int .u8 ((P j : Nat) : Int)) W a2 m2) (hP2 : ∀ j, P j < 256) (hm29 : m2 ≤ 9223372036854775807) :
    Calls Try.prog 4 #[.slice a m c, .slice a2 m2 c2] W fun e w' => e = .returned (.bool true) ∧ Below W.heap.size W w' := by
  have HAW := Lib.hid awake_any
  by_cases hbig : (25 : Int) < (m : Int) ∨ (20 : Int) < (m2 : Int)
  · by_cases h1 : (25 : Int) < (m : Int)
    all_goals
      have h2 : ¬ (25 : Int) < (m : Int) → (20 : Int) < (m2 : Int) := fun q => hbig.resolve_left q
      try have h3 := h2 h1
      clear hbig h2 hp hp2 hP hP2
      go_enter Try.func4, Try.ntmps4
      go_wp2_with fail
      refine (HAW.out W).mono ?_
      rintro e w1 ⟨rfl, hb1⟩
      have HB1 := Lib.hid hb1
      clear hb1
      go_wp2_with fail
      refine (HAW.out w1).mono ?_
      rintro e w2 ⟨rfl, hb2⟩
      have HB2 := Lib.hid (HB1.out.trans (hb2.mono HB1.out.size))
      clear hb2
      go_wp2_with fail
      go_ret
      exact ⟨rfl, HB2.out⟩
  · have h1 : ¬ (25 : Int) < (m : Int) := fun q => hbig (Or.inl q)
    have h2 : ¬ (20 : Int) < (m2 : Int) := fun q => hbig (Or.inr q)
    have hm25 : m ≤ 25 := by omega
    have hm220 : m2 ≤ 20 := by omega
    have HMA : Hid (∀ w1, Below W.heap.size W w1 → Calls Try.prog 7 #[.slice a m c] w1 (MadeE w1 m)) := fun w1 hb => made_any' a m c K w1 (hp.below hb) hP (by omega)
    have HA := Lib.hid (And.intro hp2 hP2)
    clear hbig hp hp2 hP hP2
    go_enter Try.func4, Try.ntmps4
    go_wp2_with fail
    refine (HAW.out W).mono ?_
    rintro e w1 ⟨rfl, hb1⟩
    have HB1 := Lib.hid hb1
    have HM1 := Lib.hid (HMA.out w1 hb1)
    clear hb1 HMA
    go_wp2_with fail
    refine HM1.out.mono ?_
    rintro e w2 ⟨gh, ev, rfl, G, L, es, hg, hL, hE, hes, hLl, hown⟩
    have HL := Lib.hid hL
    have HES := Lib.hid hE
    have HG : Hid (4 ≤ es.length ∧ es.length ≤ 29 ∧ L.length ≤ 100 ∧ ∀ j, j < es.length → es.getD j 0 < 2 * (L.length + 1)) := ⟨by omega, by omega, by omega, hown⟩
    have HN := NewM_any w2 G.h
    rw [hg] at HN
    have HN := Lib.hid HN
    have HGH := Lib.hid hg
    clear hL hE hg hes hLl hown HM1
    go_wp2_with fail
    refine HN.out.mono ?_
    rintro e w3 ⟨M, rfl, m1, m2', m3⟩
    have hL3 : LawM w1 w3 G L M ⟨[0], [[-1]]⟩ := LawM.start HL.out (by rw [HGH.out]; exact m1) m2' m3
    have hR3 : RowI w1 w3 G M ev (toI es) := RowI.ofEs HES.out m2' m3
    obtain ⟨ea, ec, rfl, hec, _, _⟩ := hR3.argN
    obtain ⟨n, hn⟩ : ∃ n, n = es.length := ⟨_, rfl⟩
    rw [← hn] at hR3 ⊢
    have START : Hid (OnceA w1 G L M.h es (.slice ea n ec) 0 0 (.slice none 0 0) w3) :=
      ⟨M, ⟨[0], [[-1]]⟩, [], rfl, hL3, hR3, ⟨World.ownsRow_nil _ _ _ _, fun k hk => by simp [Value.ownBlock] at hk⟩, fun k _ => by simp [Value.ownBlock], rfl, fun j hj => absurd hj (Nat.not_lt_zero _), rfl, fun h => absurd h (by omega), Nat.le_refl _⟩
    have HNE := Lib.hid hn
    have hn29 : n ≤ 29 := by have := HG.out.2.1; omega
    have hn4 : 4 ≤ n := by have := HG.out.1; omega
    clear hL3 hR3 hn hec m1 m2' m3 HN HL HES
    go_wp2_with fail
    go_loopw [8, 9, 10] (fun lv nv iv wr => ∃ i nn : Nat, iv = .int .i64 (i : Int) ∧ nv = .int .i64 (nn : Int) ∧ i ≤ n ∧ Hid (OnceA w1 G L M.h es (.slice ea n ec) i nn lv wr)) (fun _ _ iv _ => n - (intOf iv).toNat)
    case atStart => exact ⟨0, 0, rfl, rfl, Nat.zero_le _, START⟩
    case round =>
      obtain ⟨i, nn, rfl, rfl, hi, HH⟩ := hrel
      by_cases hlt : i < n
      · obtain ⟨M1, S, ls, hm1, hL1, hR1, hR2, hne, hll, hlk, hmod, hone, hnn⟩ := HH.out
        obtain ⟨a', c', ee, _, _, hEA⟩ := hR1.argN
        rw [← HNE.out] at ee hEA
        simp only [Value.slice.injEq, true_and] at ee
        obtain ⟨rfl, rfl⟩ := ee
        obtain ⟨b, off, rfl, hb, hc⟩ := hEA.resolve_left (by omega)
        have cx : wr.cell? ⟨b, off + i, none⟩ = some (.int .i64 ((es.getD i 0 : Nat) : Int)) := hc i hlt
        have he := HG.out.2.2.2 i (by have := HNE.out; omega)
        obtain ⟨la, lc, rfl, _, _, _⟩ := hR2.arg
        rw [hll]
        obtain ⟨S', hS'⟩ := Need.total hL1.both.wf (es.getD i 0 / 2) S
        have hLI := Lit_own hL1.both _ he (by have := HG.out.2.2.1; omega) hL1.few hS'
        rw [hm1] at hLI
        have HLI := Lib.hid hLI
        obtain ⟨ii, hi', hz0, hz1, hz2⟩ := info_parts Cn.infoInt
        have HX : Hid (∀ w4 M4, Both w4 G L M4 S' → MFr M1 wr w4 M4 → LawM w1 w4 G L M4 S' ∧ RowI w1 w4 G M4 (.slice (some ⟨b, off, none⟩) n ec) (toI es) ∧ RowI w1 w4 G M4 (.slice la i lc) ls ∧ M4.h = M.h) := fun w4 M4 q1 q2 => ⟨hL1.mk' q1 q2 (hS'.few hL1.few), hR1.mk' q2, by have := hR2.mk' q2; rw [hll] at this; exact this, q2.h.trans hm1⟩
        have hV := (hS'.ok hL1.both.wf hL1.both.ok (by omega)).len
        have hfw := hS'.few hL1.few
        have HK : Hid (ls.length = i ∧ (∀ k, (Value.slice (some ⟨b, off, none⟩) n ec).ownBlock = some k → (Value.slice la i lc).ownBlock ≠ some k) ∧ (∀ j, j < i + 1 → es.getD j 0 / 2 ∈ S'.vs ∧ (ls ++ [lit S'.vs (es.getD i 0)]).getD j 0 = lit S'.vs (es.getD j 0)) ∧ (nn + S'.cs.length) % 3 = 1 ∧ nn + S'.cs.length ≤ 1000 * (i + 1) ∧ S'.cs.length ≤ 1000) := by
          refine ⟨hll, fun k hk => by have := hne k hk; rw [hll] at this; exact this, fun j hj => ?_, by rw [Nat.add_mod, hS'.mod, ← Nat.add_mod]; exact hmod, by have := HG.out.2.2.1; omega, by have := HG.out.2.2.1; omega⟩
          by_cases q : j < i
          · obtain ⟨z1, z2⟩ := hlk j q
            refine ⟨hS'.keep z1, ?_⟩
            rw [hS'.lit z1, ← z2, List.getD_eq_getElem?_getD, List.getElem?_append_left (by omega), ← List.getD_eq_getElem?_getD]
          · obtain rfl : j = i := by omega
            refine ⟨hS'.mem, ?_⟩
            rw [List.getD_eq_getElem?_getD, List.getElem?_append_right (by omega), hll]
            simp
        have hiz : (i : Int) < (n : Int) := by omega
        have i0 : (0 : Int) ≤ (i : Int) := by omega
        have n9 : (nn : Int) ≤ 1000000 := by omega
        have HLN : Hid (i + 1 ≤ maxLen ∧ (i + 1) * 8 ≤ 140737488355328) := ⟨by unfold maxLen; omega, by omega⟩
        have bd := lit_bd S'.vs (es.getD i 0)
        have V9 : (S'.vs.length : Int) ≤ 1000 := by have := HG.out.2.2.1; omega
        generalize lit S'.vs (es.getD i 0) = x at *
        generalize es.getD i 0 = e at *
        clear HH START hL1 hR1 hR2 hne hll hlk hmod hone hnn hEA hb hc he hS' hLI hm1 hV hfw
        go_wp2_with fail
        refine HLI.out.mono ?_
        rintro e w4 ⟨rfl, M4, s1, s2⟩
        obtain ⟨hL4, hR4, hQ4, hm4⟩ := HX.out w4 M4 s1 s2
        have HL4 := Lib.hid (And.intro hL4 (And.intro hR4 (And.intro hQ4 hm4)))
        have HOW : Hid (w4.ownsRow w1.heap.size 3 1 (.slice la i lc) i (ls.map (Value.int .i64))) := by have := hQ4.1; rw [HK.out.1] at this; exact this
        have HSZ : Hid (w1.heap.size ≤ (w4.alloc (.cells #[.int .i64 x] 3)).heap.size) := by show _ ≤ _; have := hL4.below.size; simp; omega
        clear s1 s2 hL4 hR4 hQ4 hm4 HX HLI
        go_wp2_with (at_builtin; refine wpList_append_lies _ rfl _ _ 26 rfl w1.heap.size 3 ii _ 1 8 Try.underlying26 hi' hz0 hz1 hz2 rfl (by decide) _ _ _ rfl (HOW.out.alloc _) ⟨w4.heap.size, 0, none⟩ 1 1 [.int .i64 x] rfl rfl (World.news_of_block (cs := #[.int .i64 x]) (t := 3) (fr := (0, 0)) (heap_alloc_new w4 _)) (by simp [Value.oneCell']) (by decide) HLN.out.1 HLN.out.2 HSZ.out (w4.heap.size + 1) (by simp) ?_; intro g cap w5 hown hgrow hat hlt1)
        obtain ⟨q1, q2, q3⟩ := HL4.out.2.2.1.push (z := x) (n := i) HK.out.1.symm HL4.out.1 _ hgrow hat hown
        have q4 : RowI w1 w5 G M4 (.slice (some ⟨b, off, none⟩) n ec) (toI es) := ⟨owns_of_heap HL4.out.2.1.1 fun k hk => q3 k (HL4.out.2.1.1.lt k hk).2 (HK.out.2.1 k hk), HL4.out.2.1.2⟩
        have hT := Take_any q2.both.m
        obtain ⟨ca, cc, ecv⟩ := Cls.form q2.both.m.rows
        rw [ecv, HL4.out.2.2.2] at hT
        have HT := Lib.hid hT
        have HNX : Hid (OnceA w1 G L M.h es (.slice (some ⟨b, off, none⟩) n ec) (i + 1) (nn + S'.cs.length) (.slice (some ⟨g, 0, none⟩) (i + 1) cap) (w5.setCell ⟨M.h, 2, none⟩ (.slice none 0 0))) := by
          have t1 := q2.take
          have t2 := q1.mk' (takeFr (w := w5) (M := M4) (.slice none 0 0))
          have t3 := q4.mk' (takeFr (w := w5) (M := M4) (.slice none 0 0))
          rw [Hid, ← HL4.out.2.2.2]
          refine ⟨{ M4 with cv := .slice none 0 0, rs := [] }, ⟨S'.vs, []⟩, ls ++ [x], rfl, t1, t3, t2, fun k hk e => ?_, by rw [List.length_append, HK.out.1]; rfl, HK.out.2.2.1, ?_, fun _ => ⟨rfl, ?_⟩, HK.out.2.2.2.2.1⟩
          · have : g = k := by simpa [Value.ownBlock] using e
            subst this
            rcases hat with r | r
            · exact HK.out.2.1 g hk r
            · have := (HL4.out.2.1.1.lt g hk).2; omega
          · exact HK.out.2.2.2.1
          · have := HK.out.2.2.2.1; omega
        have hcs9 : (S'.cs.length : Int) ≤ 1000 := by have := HK.out.2.2.2.2.2; omega
        generalize S'.cs.length = cl at *
        clear q1 q2 q3 q4 hT hown hgrow hat hlt1 ecv HOW HSZ HL4
        go_wp2_with fail
        refine HT.out.mono ?_
        rintro e w6 ⟨rfl, rfl⟩
        go_wp2_with fail
        go_roundw
        case rel => exact ⟨i + 1, nn + cl, by go_num, by go_num, by omega, HNX⟩
        case measure => simp [intOf]; omega
      · obtain rfl : i = n := by omega
        have hiz : ¬ (i : Int) < (i : Int) := by omega
        obtain ⟨M1, S, ls, hm1, hL1, hR1, hR2, hne, hll, hlk, hmod, hone, hnn⟩ := HH.out
        obtain ⟨hcs, hn1⟩ := hone (by omega)
        obtain ⟨vs, cs⟩ := S
        simp only at hcs
        subst hcs
        have hV := Vars_any hL1.both.m
        rw [hm1] at hV
        have HV : Hid (Calls Try.prog 13 #[.pointer (some ⟨M.h, 0, none⟩)] wr fun e w' => e = .returned (.int .i64 (vs.length : Int)) ∧ wr = w') := hV
        obtain ⟨la, lc, rfl, _, _, _⟩ := hR2.arg
        obtain ⟨lv0, hlv⟩ : ∃ v, v = (Value.slice la ls.length lc) := ⟨_, rfl⟩
        have START2 : Hid (OnceB w1 G L M.h vs es (.slice ea i ec) ls (.slice la ls.length lc) wr) := ⟨M1, hm1, hL1, hR1, hR2⟩
        have HK : Hid ((∀ j, j < i → es.getD j 0 / 2 ∈ vs ∧ ls.getD j 0 = lit vs (es.getD j 0)) ∧ ls.length = i) := ⟨hlk, hll⟩
        have hmod' : (nn : Int).tmod 3 = 1 := by rw [Int.tmod_eq_emod_of_nonneg (by omega)]; have : nn % 3 = 1 := hmod; omega
        have nn9 : (nn : Int) ≤ 1000000 := by omega
        have nn1 : (1 : Int) ≤ (nn : Int) := by omega
        have nn0 : ¬ (nn : Int) < 1 := by omega
        have nn3 : ¬ (nn : Int) < 0 := by omega
        rw [hll] at START2 ⊢
        generalize hVV : vs.length = V at *
        have HVT : Hid (∀ M', Both wr G L M' ⟨vs, []⟩ → True) := fun _ _ => trivial
        have HVV := Lib.hid hVV
        clear HH hL1 hR1 hR2 hne hll hlk hmod hone hnn hn1 hV hm1 START hlv HVT hVV
        go_wp2_with fail
        refine HV.out.mono ?_
        rintro e w' ⟨rfl, rfl⟩
        go_wp2_with fail
        obtain ⟨n, hn⟩ : ∃ n, n = i := ⟨_, rfl⟩
        subst hn
        go_loopw [12] (fun iv wr => ∃ i : Nat, iv = .int .i64 (i : Int) ∧ i ≤ m2 ∧ Hid (OnceB w1 G L M.h vs es (.slice ea n ec) ls (.slice la n lc) wr)) (fun iv _ => m2 - (intOf iv).toNat)
        case atStart => exact ⟨0, rfl, Nat.zero_le _, START2⟩
        case round =>
          obtain ⟨i, rfl, hi, HH⟩ := hrel
          by_cases hlt : i < m2
          · obtain ⟨M1, hm1, hL1, hR1, hR2⟩ := HH.out
            obtain ⟨b2, off2, rfl, hb2, hc2⟩ := (HA.out.1).resolve_left (by omega)
            have hiz : (i : Int) < (m2 : Int) := by omega
            have i0 : (0 : Int) ≤ (i : Int) := by omega
            have hbw : Below W.heap.size W wr := HB1.out.trans (hL1.below.mono HB1.out.size)
            have cp : wr.cell? ⟨b2, off2 + i, none⟩ = some (.int .u8 ((P i : Nat) : Int)) := (hbw.cell (p := ⟨b2, off2 + i, none⟩) hb2).trans (hc2 i hlt)
            have p256 := HA.out.2 i
            obtain ⟨kk, hkk⟩ : ∃ kk, kk = P i % n := ⟨_, rfl⟩
            have hkn : kk < n := by rw [hkk]; exact Nat.mod_lt _ (by omega)
            have hmd : ((P i : Nat) : Int).tmod (n : Int) = (kk : Int) := by rw [Int.tmod_eq_emod_of_nonneg (by omega), hkk]; exact (Int.natCast_emod _ _).symm
            obtain ⟨a', c', ee, _, _, hEA⟩ := hR1.argN
            rw [← HNE.out] at ee hEA
            simp only [Value.slice.injEq, true_and] at ee
            obtain ⟨rfl, rfl⟩ := ee
            obtain ⟨b, off, rfl, hb, hc⟩ := hEA.resolve_left (by omega)
            obtain ⟨a', c', ee, _, _, hLA⟩ := hR2.arg
            rw [HK.out.2] at ee hLA
            simp only [Value.slice.injEq, true_and] at ee
            obtain ⟨rfl, rfl⟩ := ee
            obtain ⟨lb, loff, rfl, _, _⟩ := hLA.resolve_left (by omega)
            have hev := (HK.out.1 kk hkn).1
            have hlx := (HK.out.1 kk hkn).2
            have heo := HG.out.2.2.2 kk (by have := HNE.out; omega)
            have HC : Hid (∀ w', Hid (OnceB w1 G L M.h vs es (.slice (some ⟨b, off, none⟩) n ec) ls (.slice (some ⟨lb, loff, none⟩) n lc) w') → w'.cell? ⟨b, off + kk, none⟩ = some (.int .i64 ((es.getD kk 0 : Nat) : Int)) ∧ w'.cell? ⟨lb, loff + kk, none⟩ = some (.int .i64 (lit vs (es.getD kk 0)))) := fun w' h => by
              obtain ⟨M2, _, _, k3, k4⟩ := h.out
              obtain ⟨a', c', ee, _, _, k5⟩ := k3.argN
              rw [← HNE.out] at ee k5
              simp only [Value.slice.injEq, true_and] at ee
              obtain ⟨rfl, rfl⟩ := ee
              obtain ⟨b', off', e1, _, k6⟩ := k5.resolve_left (by omega)
              simp only [Option.some.injEq, Addr.mk.injEq, and_true] at e1
              obtain ⟨rfl, rfl⟩ := e1
              obtain ⟨a', c', ee, _, _, k7⟩ := k4.arg
              rw [HK.out.2] at ee k7
              simp only [Value.slice.injEq, true_and] at ee
              obtain ⟨rfl, rfl⟩ := ee
              obtain ⟨b', off', e1, _, k8⟩ := k7.resolve_left (by omega)
              simp only [Option.some.injEq, Addr.mk.injEq, and_true] at e1
              obtain ⟨rfl, rfl⟩ := e1
              exact ⟨k6 kk hkn, by rw [← hlx]; exact k8 kk hkn⟩
            have HLa : Hid (∀ w', Hid (OnceB w1 G L M.h vs es (.slice (some ⟨b, off, none⟩) n ec) ls (.slice (some ⟨lb, loff, none⟩) n lc) w') → Calls Try.prog 11 #[.pointer (some ⟨M.h, 0, none⟩), .int .i64 ((es.getD kk 0 : Nat) : Int)] w' fun r w'' => r = .returned (.int .i64 (lit vs (es.getD kk 0))) ∧ Hid (OnceB w1 G L M.h vs es (.slice (some ⟨b, off, none⟩) n ec) ls (.slice (some ⟨lb, loff, none⟩) n lc) w'')) := fun w' h => OnceB.lit h.out _ hev (by have := HG.out.2.2.1; omega)
            have HLb : Hid (∀ w', Hid (OnceB w1 G L M.h vs es (.slice (some ⟨b, off, none⟩) n ec) ls (.slice (some ⟨lb, loff, none⟩) n lc) w') → Calls Try.prog 11 #[.pointer (some ⟨M.h, 0, none⟩), .int .i64 ((neg (es.getD kk 0) : Nat) : Int)] w' fun r w'' => r = .returned (.int .i64 (-(lit vs (es.getD kk 0)))) ∧ Hid (OnceB w1 G L M.h vs es (.slice (some ⟨b, off, none⟩) n ec) ls (.slice (some ⟨lb, loff, none⟩) n lc) w'')) := fun w' h => by
              rw [← lit_neg]
              exact OnceB.lit h.out _ (by rw [neg_half]; exact hev) (by have := HG.out.2.2.1; omega)
            have HNT : Hid (∀ w', Calls Try.prog 22 #[.int .i64 ((es.getD kk 0 : Nat) : Int)] w' fun r w'' => r = .returned (.int .i64 ((neg (es.getD kk 0) : Nat) : Int)) ∧ w' = w'') := fun w' => Not_any _ w' (by have := HG.out.2.2.1; omega)
            have HNN : Hid (neg (es.getD kk 0) ≠ es.getD kk 0) := neg_ne _
            have HD : Hid (∀ w', Hid (OnceB w1 G L M.h vs es (.slice (some ⟨b, off, none⟩) n ec) ls (.slice (some ⟨lb, loff, none⟩) n lc) w') → Hid (OnceB w1 G L M.h vs es (.slice (some ⟨b, off, none⟩) n ec) ls (.slice (some ⟨lb, loff, none⟩) n lc) w'.drew)) := fun w' h => OnceB.after h.out ⟨rfl, rfl, rfl, Nat.le_refl _, fun _ _ => rfl⟩
            have bd := lit_bd vs (es.getD kk 0)
            rw [HVV.out] at bd
            have hV9 : (V : Int) ≤ 1000 := by
              have := hL1.both.ok.len
              have h2 : (⟨vs, []⟩ : Mk).vs.length = V := HVV.out
              have := HG.out.2.2.1
              omega
            generalize lit vs (es.getD kk 0) = x at *
            generalize neg (es.getD kk 0) = e' at *
            generalize es.getD kk 0 = e at *
            have x1 : -1000 ≤ x := by omega
            have x2 : x ≤ 1000 := by omega
            have kk0 : (0 : Int) ≤ (kk : Int) := by omega
            have kkn : (kk : Int) < (n : Int) := by omega
            have n9 : (n : Int) ≤ 29 := by omega
            have n0 : ¬ (n : Int) = 0 := by omega
            have ne' : ¬ (e' : Int) = (e : Int) := by have := HNN.out; omega
            have xx : (x != x) = false := by simp
            have yy : (-x != -x) = false := by simp
            have pi0 : (0 : Int) ≤ ((P i : Nat) : Int) := by omega
            have pi9 : ((P i : Nat) : Int) ≤ 255 := by omega
            generalize P i = pi at *
            have HI0 := HD.out _ HH
            obtain ⟨ce, cl⟩ := HC.out _ HH
            clear hL1 hR1 hR2 hm1 hbw hb2 hc2 hEA hLA hb hc hev hlx heo hkk hkn hlt hi START2 p256
            go_wp2_with fail
            have hwx : IntKind.i64.wrap (-x) = -x := wrap_i64 (by omega) (by omega)
            go_region_held3 (fun w' => Hid (OnceB w1 G L M.h vs es (.slice (some ⟨b, off, none⟩) n ec) ls (.slice (some ⟨lb, loff, none⟩) n lc) w') ∧ w'.cell? ⟨b, off + kk, none⟩ = some (.int .i64 (e : Int)) ∧ w'.cell? ⟨lb, loff + kk, none⟩ = some (.int .i64 x)) (first | exact ⟨hI5, HC.out _ hI5⟩ | exact ⟨HI0, HC.out _ HI0⟩ | go_keep)
              (first | (go_at_call_of 11 (Value.int .i64 (e : Int)); refine (HLa.out _ (by assumption)).mono ?_; rintro r w5 ⟨rfl, hI5⟩) | (go_at_call_of 11 (Value.int .i64 (e' : Int)); refine (HLb.out _ (by assumption)).mono ?_; rintro r w5 ⟨rfl, hI5⟩) | (go_at_call 22; refine (HNT.out _).mono ?_; rintro r w' ⟨rfl, rfl⟩))
            all_goals
              go_wp2_with fail
              go_roundw
              case rel => exact ⟨i + 1, by go_num, by clear hwx; omega, hI5⟩
              case measure => clear hwx; simp [intOf]; omega
          · obtain rfl : i = m2 := by omega
            have hiz : ¬ (i : Int) < (i : Int) := by omega
            obtain ⟨M1, hm1, hL1, hR1, hR2⟩ := HH.out
            have hT := Take_any hL1.both.m
            obtain ⟨ca, cc, ecv⟩ := Cls.form hL1.both.m.rows
            have ecv' : M1.cv = .slice ca 0 cc := ecv
            rw [ecv', hm1] at hT
            have HT := Lib.hid hT
            have t1 := hL1.take
            rw [hm1] at t1
            have hV := Vars_any t1.both.m
            have HV2 : Hid (Calls Try.prog 13 #[.pointer (some ⟨M.h, 0, none⟩)] (wr.setCell ⟨M.h, 2, none⟩ (.slice none 0 0)) fun e w' => e = .returned (.int .i64 (V : Int)) ∧ wr.setCell ⟨M.h, 2, none⟩ (.slice none 0 0) = w') := by rw [← HVV.out]; exact hV
            have HB := Lib.hid (HB1.out.trans (t1.below.mono HB1.out.size))
            clear HH hL1 hR1 hR2 hT t1 hV hm1 START2 ecv ecv'
            go_wp2_with fail
            refine HT.out.mono ?_
            rintro e w6 ⟨rfl, rfl⟩
            go_wp2_with fail
            refine HV2.out.mono ?_
            rintro e w' ⟨rfl, rfl⟩
            go_wp2_with fail
            go_ret
            exact ⟨rfl, HB.out⟩
end Go.Proofs.Ytbggenilngpjcaa.Cn
