/- The law CnfGrows as a contract. -/
import Derived.Test.YtbggenilngpjcaaCnG
namespace Go.Proofs.Ytbggenilngpjcaa.Cn
open Go Go.RowKit Go.Lib Go.Maps Go.Proofs.Ytbggenilngpjcaa.Gr

abbrev toI (es : List Nat) : List Int := es.map fun (e : Nat) => (e : Int)
theorem toI_snoc (es : List Nat) (e : Nat) : toI (es ++ [e]) = toI es ++ [(e : Int)] := by simp [toI]
theorem toI_getD (es : List Nat) (j : Nat) : (toI es).getD j 0 = ((es.getD j 0 : Nat) : Int) := by
  rw [List.getD_eq_getElem?_getD, List.getD_eq_getElem?_getD, List.getElem?_map]
  cases es[j]? <;> rfl

theorem RowI.argN {W w : World} {G : Gr.Loc} {M : MLoc} {v : Value} {es : List Nat} (h : RowI W w G M v (toI es)) : ∃ a c, v = .slice a es.length c ∧ es.length ≤ c ∧ c ≤ maxLen ∧ ArgI w a es.length (fun j => ((es.getD j 0 : Nat) : Int)) := by
  obtain ⟨a, c, e, h1, h2, h3⟩ := h.arg
  have hl : (toI es).length = es.length := List.length_map _
  have hf : (fun j => (toI es).getD j 0) = fun j => ((es.getD j 0 : Nat) : Int) := funext fun j => toI_getD es j
  rw [hl] at e h1 h3
  rw [hf] at h3
  exact ⟨a, c, e, h1, h2, h3⟩

/-- Where the law stands. -/
def GrowI (W : World) (gh mh last vars : Nat) (x : Int) (i : Nat) (v : Value) (w : World) : Prop :=
  ∃ (G : Gr.Loc) (L : List Nd) (M : MLoc) (S : Mk) (es : List Nat), G.h = gh ∧ M.h = mh ∧ LawM W w G L M S ∧ RowI W w G M v (toI es) ∧ 0 < es.length ∧ es.length ≤ 20 + i ∧ L.length ≤ 50 + i ∧ (∀ j, j < es.length → es.getD j 0 < 2 * (L.length + 1)) ∧ last / 2 ∈ S.vs ∧ lit S.vs last = x ∧ vars ≤ S.vs.length ∧ last < 2 * (L.length + 1)

set_option maxRecDepth 100000 in
set_option maxHeartbeats 20000000 in
theorem CnfGrows_law (a : Option Addr) (m c : Nat) (K : Nat → ActV) (a2 : Option Addr) (m2 c2 : Nat) (K2 : Nat → ActV) (W : World) (hp : ArgA W a m K) (hP : ∀ j, j < m → (K j).a ≤ 9223372036854775807 ∧ (K j).b ≤ 9223372036854775807) (hm9 : m ≤ 9223372036854775807)
    (hp2 : ArgA W a2 m2 K2) (hP2 : ∀ j, j < m2 → (K2 j).a ≤ 9223372036854775807 ∧ (K2 j).b ≤ 9223372036854775807) (hm29 : m2 ≤ 9223372036854775807) :
    Calls Try.prog 5 #[.slice a m c, .slice a2 m2 c2] W fun e w' => e = .returned (.bool true) ∧ Below W.heap.size W w' := by
  have HAW := Lib.hid awake_any
  by_cases hbig : (15 : Int) < (m : Int) ∨ (15 : Int) < (m2 : Int)
  · by_cases h1 : (15 : Int) < (m : Int)
    all_goals
      have h2 : ¬ (15 : Int) < (m : Int) → (15 : Int) < (m2 : Int) := fun q => hbig.resolve_left q
      try have h3 := h2 h1
      clear hbig h2 hp hp2 hP hP2
      go_enter Try.func5, Try.ntmps5
      go_wp2_with fail
      refine (HAW.out W).mono ?_
      rintro e w1 ⟨rfl, hb1⟩
      have HB1 := Lib.hid hb1
      clear hb1
      go_wp2_with fail
      refine (HAW.out w1).mono ?_
      rintro e w2 ⟨rfl, hb2⟩
      have HB2 := Lib.hid (HB1.out.trans (hb2.mono HB1.out.size))
      clear hb2
      go_wp2_with fail
      go_ret
      exact ⟨rfl, HB2.out⟩
  · have h1 : ¬ (15 : Int) < (m : Int) := fun q => hbig (Or.inl q)
    have h2 : ¬ (15 : Int) < (m2 : Int) := fun q => hbig (Or.inr q)
    have hm15 : m ≤ 15 := by omega
    have hm215 : m2 ≤ 15 := by omega
    have HMA : Hid (∀ w1, Below W.heap.size W w1 → Calls Try.prog 7 #[.slice a m c] w1 (MadeE w1 m)) := fun w1 hb => made_any' a m c K w1 (hp.below hb) hP (by omega)
    have HA := Lib.hid (And.intro hp2 hP2)
    clear hbig hp hp2 hP hP2
    go_enter Try.func5, Try.ntmps5
    go_wp2_with fail
    refine (HAW.out W).mono ?_
    rintro e w1 ⟨rfl, hb1⟩
    have HB1 := Lib.hid hb1
    have HM1 := Lib.hid (HMA.out w1 hb1)
    clear hb1 HMA
    go_wp2_with fail
    refine HM1.out.mono ?_
    rintro e w2 ⟨gh, ev, rfl, G, L, es, hg, hL, hE, hes, hLl, hown⟩
    have HL := Lib.hid hL
    have HES := Lib.hid hE
    have HG := Lib.hid (And.intro hg (And.intro hes (And.intro hLl hown)))
    have HN := NewM_any w2 G.h
    rw [hg] at HN
    have HN := Lib.hid HN
    clear hL hE hg hes hLl hown HM1
    go_wp2_with fail
    refine HN.out.mono ?_
    rintro e w3 ⟨M, rfl, m1, m2', m3⟩
    have hL3 : LawM w1 w3 G L M ⟨[0], [[-1]]⟩ := LawM.start HL.out (by rw [HG.out.1]; exact m1) m2' m3
    have hR3 : RowI w1 w3 G M ev (toI es) := RowI.ofEs HES.out m2' m3
    obtain ⟨ea, ec, rfl, hec, _, hEA⟩ := hR3.argN
    obtain ⟨n, hn⟩ : ∃ n, n + 1 = es.length := ⟨es.length - 1, by have := HG.out.2.1; omega⟩
    rw [← hn] at hEA hec hR3 ⊢
    obtain ⟨last, hlast⟩ : ∃ l, l = es.getD n 0 := ⟨_, rfl⟩
    have hlo : last < 2 * (L.length + 1) := by rw [hlast]; exact HG.out.2.2.2 n (by omega)
    obtain ⟨b, off, rfl, hb, hc⟩ := hEA.resolve_left (by omega)
    have cl : w3.cell? ⟨b, off + n, none⟩ = some (.int .i64 (last : Int)) := by rw [hlast]; exact hc n (by omega)
    obtain ⟨S1, hS1⟩ := Need.total hL3.both.wf (last / 2) ⟨[0], [[-1]]⟩
    have HLI := Lib.hid (Lit_own hL3.both last hlo (by have := HG.out.2.2.1; omega) hL3.few hS1)
    have HX : Hid (∀ w4 M4, Both w4 G L M4 S1 → MFr M w3 w4 M4 → LawM w1 w4 G L M4 S1 ∧ RowI w1 w4 G M4 (.slice (some ⟨b, off, none⟩) (n + 1) ec) (toI es) ∧ M4.h = M.h) := fun w4 M4 q1 q2 => ⟨hL3.mk' q1 q2 (hS1.few hL3.few), hR3.mk' q2, q2.h⟩
    have HS1 : Hid (last / 2 ∈ S1.vs ∧ lit S1.vs last ≠ 0 ∧ last < 2 * (L.length + 1)) := ⟨hS1.mem, lit_ne hS1.mem, hlo⟩
    have hn9 : (n : Int) ≤ 100 := by have := HG.out.2.1; omega
    have n0 : ¬ (n : Int) < 0 := by omega
    have HNE := Lib.hid hn
    clear hL3 hR3 hS1 hc hb hlo hlast hn m1 m2' m3 HN HL HES hEA hec
    go_wp2_with fail
    refine HLI.out.mono ?_
    rintro e w4 ⟨rfl, M4, s1, s2⟩
    obtain ⟨hL4, hR4, hh4⟩ := HX.out w4 M4 s1 s2
    have HV := Vars_any hL4.both.m
    rw [hh4] at HV
    have HV := Lib.hid HV
    have HL4 := Lib.hid (And.intro hL4 (And.intro hR4 hh4))
    obtain ⟨x, hx⟩ : ∃ x, x = lit S1.vs last := ⟨_, rfl⟩
    have hx0 : (x != 0) = true := by rw [hx]; simpa using HS1.out.2.1
    rw [← hx]
    have HXX := Lib.hid hx
    obtain ⟨V, hV⟩ : ∃ V, V = S1.vs.length := ⟨_, rfl⟩
    rw [← hV] at HV
    have START : Hid (GrowI w1 gh M.h last V x 0 (.slice (some ⟨b, off, none⟩) (n + 1) ec) w4) :=
      ⟨G, L, M4, S1, es, HG.out.1, hh4, hL4, hR4, by have := HNE.out; omega, by have := HG.out.2.1; omega, by have := HG.out.2.2.1; omega, HG.out.2.2.2, HS1.out.1, hx.symm, by omega, HS1.out.2.2⟩
    clear s1 s2 hL4 hR4 HX HLI hx hV HS1 HL4 HNE HG cl
    go_wp2_with fail
    refine HV.out.mono ?_
    rintro e w' ⟨rfl, rfl⟩
    go_wp2_with fail
    go_loopw [6, 11] (fun ev iv wr => ∃ i : Nat, iv = .int .i64 (i : Int) ∧ i ≤ m2 ∧ Hid (GrowI w1 gh M.h last V x i ev wr)) (fun _ iv _ => m2 - (intOf iv).toNat)
    case atStart => exact ⟨0, rfl, Nat.zero_le _, START⟩
    case round =>
      obtain ⟨i, rfl, hi, HH⟩ := hrel
      by_cases hlt : i < m2
      · obtain ⟨G1, L1, M1, S2, es1, hg1, hm1, hL1, hR1, hes0, hes1, hLl1, hown, k1, k2, k3, k4⟩ := HH.out
        obtain ⟨b2, off2, rfl, hb2, hc2⟩ := (HA.out.1).resolve_left (by omega)
        have hiz : (i : Int) < (m2 : Int) := by omega
        have i0 : (0 : Int) ≤ (i : Int) := by omega
        have hbw : Below W.heap.size W wr := HB1.out.trans (hL1.below.mono HB1.out.size)
        have hxa : wr.cell? ⟨b2, off2 + i * 4 + 1, none⟩ = some (.int .i64 (K2 i).a) := (hbw.cell (p := ⟨b2, off2 + i * 4 + 1, none⟩) hb2).trans (hc2 i hlt).2.1
        have hxb : wr.cell? ⟨b2, off2 + i * 4 + 2, none⟩ = some (.int .i64 (K2 i).b) := (hbw.cell (p := ⟨b2, off2 + i * 4 + 2, none⟩) hb2).trans (hc2 i hlt).2.2.1
        obtain ⟨ea, ec1, rfl, hec1, _, hEA⟩ := hR1.argN
        have hEA' : ArgI wr.drew ea es1.length (fun j => ((es1.getD j 0 : Nat) : Int)) := hEA
        have HC1 := Lib.hid (at_any wr.drew ea es1.length ec1 (fun j => es1.getD j 0) hEA' hes0 (by omega) (fun j hj => by have := hown j hj; omega) (K2 i).a (HA.out.2 i hlt).1)
        have HC2 := Lib.hid (at_any wr.drew ea es1.length ec1 (fun j => es1.getD j 0) hEA' hes0 (by omega) (fun j hj => by have := hown j hj; omega) (K2 i).b (HA.out.2 i hlt).2)
        have ho1 : edgeF (fun j => es1.getD j 0) es1.length (nat0 (K2 i).a) < 2 * (L1.length + 1) := edgeF_lt hes0 hown
        have ho2 : edgeF (fun j => es1.getD j 0) es1.length (nat0 (K2 i).b) < 2 * (L1.length + 1) := edgeF_lt hes0 hown
        generalize edgeF (fun j => es1.getD j 0) es1.length (nat0 (K2 i).a) = p at *
        generalize edgeF (fun j => es1.getD j 0) es1.length (nat0 (K2 i).b) = q at *
        have hAns := andE_ans hL1.both.wf ho1 ho2
        have hAND := And_any hL1.both.g.drew (p : Int) (q : Int) (by omega) (by omega) (by omega)
        rw [own_nat ho1, own_nat ho2, hg1] at hAND
        have HAND := Lib.hid hAND
        generalize andE L1 p q = r at *
        obtain ⟨X, hX, hXl⟩ := hAns.ext
        have hdr : Below wr.heap.size wr wr.drew := ⟨rfl, rfl, rfl, Nat.le_refl _, fun _ _ => rfl⟩
        have HOP : Hid (∀ w5 G5, Rep w5 G5 r.2 → Fr G1 wr.drew w5 G5 → LawM w1 w5 G5 r.2 M1 S2 ∧ RowI w1 w5 G5 M1 (.slice ea es1.length ec1) (toI es1) ∧ G5.h = gh) := fun w5 G5 q1 q2 =>
          ⟨(hL1.after hdr).op hX q1 q2 hAns.wf, (hR1.after hdr).op q2, q2.h.trans hg1⟩
        have HK : Hid (es1.length ≤ 20 + i ∧ r.2.length ≤ 50 + (i + 1) ∧ (∀ j, j < (es1 ++ [r.1]).length → (es1 ++ [r.1]).getD j 0 < 2 * (r.2.length + 1)) ∧ last / 2 ∈ S2.vs ∧ lit S2.vs last = x ∧ V ≤ S2.vs.length ∧ last < 2 * (r.2.length + 1) ∧ r.1 < 2 * (r.2.length + 1) ∧ S2.cs.length ≤ 3 * S2.vs.length ∧ M1.h = M.h) := by
          have hl := hAns.le
          have hl2 := hAns.lenle
          have ho := hAns.own
          refine ⟨hes1, by omega, fun j hj => ?_, k1, k2, k3, by omega, ho, hL1.few, hm1⟩
          rw [getD_snoc]
          split
          · rename_i z; have := hown j z; omega
          · split <;> omega
        obtain ⟨ii, hi', hz0, hz1, hz2⟩ := info_parts Cn.infoInt
        obtain ⟨n1, hn1⟩ : ∃ n1, n1 = es1.length := ⟨_, rfl⟩
        rw [← hn1] at HC1 HC2 HOP
        have HN1 := Lib.hid hn1
        rw [← hn1]
        have n19 : (n1 : Int) ≤ 100 := by omega
        have HLN : Hid (n1 + 1 ≤ maxLen ∧ (n1 + 1) * 8 ≤ 140737488355328) := ⟨by unfold maxLen; omega, by omega⟩
        clear HH hL1 hR1 hes0 hes1 hLl1 hown k1 k2 k3 k4 hb2 hc2 hbw hec1 hEA hEA' ho1 ho2 hAns hAND hX hXl hdr hn1 hg1 hm1 START
        generalize (K2 i).a = za at *
        generalize (K2 i).b = zb at *
        go_wp2_with fail
        go_region_law (first | ((refine step_append_lies _ (by rfl) _ _ 26 (by rfl) w1.heap.size 3 ii (.int .i64 0) 1 8 Try.underlying26 hi' hz0 hz1 hz2 rfl (by decide) _ _ _ (by rfl) (HOW.out.alloc _) ⟨w5.heap.size, 0, none⟩ 1 1 [.int .i64 (r.1 : Int)] (by rfl) (by rfl) (World.news_of_block (cs := #[.int .i64 (r.1 : Int)]) (t := 3) (fr := (0, 0)) (heap_alloc_new w5 _)) (by simp [Value.oneCell']) (by decide) HLN.out.1 HLN.out.2 (by have := HS5.out.1.below.size; simp; omega) (w5.heap.size + 1) (by simp) ?_; intro g cap w6 hown hgrow hat hlt1)) | (go_simp; go_at_call_of 24 (Value.int .i64 za); refine HC1.out.mono ?_; rintro e w' ⟨rfl, rfl⟩) | (go_simp; go_at_call_of 24 (Value.int .i64 zb); refine HC2.out.mono ?_; rintro e w' ⟨rfl, rfl⟩) | (go_simp; go_at_call 23; refine HAND.out.mono ?_; intro e w5 hop; obtain ⟨rfl, G5, g5, s1, s2⟩ := hop.thenE; have HS5 := Lib.hid (HOP.out w5 G5 s1 s2); have HOW : Hid (w5.ownsRow w1.heap.size 3 1 (.slice ea n1 ec1) n1 ((toI es1).map (Value.int .i64))) := (by have := HS5.out.2.1.1; rw [show (toI es1).length = n1 from (List.length_map _).trans HN1.out.symm] at this; exact this); clear s1 s2 hop))
        all_goals
          obtain ⟨t1, t2, t3⟩ := HS5.out.2.1.push (z := (r.1 : Int)) (n := n1) ((HN1.out).trans (List.length_map _).symm) HS5.out.1 (.cells #[.int .i64 (r.1 : Int)] 3) hgrow hat hown
          rw [← toI_snoc] at t1
          have hcl : w6.cell? ⟨g, n1, none⟩ = some (.int .i64 (r.1 : Int)) := own_cell hown (by rw [List.getElem?_append_right (by simp [HN1.out])]; simp [HN1.out])
          obtain ⟨S3, hS3⟩ := Need.total t2.both.wf (r.1 / 2) S2
          have hLI := Lit_own t2.both r.1 HK.out.2.2.2.2.2.2.2.1 (by have := HK.out.2.1; omega) HK.out.2.2.2.2.2.2.2.2.1 hS3
          rw [HK.out.2.2.2.2.2.2.2.2.2] at hLI
          have HLI := Lib.hid hLI
          have HX3 : Hid (∀ w7 M7, Both w7 G5 r.2 M7 S3 → MFr M1 w6 w7 M7 → LawM w1 w7 G5 r.2 M7 S3 ∧ Hid (GrowI w1 gh M.h last V x (i + 1) (.slice (some ⟨g, 0, none⟩) (n1 + 1) cap) w7) ∧ M7.h = M.h) := fun w7 M7 q1 q2 => by
            have v1 := t2.mk' q1 q2 (hS3.few HK.out.2.2.2.2.2.2.2.2.1)
            have v2 := q2.h.trans HK.out.2.2.2.2.2.2.2.2.2
            refine ⟨v1, ⟨G5, r.2, M7, S3, es1 ++ [r.1], HS5.out.2.2, v2, v1, t1.mk' q2, by simp, ?_, HK.out.2.1, HK.out.2.2.1, hS3.keep HK.out.2.2.2.1, (hS3.lit HK.out.2.2.2.1).trans HK.out.2.2.2.2.1, Nat.le_trans HK.out.2.2.2.2.2.1 hS3.len, HK.out.2.2.2.2.2.2.1⟩, v2⟩
            have := HK.out.1
            rw [List.length_append, List.length_singleton]; omega
          have HL3 : Hid (lit S3.vs r.1 ≠ 0 ∧ -(S3.vs.length : Int) ≤ lit S3.vs r.1 ∧ lit S3.vs r.1 ≤ S3.vs.length ∧ (∀ w7 G7 M7, Both w7 G7 r.2 M7 S3 → S3.vs.length ≤ 1000)) := ⟨lit_ne hS3.mem, (lit_bd _ _).1, (lit_bd _ _).2, fun w7 G7 M7 h => by have := h.ok.len; have := HK.out.2.1; omega⟩
          clear t1 t2 t3 hown hgrow hat hlt1 hS3 hLI HS5 HOW
          go_wp2_with fail
          refine HLI.out.mono ?_
          rintro e w7 ⟨rfl, M7, s1, s2⟩
          obtain ⟨hL7, HG7, hm7⟩ := HX3.out w7 M7 s1 s2
          have hV7 := Vars_any hL7.both.m
          rw [hm7] at hV7
          have HV7 := Lib.hid hV7
          have hVl := HL3.out.2.2.2 w7 G5 M7 s1
          obtain ⟨z0, z1, z2, _⟩ := HL3.out
          generalize lit S3.vs r.1 = l at *
          generalize S3.vs.length = V3 at *
          have y0 : (l == 0) = false := by simpa using z0
          have y1 : ¬ (V3 : Int) < l := by omega
          have y2 : ¬ l < -(V3 : Int) := by omega
          have y3 : (V3 : Int) ≤ 1000 := by omega
          clear s1 s2 hL7 hV7 hm7 HX3 HLI HL3 z0 z1 z2 hcl
          go_wp2_with fail
          refine HV7.out.mono ?_
          rintro e w' ⟨rfl, rfl⟩
          go_wp2_with fail
          refine HV7.out.mono ?_
          rintro e w' ⟨rfl, rfl⟩
          go_wp2_with fail
          go_roundw
          case rel => exact ⟨i + 1, by go_num, by omega, HG7⟩
          case measure => simp [intOf]; omega
      · obtain rfl : i = m2 := by omega
        have hiz : ¬ (i : Int) < (i : Int) := by omega
        obtain ⟨G1, L1, M1, S2, es1, hg1, hm1, hL1, hR1, hes0, hes1, hLl1, hown, k1, k2, k3, k4⟩ := HH.out
        have hLI := Lit_own hL1.both last k4 (by omega) hL1.few (Need.old k1)
        rw [hm1, k2] at hLI
        have HLI := Lib.hid hLI
        have HX3 : Hid (∀ w7 M7, Both w7 G1 L1 M7 S2 → MFr M1 wr w7 M7 → Below w1.heap.size w1 w7 ∧ Calls Try.prog 13 #[.pointer (some ⟨M.h, 0, none⟩)] w7 fun e w' => e = .returned (.int .i64 (S2.vs.length : Int)) ∧ w7 = w') := fun w7 M7 q1 q2 => by
          have v1 := hL1.mk' q1 q2 hL1.few
          have v2 := Vars_any v1.both.m
          rw [q2.h.trans hm1] at v2
          exact ⟨v1.below, v2⟩
        generalize S2.vs.length = V3 at *
        have y1 : (V : Int) ≤ (V3 : Int) := by omega
        have y2 : ¬ (V3 : Int) < (V : Int) := by omega
        clear HH hL1 hR1 hes0 hes1 hLl1 hown k1 k2 k3 k4 hLI hg1 hm1 START
        go_wp2_with fail
        refine HLI.out.mono ?_
        rintro e w7 ⟨rfl, M7, s1, s2⟩
        obtain ⟨hb7, hV7⟩ := HX3.out w7 M7 s1 s2
        have HV7 := Lib.hid hV7
        have HB7 := Lib.hid (HB1.out.trans (hb7.mono HB1.out.size))
        clear s1 s2 hV7 hb7 HX3 HLI
        go_wp2_with fail
        refine HV7.out.mono ?_
        rintro e w' ⟨rfl, rfl⟩
        go_wp2_with fail
        go_ret
        exact ⟨rfl, HB7.out⟩
end Go.Proofs.Ytbggenilngpjcaa.Cn
