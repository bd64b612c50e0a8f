/- The law CnfBuilds as a contract. -/
import Derived.Test.YtbggenilngpjcaaCnVa
import Derived.Test.YtbggenilngpjcaaGrRg
namespace Go.Proofs.Ytbggenilngpjcaa.Cn
open Go Go.RowKit Go.Lib Go.Maps Go.Proofs.Ytbggenilngpjcaa.Gr

/-- Where the law stands in its first loop: k edges are to come. -/
def BldI (W : World) (G : Gr.Loc) (L : List Nd) (mh rh r : Nat) (gv : Value) (n : Nat) (ev : Value) (es : List Nat) (k : Nat) (cv : Value) (w : World) : Prop :=
  ∃ (M : MLoc) (S : Mk) (R : RLoc) (rs : List Value) (cs : List (List Int)), M.h = mh ∧ R.h = rh ∧ Bld W w G L M S r gv R ⟨S.vs, cs ++ S.cs⟩ cv rs cs ev es ∧ ClsOf L S.vs (cs ++ S.cs) ∧ (k < n → S.cs = []) ∧ (cs ++ S.cs).length ≤ 3 * S.vs.length

set_option maxRecDepth 100000 in
set_option maxHeartbeats 20000000 in
theorem CnfBuilds_law (a : Option Addr) (m c : Nat) (K : Nat → ActV) (ma : Option Addr) (mn mc : Nat) (Mv : Nat → Bool) (W : World) (hp : ArgA W a m K) (hP : ∀ j, j < m → (K j).a ≤ 9223372036854775807 ∧ (K j).b ≤ 9223372036854775807) (hm9 : m ≤ 9223372036854775807)
    (hp2 : ArgV (fun j => .bool (Mv j)) W ma mn) (hmn9 : mn ≤ 9223372036854775807) :
    Calls Try.prog 3 #[.slice a m c, .slice ma mn mc] W fun e w' => e = .returned (.bool true) ∧ Below W.heap.size W w' := by
  have HAW := Lib.hid awake_any
  by_cases hbig : (25 : Int) < (m : Int) ∨ (60 : Int) < (mn : Int)
  · by_cases h1 : (25 : Int) < (m : Int)
    all_goals
      have h2 : ¬ (25 : Int) < (m : Int) → (60 : Int) < (mn : Int) := fun q => hbig.resolve_left q
      try have h3 := h2 h1
      clear hbig h2 hp hp2 hP
      go_enter Try.func3, Try.ntmps3
      go_wp2_with fail
      refine (HAW.out W).mono ?_
      rintro e w1 ⟨rfl, hb1⟩
      have HB1 := Lib.hid hb1
      clear hb1
      go_wp2_with fail
      refine (HAW.out w1).mono ?_
      rintro e w2 ⟨rfl, hb2⟩
      have HB2 := Lib.hid (HB1.out.trans (hb2.mono HB1.out.size))
      clear hb2
      go_wp2_with fail
      go_ret
      exact ⟨rfl, HB2.out⟩
  · have h1 : ¬ (25 : Int) < (m : Int) := fun q => hbig (Or.inl q)
    have h2 : ¬ (60 : Int) < (mn : Int) := fun q => hbig (Or.inr q)
    have hm25 : m ≤ 25 := by omega
    have hmn60 : mn ≤ 60 := by omega
    have HMA : Hid (∀ w1, Below W.heap.size W w1 → Calls Try.prog 7 #[.slice a m c] w1 (MadeE w1 m)) := fun w1 hb => made_any' a m c K w1 (hp.below hb) hP (by omega)
    have HA := Lib.hid hp2
    clear hbig hp hp2 hP
    go_enter Try.func3, Try.ntmps3
    go_wp2_with fail
    refine (HAW.out W).mono ?_
    rintro e w1 ⟨rfl, hb1⟩
    have HB1 := Lib.hid hb1
    have HM1 := Lib.hid (HMA.out w1 hb1)
    clear hb1 HMA
    go_wp2_with fail
    refine HM1.out.mono ?_
    rintro e w2 ⟨gh, ev, rfl, G, L, es, hg, hL, hE, hes, hLl, hown⟩
    have HL := Lib.hid hL
    have HES := Lib.hid hE
    have HG : Hid (4 ≤ es.length ∧ es.length ≤ 29 ∧ L.length ≤ 100 ∧ ∀ j, j < es.length → es.getD j 0 < 2 * (L.length + 1)) := ⟨by omega, by omega, by omega, hown⟩
    have HTO := told_any hL.rep hL.wf (by omega)
    rw [hg] at HTO
    have HTO := Lib.hid HTO
    have HGH := Lib.hid hg
    clear hL hE hg hes hLl hown HM1
    go_wp2_with fail
    refine HTO.out.mono ?_
    rintro e w3 ⟨r, gv, rfl, t1, t2, t3, t4⟩
    have HT3 := Lib.hid (And.intro t1 (And.intro t2 (And.intro t3 t4)))
    have HN := NewM_any w3 G.h
    rw [HGH.out] at HN
    have HN := Lib.hid HN
    clear t1 t2 t3 t4 HTO
    go_wp2_with fail
    refine HN.out.mono ?_
    rintro e w4 ⟨M, rfl, m1, m2', m3⟩
    have HM4 := Lib.hid (And.intro m1 (And.intro m2' m3))
    have HNR := Lib.hid (NewR_any (HT3.out.1.below m2'))
    clear m1 m2' m3 HN
    go_wp2_with fail
    refine HNR.out.mono ?_
    rintro e w5 ⟨R, rfl, n1, n2, n3⟩
    obtain ⟨ea, ec, eev, hec, _, _⟩ := (RowI.ofEs (M := M) HES.out ((HT3.out.2.1.trans (HM4.out.2.1.mono HT3.out.2.1.size))) (fun k hk => Nat.le_trans HT3.out.2.1.size (HM4.out.2.2 k hk))).argN
    have START : Hid (BldI w1 G L M.h R.h r gv es.length ev es es.length (.slice none 0 0) w5) := by
      have hgw3 : Law w1 w3 G L := HL.out.after HT3.out.2.1
      have hlm : LawM w1 w4 G L M ⟨[0], [[-1]]⟩ := LawM.start hgw3 (by rw [HGH.out]; exact HM4.out.1) HM4.out.2.1 HM4.out.2.2
      have hes3 : EsS w1 w3 G ev es := HES.out.after HT3.out.2.1
      have hre : RowI w1 w4 G M ev (toI es) := RowI.ofEs hes3 HM4.out.2.1 HM4.out.2.2
      have s1 := HL.out.below.size
      have s2 := HT3.out.2.1.size
      have s3 := HM4.out.2.1.size
      have hR : ∀ k, R.has r gv k → w2.heap.size ≤ k ∧ (k < w3.heap.size ∨ w4.heap.size ≤ k) := fun k hk => by
        rcases n3 k hk with (q | q) | q
        · exact ⟨by rw [q]; exact HT3.out.2.2.1, Or.inl (HT3.out.1.lt k (Or.inl q))⟩
        · exact ⟨HT3.out.2.2.2 k q, Or.inl (HT3.out.1.lt k (Or.inr q))⟩
        · exact ⟨by omega, Or.inr q⟩
      refine ⟨M, ⟨[0], [[-1]]⟩, R, [], [], rfl, rfl, ⟨hlm.after n2, n1, World.ownsRow_nil _ _ _ _, Cls.nil _, hre.after n2, fun k hk => ⟨fun q => ?_, fun q => ?_⟩, fun k hk => ?_, fun k hk => ?_, fun k hk => ⟨fun q => ?_, fun q => ?_⟩, fun k hk => ?_, fun k hk => ?_⟩, ClsOf.start L, fun h => absurd h (Nat.lt_irrefl _), by decide⟩
      · have := HL.out.rep.lt k q; have := (hR k hk).1; omega
      · have h1 := HM4.out.2.2 k q; have h2 := hlm.both.m.lt k q
        rcases (hR k hk).2 with z | z <;> omega
      · rcases hk with q | ⟨v, hv, _⟩
        · simp [Value.ownBlock] at q
        · simp at hv
      · simp [Value.ownBlock] at hk
      · have := (HES.out.1.lt k hk).2; have := (hR k q).1; omega
      · rcases q with q | ⟨v, hv, _⟩
        · simp [Value.ownBlock] at q
        · simp at hv
      · have := (hR k hk).1; omega
      · rcases hk with q | ⟨v, hv, _⟩
        · simp [Value.ownBlock] at q
        · simp at hv
    obtain ⟨n, hn⟩ : ∃ n, n = es.length := ⟨_, rfl⟩
    rw [← hn] at eev START
    have HNE := Lib.hid hn
    have hn29 : n ≤ 29 := by have := HG.out.2.1; omega
    have hn4 : 4 ≤ n := by have := HG.out.1; omega
    have hn9 : (n : Int) ≤ 29 := by omega
    have hn1 : (4 : Int) ≤ (n : Int) := by omega
    have hnm : ((n : Int) - 1) = ((n - 1 : Nat) : Int) := by omega
    have HNM := Lib.hid hnm
    have HGG := HGH
    clear hnm hn hec n1 n2 n3 HN HL HES HNR HT3 HM4 HGH
    rw [eev] at START ⊢
    have HEV := Lib.hid eev
    clear eev
    go_wp2_with fail
    go_loopw [10, 11] (fun cv iv wr => ∃ k : Nat, iv = .int .i64 ((k : Int) - 1) ∧ k ≤ n ∧ Hid (BldI w1 G L M.h R.h r gv n (.slice ea n ec) es k cv wr)) (fun _ iv _ => (RowKit.intOf iv + 1).toNat)
    case atStart => exact ⟨n, rfl, Nat.le_refl _, START⟩
    case round =>
      obtain ⟨k, rfl, hk, HH⟩ := hrel
      rcases Nat.eq_zero_or_pos k with rfl | hkp
      · obtain ⟨M1, S, R1, rs, cs, hm1, hr1, hB, hCO, hnil, hfw⟩ := HH.out
        have hS := hnil (by omega)
        obtain ⟨vs, scs⟩ := S
        simp only at hS
        subst hS
        rw [List.append_nil] at hB hCO hfw
        have hO := hB.lm.both.ok
        have hW := hB.lm.both.wf
        have hlv := hO.len
        have hL9 := HG.out.2.2.1
        have hvl : vs.length ≤ 101 := by have : vs.length ≤ L.length + 1 := hlv; omega
        obtain ⟨ca, cc, ecv, _⟩ := own_form hB.rm.cs
        have c2 := hB.rm.c2
        rw [ecv, hr1] at c2
        have c2' : wr.cell? ⟨R.h, 2, none⟩ = some (.slice ca cs.length cc) := c2
        have hshort : ∀ c ∈ cs, c.length ≤ 9223372036854775807 := fun c hc => by have := hCO.short c hc; omega
        have HLI := Lists_cls hB.rc hB.ec hB.rm.cs hB.rm.each hshort (by have : cs.length ≤ 3 * vs.length := hfw; omega)
        rw [ecv] at HLI
        have HLI : Hid (Calls Try.prog 15 #[u10, .slice ca cs.length cc] wr fun e w' => e = .returned (.bool true) ∧ Below wr.heap.size wr w') := HLI
        have HBI : Hid (Bld w1 wr G L M1 ⟨vs, []⟩ r gv R1 ⟨vs, cs⟩ u10 rs cs (.slice ea n ec) es ∧ ClsOf L vs cs ∧ vs.length ≤ 101 ∧ M1.h = M.h ∧ R1.h = R.h ∧ L.length ≤ 100) := ⟨hB, hCO, hvl, hm1, hr1, hL9⟩
        have hm1' : ¬ ((0 : Int) ≤ -1) := by omega
        have hz : (((0 : Nat) : Int) - 1) = -1 := rfl
        rw [hz]
        clear HH hB hCO hnil hfw hO hW hlv hL9 hvl ecv c2 hshort hm1 hr1 START hz hk
        go_wp2_with fail
        refine HLI.out.mono ?_
        rintro e wA ⟨rfl, hbA⟩
        have hB := HBI.out.1.after hbA
        obtain ⟨la, lc, elv, _, _, hlz, hlof⟩ := own_form hB.rm.vs
        have hlc := hB.rm.c1
        have hlo := hB.rm.vs
        rw [elv] at hlc hlo
        rw [HBI.out.2.2.2.2.1] at hlc
        obtain ⟨V, hV⟩ : ∃ V, V = vs.length := ⟨_, rfl⟩
        have hlc' : wA.cell? ⟨R.h, 1, none⟩ = some (.slice la vs.length lc) := hlc
        have hlo' : wA.ownsRow 0 3 1 (.slice la vs.length lc) vs.length (vs.map encN) := hlo
        have hVp : 1 ≤ vs.length := hB.lm.both.ok.pos
        obtain ⟨lg, rfl⟩ : ∃ g, la = some ⟨g, 0, none⟩ := by
          cases la with
          | none => exact absurd (hlz rfl).1 (by show vs.length ≠ 0; omega)
          | some ad => obtain ⟨g, off, sp⟩ := ad; obtain ⟨rfl, rfl⟩ : off = 0 ∧ sp = none := hlof _ rfl; exact ⟨g, rfl⟩
        rw [← hV] at hlc' hlo'
        have HV := Lib.hid hV
        have HBA : Hid (Bld w1 wA G L M1 ⟨vs, []⟩ r gv R1 ⟨vs, cs⟩ u10 rs cs (.slice ea n ec) es) := hB
        have HLC : Hid (∀ w', Below wA.heap.size wA w' → w'.cell? ⟨R.h, 1, none⟩ = some (.slice (some ⟨lg, 0, none⟩) V lc) ∧ ∀ i x, vs[i]? = some x → w'.cell? ⟨lg, i, none⟩ = some (.int .i64 ((x : Nat) : Int))) := fun w' hb => by
          have h1 := hB.rm.lt R1.h (Or.inl rfl)
          rw [HBI.out.2.2.2.2.1] at h1
          refine ⟨(hb.cell (p := ⟨R.h, 1, none⟩) h1).trans hlc', fun i x hx => (hb.cell (p := ⟨lg, i, none⟩) (hlo'.lt lg rfl).2).trans (own_cell hlo' (by rw [List.getElem?_map, hx]; rfl))⟩
        have hV9 : V ≤ 101 := by rw [hV]; exact HBI.out.2.2.1
        have V9 : (V : Int) ≤ 101 := by omega
        have HAM : Hid (ArgV (fun j => .bool (Mv j)) wA ma mn) := HA.out.below (HB1.out.trans (hB.lm.below.mono HB1.out.size))
        have START2 : Hid (wA.ownsRow wA.heap.size 4 1 (.slice none 0 0) 0 (((valOf (mdl Mv mn) L vs).take 0).map Value.bool) ∧ Below wA.heap.size wA wA) := ⟨World.ownsRow_nil _ _ _ _, Below.refl _ _⟩
        have HG2 : Hid (G.h = gh) := HGG.out
        obtain ⟨wr', hwr'⟩ : ∃ w, w = wr := ⟨_, rfl⟩
        have hlcA := (HLC.out wA (Below.refl _ _)).1
        clear hB elv hlz hlof hlc hlo hlc' hlo' hVp hV hbA HLI c2' hwr'
        go_wp2_with fail
        go_loopw [12, 13] (fun vv iv wr => ∃ i : Nat, iv = .int .i64 (i : Int) ∧ i ≤ V ∧ Hid (wr.ownsRow wA.heap.size 4 1 vv i (((valOf (mdl Mv mn) L vs).take i).map Value.bool) ∧ Below wA.heap.size wA wr)) (fun _ iv _ => V - (RowKit.intOf iv).toNat)
        case atStart => exact ⟨0, rfl, Nat.zero_le _, START2⟩
        case round =>
          obtain ⟨i, rfl, hi, HH⟩ := hrel
          obtain ⟨hlc1, hlc2⟩ := HLC.out wr HH.out.2
          by_cases hlt : i < V
          · have hlz : (i : Int) < (V : Int) := by omega
            have i0 : (0 : Int) ≤ (i : Int) := by omega
            obtain ⟨x, hx⟩ : ∃ x, vs[i]? = some x := ⟨_, List.getElem?_eq_getElem (by have := HV.out; omega)⟩
            have cx := hlc2 i x hx
            have hxl : x < L.length + 1 := HBA.out.lm.both.ok.own x (List.mem_of_getElem? hx)
            have hL9 := HBI.out.2.2.2.2.2
            have x9 : ((x : Nat) : Int) ≤ 1000 := by omega
            have x0 : (0 : Int) ≤ ((x : Nat) : Int) := by omega
            have hba : Below wr.heap.size wr (wr.alloc (.cells #[.int .i64 (2 * (x : Int))] 3)) := (Below.refl _ _).alloc (Nat.le_refl _) _
            have hbaA : Below wA.heap.size wA (wr.alloc (.cells #[.int .i64 (2 * (x : Int))] 3)) := HH.out.2.trans (hba.mono HH.out.2.size)
            have hBx := HBA.out.after hbaA
            have hEV := Eval_any hBx.lm.both.g hBx.lm.both.wf ma mn mc Mv (HAM.out.below hbaA) (by omega) (some ⟨wr.heap.size, 0, none⟩) 1 1 (fun _ => 2 * (x : Int)) (Or.inr ⟨wr.heap.size, 0, rfl, by simp, fun q hq => by
              obtain rfl : q = 0 := by omega
              simp only [World.cell?, heap_alloc_new, Nat.zero_add]; rfl⟩) (by omega) (fun q _ => by omega) (by omega)
            rw [HG2.out] at hEV
            have HEV := Lib.hid hEV
            have hown : own L (2 * (x : Int)) = 2 * x := by have := own_nat (L := L) (e := 2 * x) (by omega); rw [← this]; congr 1
            have HX : Hid (∀ w6, Below (wr.alloc (.cells #[.int .i64 (2 * (x : Int))] 3)).heap.size (wr.alloc (.cells #[.int .i64 (2 * (x : Int))] 3)) w6 → w6.ownsRow wA.heap.size 4 1 u12 i (((valOf (mdl Mv mn) L vs).take i).map Value.bool) ∧ Below wA.heap.size wA w6 ∧ wA.heap.size ≤ (w6.alloc (.cells #[.bool (val (mdl Mv mn) L (2 * x))] 4)).heap.size ∧
                ∀ g cap w7, (w6.alloc (.cells #[.bool (val (mdl Mv mn) L (2 * x))] 4)).grownBy w7 u12.ownBlock → w7.ownsRow wA.heap.size 4 1 (.slice (some ⟨g, 0, none⟩) (i + 1) cap) (i + 1) (((valOf (mdl Mv mn) L vs).take i).map Value.bool ++ [.bool (val (mdl Mv mn) L (2 * x))]) → Hid (w7.ownsRow wA.heap.size 4 1 (.slice (some ⟨g, 0, none⟩) (i + 1) cap) (i + 1) (((valOf (mdl Mv mn) L vs).take (i + 1)).map Value.bool) ∧ Below wA.heap.size wA w7)) := fun w6 hb6 => by
              have hb7 : Below wr.heap.size wr w6 := hba.trans (hb6.mono hba.size)
              have hb8 : Below wA.heap.size wA w6 := HH.out.2.trans (hb7.mono HH.out.2.size)
              refine ⟨owns_of_heap HH.out.1 fun k hk => hb7.block k (HH.out.1.lt k hk).2, hb8, by have := hb8.size; simp; omega, fun g cap w7 q1 q2 => ⟨?_, (hb8.alloc hb8.size _).grown q1 (by have := hb8.size; simp; omega) fun k hk => (HH.out.1.lt k hk).1⟩⟩
              rw [valOf_take hx, List.map_append]; exact q2
            obtain ⟨bi, bi0, bz0, bz1, bz2⟩ := info_parts infoBool1
            have HLN : Hid (i + 1 ≤ maxLen ∧ (i + 1) * 1 ≤ 140737488355328) := ⟨by unfold maxLen; omega, by omega⟩
            have HOWN := Lib.hid hown
            clear HH hba hbaA hBx hEV hxl hL9 hx hown START2 hlc2
            go_wp2_with fail
            refine HEV.out.mono ?_
            rintro e w6 ⟨vb, rfl, hvb, hrow, hb6⟩
            have cv0 := hrow.cell (i := 0) (by omega)
            simp only [HOWN.out] at cv0
            obtain ⟨hx1, hx2, hx3, hx4⟩ := HX.out w6 hb6
            have HX1 := Lib.hid hx1
            have HX3 := Lib.hid hx3
            have HX4 := Lib.hid hx4
            generalize val (mdl Mv mn) L (2 * x) = u at *
            clear hvb hrow hb6 hx1 hx2 hx3 hx4 HX HEV
            go_wp2_with (at_builtin; refine wpList_append_lies _ rfl _ _ 23 rfl wA.heap.size 4 bi _ 1 1 Try.underlying23 bi0 bz0 bz1 bz2 rfl (by decide) _ _ _ rfl (HX1.out.alloc _) ⟨w6.heap.size, 0, none⟩ 1 1 [.bool u] rfl rfl (World.news_of_block (cs := #[.bool u]) (t := 4) (fr := (0, 0)) (heap_alloc_new w6 _)) (by simp [Value.oneCell']) (by decide) HLN.out.1 HLN.out.2 HX3.out (w6.heap.size + 1) (by simp) ?_; intro g cap w7 hown hgrow hat hlt1)
            have HF := HX4.out g cap w7 hgrow hown
            clear hown hgrow hat hlt1
            go_roundw
            case rel => exact ⟨i + 1, by go_num, by omega, HF⟩
            case measure => simp [RowKit.intOf]; omega
          · obtain rfl : i = V := by omega
            have hlz : ¬ (i : Int) < (i : Int) := by omega
            have hvl : (valOf (mdl Mv mn) L vs).length = i := by rw [valOf_len, HV.out]
            have hrow := HH.out.1
            have hbB := HH.out.2
            rw [List.take_of_length_le (by omega)] at hrow
            obtain ⟨va, vc, eva, _, _, hvz, hvof⟩ := own_form hrow
            have hVp : 1 ≤ i := by have := HBA.out.lm.both.ok.pos; have h2 : vs.length = i := HV.out.symm; have h3 : 1 ≤ vs.length := this; omega
            obtain ⟨vg, rfl⟩ : ∃ g, va = some ⟨g, 0, none⟩ := by
              cases va with
              | none => exact absurd (hvz rfl).1 (by omega)
              | some ad => obtain ⟨g, off, sp⟩ := ad; obtain ⟨rfl, rfl⟩ : off = 0 ∧ sp = none := hvof _ rfl; exact ⟨g, rfl⟩
            rw [eva] at hrow
            obtain ⟨hri, hra, _⟩ := bools_row hrow
            have hB := HBA.out.after hbB
            have hshort : ∀ c ∈ cs, c.length ≤ 9223372036854775807 := fun c hc => by have := HBI.out.2.1.short c hc; omega
            have HAL := All_cls hB.rc hB.ec hshort (some ⟨vg, 0, none⟩) vc _ hri
            rw [hvl, all_hold hB.lm.both.wf hB.lm.both.ok (by have := HBI.out.2.2.1; show vs.length ≤ 100000; omega) HBI.out.2.1] at HAL
            have HAL := Lib.hid HAL
            have hMI := MInputs_any hB.lm.both (by have := HBI.out.2.2.2.2.2; omega) (some ⟨vg, 0, none⟩) i vc (fun j => (valOf (mdl Mv mn) L vs).getD j false) hra (by omega)
            rw [HBI.out.2.2.2.1] at hMI
            have HMI : Hid (Calls Try.prog 18 #[.pointer (some ⟨M.h, 0, none⟩), .slice (some ⟨vg, 0, none⟩) i vc] wr (MInE wr L vs i (fun j => (valOf (mdl Mv mn) L vs).getD j false))) := hMI
            have HRW := Lib.hid (And.intro hrow hbB)
            obtain ⟨V, hVV⟩ : ∃ V, V = i := ⟨_, rfl⟩
            subst hVV
            have HVP := Lib.hid (And.intro hVp hvl)
            rw [eva]
            clear hrow hbB eva hvz hvof hri hra hB hshort hMI HH START2 hVp hvl hi hlc2 hlt
            obtain ⟨wB, hwB⟩ : ∃ w, w = wr := ⟨_, rfl⟩
            subst hwB
            go_wp2_with fail
            refine HAL.out.mono ?_
            rintro e w' ⟨rfl, rfl⟩
            go_wp2_with fail
            refine HMI.out.mono ?_
            rintro e wC ⟨ib, rfl, hib, hrC, hbC⟩
            have hbAC : Below wA.heap.size wA wC := HRW.out.2.trans (hbC.mono HRW.out.2.size)
            have HIB : Hid (∀ w', Below wC.heap.size wC w' → ∀ j, j < ins L → w'.cell? ⟨ib, j, none⟩ = some (.bool ((decide (j < mn) && Mv j) && decide (inN L j ∈ vs)))) := fun w' hb j hj => by
              have h1 := (hb.cell (p := ⟨ib, j, none⟩) hrC.lt).trans (hrC.cell hj)
              have h2 := inB_val (L := L) (vs := vs) (mn := mn) (Mv := Mv) hj
              rw [← HV.out] at h2
              rw [h2] at h1; exact h1
            have HVC : Hid (wC.ownsRow wA.heap.size 4 1 (.slice (some ⟨vg, 0, none⟩) V vc) V ((valOf (mdl Mv mn) L vs).map Value.bool)) := owns_of_heap HRW.out.1 fun k hk => hbC.block k (HRW.out.1.lt k hk).2
            have HBC := Lib.hid hbAC
            have HIBL := Lib.hid hrC.lt
            obtain ⟨N3, hN3⟩ : ∃ k, k = ins L := ⟨_, rfl⟩
            have HN3 := Lib.hid hN3
            have hN9 : N3 ≤ 100 := by have := HBI.out.2.2.2.2.2; have h2 : ins L ≤ L.length := List.countP_le_length; omega
            have N9 : (N3 : Int) ≤ 100 := by omega
            rw [← hN3]
            have START3 : Hid (Below wC.heap.size wC wC) := Below.refl _ _
            clear hib hrC hbC hbAC hN3 HAL HMI HRW
            go_wp2_with fail
            go_loopw [15] (fun iv wr => ∃ i : Nat, iv = .int .i64 (i : Int) ∧ i ≤ N3 ∧ Hid (Below wC.heap.size wC wr)) (fun iv _ => N3 - (RowKit.intOf iv).toNat)
            case atStart => exact ⟨0, rfl, Nat.zero_le _, START3⟩
            case round =>
              obtain ⟨i, rfl, hi, HH⟩ := hrel
              by_cases hlt : i < N3
              · have hlz : (i : Int) < (N3 : Int) := by omega
                have i0 : (0 : Int) ≤ (i : Int) := by omega
                have hj : i < ins L := by rw [← HN3.out]; exact hlt
                have ci := HIB.out wr HH.out i hj
                have hbA : Below wA.heap.size wA wr := HBC.out.trans (HH.out.mono HBC.out.size)
                by_cases hmi : i < mn
                · have mz : (i : Int) < (mn : Int) := by omega
                  obtain ⟨mb, mo, rfl, hml, hmc⟩ := HAM.out.resolve_left (by omega)
                  have cm : wr.cell? ⟨mb, mo + i, none⟩ = some (.bool (Mv i)) := (hbA.cell (p := ⟨mb, mo + i, none⟩) hml).trans (hmc i hmi)
                  rw [decide_eq_true hmi, Bool.true_and] at ci
                  cases hmv : Mv i with
                  | false =>
                    rw [hmv] at cm ci
                    have ci' : wr.cell? ⟨ib, i, none⟩ = some (.bool false) := ci
                    clear hj hbA hml hmc hmv ci START3
                    go_wp2_with fail
                    go_roundw
                    case rel => exact ⟨i + 1, by go_num, by omega, HH⟩
                    case measure => simp [RowKit.intOf]; omega
                  | true =>
                    rw [hmv] at cm ci
                    rw [Bool.true_and] at ci
                    have hBr := HBA.out.after hbA
                    obtain ⟨q, hq1, hq2, hq3, _⟩ := inN_get hj
                    have hIN := InputsX_any hBr.lm.both.g (by have := HBI.out.2.2.2.2.2; omega)
                    rw [HG2.out, ← HN3.out] at hIN
                    have HIN := Lib.hid hIN
                    have hVA : ∀ w', Below wr.heap.size wr w' → Calls Try.prog 19 #[.pointer (some ⟨R.h, 0, none⟩), .int .i64 ((inN L i : Nat) : Int)] w' fun e w'' => e = .returned (.int .i64 (var vs (inN L i) : Int)) ∧ w' = w'' := fun w' hb => by
                      have hO := hBr.lm.both.ok
                      have hlo : vs.length ≤ L.length + 1 := hO.len
                      have := Var_any (hBr.rm.below hb) (inN L i) (by have := HBI.out.2.2.2.2.2; omega) (by show vs.length < 1000000; have := HBI.out.2.2.1; omega) (fun x hx => by have := hO.own x hx; have := HBI.out.2.2.2.2.2; omega)
                      rw [HBI.out.2.2.2.2.1] at this; exact this
                    have HVA := Lib.hid hVA
                    have hiE : ((inE L).getD i 0).tdiv 2 = ((inN L i : Nat) : Int) := by rw [hq2, Int.tdiv_eq_ediv_of_nonneg (by omega)]; omega
                    have hi9 : (inE L).getD i 0 ≤ 1000 := by rw [hq2]; have := HBI.out.2.2.2.2.2; omega
                    have hi8 : 0 ≤ (inE L).getD i 0 := by rw [hq2]; omega
                    have HIE : Hid (∀ w' a', ArgI w' a' N3 (fun j => (inE L).getD j 0) → ∃ b2 o2, a' = some ⟨b2, o2, none⟩ ∧ w'.cell? ⟨b2, o2 + i, none⟩ = some (.int .i64 ((inE L).getD i 0))) := fun w' a' h => by
                      obtain ⟨b2, o2, e2, _, h3⟩ := h.resolve_left (by omega)
                      exact ⟨b2, o2, e2, h3 i hlt⟩
                    have x9 : ((inN L i : Nat) : Int) ≤ 1000 := by have := HBI.out.2.2.2.2.2; omega
                    have hvz := var_zero_iff vs (inN L i)
                    generalize (inE L).getD i 0 = ie at *
                    by_cases hm : inN L i ∈ vs
                    · rw [decide_eq_true hm] at ci
                      have hvp := var_pos hm
                      have vp : (0 : Int) < (var vs (inN L i) : Int) := by omega
                      have vp2 : 0 < var vs (inN L i) := by omega
                      generalize var vs (inN L i) = vx at *
                      generalize inN L i = xn at *
                      clear hj hbA hml hmc hmv hBr hq1 hq2 hq3 hIN hVA hvz hvp hm START3
                      go_wp2_with fail
                      refine HIN.out.mono ?_
                      rintro e w5 ⟨a5, c5, rfl, h5, hb5⟩
                      obtain ⟨b2, o2, rfl, c2x⟩ := HIE.out w5 a5 h5
                      have HV5 := Lib.hid (HVA.out w5 hb5)
                      have HB5 : Hid (Below wC.heap.size wC w5) := HH.out.trans (hb5.mono HH.out.size)
                      have ci5 : w5.cell? ⟨ib, i, none⟩ = some (.bool true) := (hb5.cell (p := ⟨ib, i, none⟩) (Nat.lt_of_lt_of_le HIBL.out HH.out.size)).trans ci
                      clear h5 hb5
                      go_wp2_with fail
                      refine HV5.out.mono ?_
                      rintro e w' ⟨rfl, rfl⟩
                      go_wp2_with fail
                      go_roundw
                      case rel => exact ⟨i + 1, by go_num, by omega, HB5⟩
                      case measure => simp [RowKit.intOf]; omega
                    · rw [decide_eq_false hm] at ci
                      have hv0 := hvz.2 hm
                      rw [hv0] at HVA
                      generalize inN L i = xn at *
                      clear hj hbA hml hmc hmv hBr hq1 hq2 hq3 hIN hVA hvz hv0 hm START3
                      go_wp2_with fail
                      refine HIN.out.mono ?_
                      rintro e w5 ⟨a5, c5, rfl, h5, hb5⟩
                      obtain ⟨b2, o2, rfl, c2x⟩ := HIE.out w5 a5 h5
                      have HV5 := Lib.hid (HVA.out w5 hb5)
                      have HB5 : Hid (Below wC.heap.size wC w5) := HH.out.trans (hb5.mono HH.out.size)
                      have ci5 : w5.cell? ⟨ib, i, none⟩ = some (.bool false) := (hb5.cell (p := ⟨ib, i, none⟩) (Nat.lt_of_lt_of_le HIBL.out HH.out.size)).trans ci
                      clear h5 hb5
                      go_wp2_with fail
                      refine HV5.out.mono ?_
                      rintro e w' ⟨rfl, rfl⟩
                      go_wp2_with fail
                      go_roundw
                      case rel => exact ⟨i + 1, by go_num, by omega, HB5⟩
                      case measure => simp [RowKit.intOf]; omega
                · have mz : ¬ (i : Int) < (mn : Int) := by omega
                  rw [decide_eq_false hmi] at ci
                  have ci' : wr.cell? ⟨ib, i, none⟩ = some (.bool false) := ci
                  clear hj hbA ci START3
                  go_wp2_with fail
                  go_roundw
                  case rel => exact ⟨i + 1, by go_num, by omega, HH⟩
                  case measure => simp [RowKit.intOf]; omega
              · obtain rfl : i = N3 := by omega
                have hlz : ¬ (i : Int) < (i : Int) := by omega
                obtain ⟨N3, hNN⟩ : ∃ V, V = i := ⟨_, rfl⟩
                subst hNN
                have hbA : Below wA.heap.size wA wr := HBC.out.trans (HH.out.mono HBC.out.size)
                have START4 : Hid (wr.ownsRow wA.heap.size 4 1 (.slice (some ⟨vg, 0, none⟩) V vc) V ((valOf (mdl Mv mn) L vs).map Value.bool) ∧ Below wA.heap.size wA wr) := ⟨owns_of_heap HVC.out fun k hk => HH.out.block k (HVC.out.lt k hk).2, hbA⟩
                have hlcB := (HLC.out wr hbA).1
                clear HH START3 hbA hi hlt HVC
                obtain ⟨wD, hwD⟩ : ∃ w, w = wr := ⟨_, rfl⟩
                subst hwD
                go_wp2_with fail
                go_loopw [17] (fun iv wr => ∃ i : Nat, iv = .int .i64 (i : Int) ∧ i ≤ V ∧ Hid (wr.ownsRow wA.heap.size 4 1 (.slice (some ⟨vg, 0, none⟩) V vc) V ((valOf (mdl Mv mn) L vs).map Value.bool) ∧ Below wA.heap.size wA wr)) (fun iv _ => V - (RowKit.intOf iv).toNat)
                case atStart => exact ⟨0, rfl, Nat.zero_le _, START4⟩
                case round =>
                  obtain ⟨i, rfl, hi, HH⟩ := hrel
                  obtain ⟨hlc1, hlc2⟩ := HLC.out wr HH.out.2
                  by_cases hlt : i < V
                  · have hlz : (i : Int) < (V : Int) := by omega
                    have i0 : (0 : Int) ≤ (i : Int) := by omega
                    obtain ⟨x, hx⟩ : ∃ x, vs[i]? = some x := ⟨_, List.getElem?_eq_getElem (by have := HV.out; omega)⟩
                    have cx := hlc2 i x hx
                    have hBr := HBA.out.after HH.out.2
                    have hxl : x < L.length + 1 := hBr.lm.both.ok.own x (List.mem_of_getElem? hx)
                    have hL9 := HBI.out.2.2.2.2.2
                    have x9 : ((x : Nat) : Int) ≤ 1000 := by omega
                    have x0 : (0 : Int) ≤ ((x : Nat) : Int) := by omega
                    have hNO := Node_any hBr.lm.both.g hBr.lm.both.wf ((x : Nat) : Int) (by omega) (by omega)
                    rw [ndI_nat hxl, HG2.out] at hNO
                    have hvg := valOf_get (m := mdl Mv mn) (L := L) hx
                    have hiv : i < (valOf (mdl Mv mn) L vs).length := by rw [HVP.out.2]; exact hlt
                    have cv : ∀ w', Below wr.heap.size wr w' → w'.cell? ⟨vg, i, none⟩ = some (.bool (val (mdl Mv mn) L (2 * x))) ∧ w'.frozen? ⟨vg, i, none⟩ = false := fun w' hb => ⟨(hb.cell (p := ⟨vg, i, none⟩) (HH.out.1.lt vg rfl).2).trans (own_cell HH.out.1 (by rw [List.getElem?_map, hvg]; rfl)), (hb.frozen (p := ⟨vg, i, none⟩) (HH.out.1.lt vg rfl).2).trans (own_free HH.out.1 i)⟩
                    have HCV := Lib.hid cv
                    have hvA := (HH.out.1.lt vg rfl).1
                    have HST : Hid (∀ w2, Below wr.heap.size wr w2 → ∀ u, w2.ownsRow wA.heap.size 4 1 (.slice (some ⟨vg, 0, none⟩) V vc) V ((valOf (mdl Mv mn) L vs).map Value.bool) ∧
                        (w2.setCell ⟨vg, i, none⟩ (.bool u)).ownsRow wA.heap.size 4 1 (.slice (some ⟨vg, 0, none⟩) V vc) V (((valOf (mdl Mv mn) L vs).set i u).map Value.bool) ∧ Below wA.heap.size wA (w2.setCell ⟨vg, i, none⟩ (.bool u)) ∧
                        Hid (((w2.setCell ⟨vg, i, none⟩ (.bool u)).setCell ⟨vg, i, none⟩ (.bool (val (mdl Mv mn) L (2 * x)))).ownsRow wA.heap.size 4 1 (.slice (some ⟨vg, 0, none⟩) V vc) V ((valOf (mdl Mv mn) L vs).map Value.bool) ∧ Below wA.heap.size wA ((w2.setCell ⟨vg, i, none⟩ (.bool u)).setCell ⟨vg, i, none⟩ (.bool (val (mdl Mv mn) L (2 * x)))))) := fun w2 hb u => by
                      have o1 : w2.ownsRow wA.heap.size 4 1 (.slice (some ⟨vg, 0, none⟩) V vc) V ((valOf (mdl Mv mn) L vs).map Value.bool) := owns_of_heap HH.out.1 fun k hk => hb.block k (HH.out.1.lt k hk).2
                      have b2 : Below wA.heap.size wA w2 := HH.out.2.trans (hb.mono HH.out.2.size)
                      have o2 := own_set (i := i) (u := Value.bool u) o1
                      have b3 : Below wA.heap.size wA (w2.setCell ⟨vg, i, none⟩ (.bool u)) := b2.setCell hvA _
                      have o3 := own_set (i := i) (u := Value.bool (val (mdl Mv mn) L (2 * x))) o2
                      refine ⟨o1, by rw [List.map_set]; exact o2, b3, ?_, b3.setCell hvA _⟩
                      have e : (((valOf (mdl Mv mn) L vs).map Value.bool).set i (.bool u)).set i (.bool (val (mdl Mv mn) L (2 * x))) = (valOf (mdl Mv mn) L vs).map Value.bool := by
                        rw [List.set_set]
                        refine List.ext_getElem? fun q => ?_
                        by_cases hq : q = i
                        · subst hq
                          rw [List.getElem?_set_self (by rw [List.length_map]; exact hiv), List.getElem?_map, hvg]; rfl
                        · rw [List.getElem?_set_ne (Ne.symm hq)]
                      rw [e] at o3
                      exact o3
                    have HALL : Hid ((nd L x).isSome = true ∨ i = 0 → ∀ w2, Below wr.heap.size wr w2 → Calls Try.prog 17 #[u10, .slice (some ⟨vg, 0, none⟩) V vc] (w2.setCell ⟨vg, i, none⟩ (.bool (!val (mdl Mv mn) L (2 * x)))) fun e w' => e = .returned (.bool false) ∧ w2.setCell ⟨vg, i, none⟩ (.bool (!val (mdl Mv mn) L (2 * x))) = w') := fun hc w2 hb => by
                      obtain ⟨_, o2, b3, _⟩ := HST.out w2 hb (!val (mdl Mv mn) L (2 * x))
                      have hB3 := HBA.out.after b3
                      obtain ⟨hri, _, hln⟩ := bools_row o2
                      have hshort : ∀ c ∈ cs, c.length ≤ 9223372036854775807 := fun c hc => by have := HBI.out.2.1.short c hc; omega
                      have HAL := All_cls hB3.rc hB3.ec hshort (some ⟨vg, 0, none⟩) vc _ hri
                      rw [turned_fails hB3.lm.both.wf hB3.lm.both.ok (by have := HBI.out.2.2.1; show vs.length ≤ 100000; omega) HBI.out.2.1 hx hc, hln] at HAL
                      exact HAL
                    have HNO : Hid (Calls Try.prog 21 #[.pointer (some ⟨gh, 0, none⟩), .int .i64 ((x : Nat) : Int)] wr fun e w' => e = .returned (.tuple #[.int .i64 (lo (nd L x) : Int), .int .i64 (Gr.hi (nd L x) : Int), .bool (nd L x).isSome]) ∧ Below wr.heap.size wr w') := hNO
                    have HLR : Hid (∀ w2, Below wr.heap.size wr w2 → w2.cell? ⟨R.h, 1, none⟩ = some (.slice (some ⟨lg, 0, none⟩) V lc)) := fun w2 hb => (HLC.out w2 (HH.out.2.trans (hb.mono HH.out.2.size))).1
                    clear hBr hxl hL9 hNO hvg hiv cv hvA hlc2 HH START4 hx
                    generalize val (mdl Mv mn) L (2 * x) = v at *
                    generalize (lo (nd L x) : Int) = n1 at *
                    generalize (Gr.hi (nd L x) : Int) = n2 at *
                    by_cases hand : (nd L x).isSome = true
                    · rw [hand] at HNO
                      have HALL := Lib.hid (HALL.out (Or.inl hand))
                      cases v with
                      | false =>
                        go_wp2_with fail
                        refine HNO.out.mono ?_
                        rintro e w2 ⟨rfl, hb⟩
                        obtain ⟨cv1, cv2⟩ := HCV.out w2 hb
                        obtain ⟨_, _, _, HF⟩ := HST.out w2 hb true
                        have HA2 := Lib.hid (HALL.out w2 hb)
                        have lr2 := HLR.out w2 hb
                        clear hb
                        go_wp2_with fail
                        refine HA2.out.mono ?_
                        rintro e w' ⟨rfl, rfl⟩
                        go_wp2_with fail
                        go_roundw
                        case rel => exact ⟨i + 1, by go_num, by omega, HF⟩
                        case measure => simp [RowKit.intOf]; omega
                      | true =>
                        go_wp2_with fail
                        refine HNO.out.mono ?_
                        rintro e w2 ⟨rfl, hb⟩
                        obtain ⟨cv1, cv2⟩ := HCV.out w2 hb
                        obtain ⟨_, _, _, HF⟩ := HST.out w2 hb false
                        have HA2 := Lib.hid (HALL.out w2 hb)
                        have lr2 := HLR.out w2 hb
                        clear hb
                        go_wp2_with fail
                        refine HA2.out.mono ?_
                        rintro e w' ⟨rfl, rfl⟩
                        go_wp2_with fail
                        go_roundw
                        case rel => exact ⟨i + 1, by go_num, by omega, HF⟩
                        case measure => simp [RowKit.intOf]; omega
                    · have hand' : (nd L x).isSome = false := by simpa using hand
                      rw [hand'] at HNO
                      by_cases hi0 : i = 0
                      · have e0 : ((i : Int) == 0) = true := by simp [hi0]
                        have HALL := Lib.hid (HALL.out (Or.inr hi0))
                        clear hi0
                        cases v with
                        | false =>
                          go_wp2_with fail
                          refine HNO.out.mono ?_
                          rintro e w2 ⟨rfl, hb⟩
                          obtain ⟨cv1, cv2⟩ := HCV.out w2 hb
                          obtain ⟨_, _, _, HF⟩ := HST.out w2 hb true
                          have HA2 := Lib.hid (HALL.out w2 hb)
                          have lr2 := HLR.out w2 hb
                          clear hb
                          go_wp2_with fail
                          refine HA2.out.mono ?_
                          rintro e w' ⟨rfl, rfl⟩
                          go_wp2_with fail
                          go_roundw
                          case rel => exact ⟨i + 1, by go_num, by omega, HF⟩
                          case measure => simp [RowKit.intOf]; omega
                        | true =>
                          go_wp2_with fail
                          refine HNO.out.mono ?_
                          rintro e w2 ⟨rfl, hb⟩
                          obtain ⟨cv1, cv2⟩ := HCV.out w2 hb
                          obtain ⟨_, _, _, HF⟩ := HST.out w2 hb false
                          have HA2 := Lib.hid (HALL.out w2 hb)
                          have lr2 := HLR.out w2 hb
                          clear hb
                          go_wp2_with fail
                          refine HA2.out.mono ?_
                          rintro e w' ⟨rfl, rfl⟩
                          go_wp2_with fail
                          go_roundw
                          case rel => exact ⟨i + 1, by go_num, by omega, HF⟩
                          case measure => simp [RowKit.intOf]; omega
                      · have e0 : ((i : Int) == 0) = false := by simp; omega
                        clear hi0
                        cases v with
                        | false =>
                          go_wp2_with fail
                          refine HNO.out.mono ?_
                          rintro e w2 ⟨rfl, hb⟩
                          obtain ⟨cv1, cv2⟩ := HCV.out w2 hb
                          obtain ⟨_, _, _, HF⟩ := HST.out w2 hb true
                          have lr2 := HLR.out w2 hb
                          clear hb
                          go_wp2_with fail
                          go_roundw
                          case rel => exact ⟨i + 1, by go_num, by omega, HF⟩
                          case measure => simp [RowKit.intOf]; omega
                        | true =>
                          go_wp2_with fail
                          refine HNO.out.mono ?_
                          rintro e w2 ⟨rfl, hb⟩
                          obtain ⟨cv1, cv2⟩ := HCV.out w2 hb
                          obtain ⟨_, _, _, HF⟩ := HST.out w2 hb false
                          have lr2 := HLR.out w2 hb
                          clear hb
                          go_wp2_with fail
                          go_roundw
                          case rel => exact ⟨i + 1, by go_num, by omega, HF⟩
                          case measure => simp [RowKit.intOf]; omega
                  · obtain rfl : i = V := by omega
                    have hlz : ¬ (i : Int) < (i : Int) := by omega
                    have hIN := InputsX_any (HBA.out.after HH.out.2).lm.both.g (by have := HBI.out.2.2.2.2.2; omega)
                    rw [HG2.out, ← HN3.out] at hIN
                    have HIN := Lib.hid hIN
                    have HBF : Hid (∀ w', Below wr.heap.size wr w' → Below W.heap.size W w') := fun w' hb => HB1.out.trans (((HBA.out.after HH.out.2).lm.below.trans (hb.mono (HBA.out.after HH.out.2).lm.below.size)).mono HB1.out.size)
                    clear HH START4 hlc2 hIN
                    go_wp2_with fail
                    refine HIN.out.mono ?_
                    rintro e w5 ⟨a5, c5, rfl, h5, hb5⟩
                    have HB5 := Lib.hid (HBF.out w5 hb5)
                    clear h5 hb5
                    go_wp2_with fail
                    go_ret
                    exact ⟨rfl, HB5.out⟩
      · obtain ⟨j, rfl⟩ : ∃ j, k = j + 1 := ⟨k - 1, by omega⟩
        have hjm : (((j + 1 : Nat) : Int) - 1) = (j : Int) := by omega
        rw [hjm]
        obtain ⟨M1, S, R1, rs, cs, hm1, hr1, hB, hCO, hnil, hfw⟩ := HH.out
        obtain ⟨a', c', ee, _, _, hEA⟩ := hB.re.argN
        rw [← HNE.out] at ee hEA
        simp only [Value.slice.injEq, true_and] at ee
        obtain ⟨rfl, rfl⟩ := ee
        obtain ⟨b, off, rfl, hb, hc⟩ := hEA.resolve_left (by omega)
        have cx : wr.cell? ⟨b, off + j, none⟩ = some (.int .i64 ((es.getD j 0 : Nat) : Int)) := hc j (by omega)
        have he := HG.out.2.2.2 j (by have := HNE.out; omega)
        have hL9 := HG.out.2.2.1
        have hW := hB.lm.both.wf
        obtain ⟨S', hS'⟩ := Need.total hW (es.getD j 0 / 2) S
        obtain ⟨Y, hY, hYD⟩ := hS'.move
        have hT := hYD (cs ++ S.cs)
        rw [List.append_assoc, ← hY] at hT
        have hO' := hS'.ok hW hB.lm.both.ok (by omega)
        have hlv := hO'.len
        have hfw' : (cs ++ S'.cs).length ≤ 3 * S'.vs.length := hT.few hfw
        have hCO' : ClsOf L S'.vs (cs ++ S'.cs) := hT.clsOf hW (by omega) hB.lm.both.ok hCO
        have hdr : Below wr.heap.size wr wr.drew := ⟨rfl, rfl, rfl, Nat.le_refl _, fun _ _ => rfl⟩
        have hBd := hB.after hdr
        have hcell : ∀ w' M', RowI w1 w' G M' (.slice (some ⟨b, off, none⟩) n ec) (toI es) → w'.cell? ⟨b, off + j, none⟩ = some (.int .i64 ((es.getD j 0 : Nat) : Int)) := fun w' M' hr => by
          obtain ⟨a', c', ee, _, _, k5⟩ := hr.argN
          rw [← HNE.out] at ee k5
          simp only [Value.slice.injEq, true_and] at ee
          obtain ⟨rfl, rfl⟩ := ee
          obtain ⟨b', off', e1, _, k6⟩ := k5.resolve_left (by omega)
          simp only [Option.some.injEq, Addr.mk.injEq, and_true] at e1
          obtain ⟨rfl, rfl⟩ := e1
          exact k6 j (by omega)
        have HE5 := Lit_own hBd.lm.both _ he (by omega) hBd.lm.few hS'
        rw [hm1] at HE5
        have HE5 := Lib.hid HE5
        have hlit0 : lit S'.vs 0 = 1 := by
          show (var S'.vs 0 : Int) = 1
          rw [var_at hO'.nodup hO'.head]; rfl
        have HS5 : Hid (∀ w5 M5, Both w5 G L M5 S' → MFr M1 wr.drew w5 M5 → True ∧ Calls Try.prog 12 #[.pointer (some ⟨R.h, 0, none⟩), .int .i64 ((es.getD j 0 : Nat) : Int)] w5 (RLE w5 r gv L R1 ⟨S'.vs, cs ++ S'.cs⟩ (lit S'.vs (es.getD j 0))) ∧
            (∀ w6 R6, R6.h = R1.h → RM w6 r gv L R6 ⟨S'.vs, cs ++ S'.cs⟩ → XFr (R1.has r gv) w5 w6 (R6.has r gv) → True ∧ Calls Try.prog 11 #[.pointer (some ⟨M.h, 0, none⟩), .int .i64 (-5)] w6 (LitE w6 G L M5 S' 1) ∧
              (∀ w7 M7, Both w7 G L M7 S' → MFr M5 w6 w7 M7 → ∃ ta tc la lc,
                (True ∧ Calls Try.prog 14 #[.pointer (some ⟨M.h, 0, none⟩)] w7 (fun e w' => e = .returned (.slice ta S'.cs.length tc) ∧ w' = w7.setCell ⟨M.h, 2, none⟩ (.slice none 0 0)) ∧
                  (w7.setCell ⟨M.h, 2, none⟩ (.slice none 0 0)).ownsRow w1.heap.size 26 1 u10 rs.length rs ∧ (w7.setCell ⟨M.h, 2, none⟩ (.slice none 0 0)).ownsRow 0 26 1 (.slice ta S'.cs.length tc) S'.cs.length M7.rs ∧ (∀ y ∈ M7.rs, y.oneCell' = true) ∧ rs.length + S'.cs.length ≤ maxLen ∧ (rs.length + S'.cs.length) * 24 ≤ 140737488355328 ∧ w1.heap.size ≤ (w7.setCell ⟨M.h, 2, none⟩ (.slice none 0 0)).heap.size ∧
                  ∀ v' w', w'.ownsRow w1.heap.size 26 1 v' (rs.length + S'.cs.length) (rs ++ M7.rs) → (w7.setCell ⟨M.h, 2, none⟩ (.slice none 0 0)).grownBy w' u10.ownBlock → (∀ k, v'.ownBlock = some k → u10.ownBlock = some k ∨ (w7.setCell ⟨M.h, 2, none⟩ (.slice none 0 0)).heap.size ≤ k) → Hid (BldI w1 G L M.h R.h r gv n (.slice (some ⟨b, off, none⟩) n ec) es j v' w')) ∧
                Calls Try.prog 13 #[.pointer (some ⟨M.h, 0, none⟩)] w7 (fun e w' => e = .returned (.int .i64 (S'.vs.length : Int)) ∧ w7 = w') ∧ w7.cell? ⟨R.h, 1, none⟩ = some (.slice la S'.vs.length lc) ∧ w7.cell? ⟨b, off + j, none⟩ = some (.int .i64 ((es.getD j 0 : Nat) : Int))) ∧ True ∧ w6.cell? ⟨b, off + j, none⟩ = some (.int .i64 ((es.getD j 0 : Nat) : Int))) ∧ w5.cell? ⟨b, off + j, none⟩ = some (.int .i64 ((es.getD j 0 : Nat) : Int))) := by
          intro w5 M5 s1 s2
          have b5 := hBd.mk' s1 s2 (hS'.few hB.lm.few)
          have g5 : M5.h = M.h := s2.h.trans hm1
          refine ⟨trivial, ?_, fun w6 R6 q0 q1 q2 => ?_, hcell w5 M5 b5.re⟩
          · have := RLit_any b5.rm hB.lm.both.ok hW (by omega) _ he (by show (cs ++ S'.cs).length ≤ 10000; omega) hT
            rw [hr1] at this; exact this
          · have b6 := b5.rf q1 q2
            have g6 : R6.h = R.h := q0.trans hr1
            refine ⟨trivial, ?_, fun w7 M7 p1 p2 => ?_, trivial, hcell w6 M5 b6.re⟩
            · have := Lit_out b6.lm.both (-5) (by omega) (Or.inl (by omega)) (by omega) b6.lm.few
              rw [g5, hlit0] at this; exact this
            · have b7 := b6.mk' p1 p2 b6.lm.few
              have g7 : M7.h = M.h := p2.h.trans g5
              obtain ⟨ta, tc, etv, _⟩ := own_form b7.lm.both.m.rows
              obtain ⟨la, lc, elv, _⟩ := own_form b7.rm.vs
              have hT7 := Take_any b7.lm.both.m
              rw [g7, etv] at hT7
              have hV7 := Vars_any b7.lm.both.m
              rw [g7] at hV7
              have hc1 := b7.rm.c1
              rw [elv, g6] at hc1
              have b8 := b7.mk' b7.lm.take.both (takeFr _) (Nat.zero_le _)
              have hrc := b8.rc
              rw [g7] at hrc
              have hcslen : (cs ++ S'.cs).length = cs.length + S'.cs.length := List.length_append
              have hrl : rs.length = cs.length := b7.ec.1
              have hu : (w7.setCell ⟨M.h, 2, none⟩ (.slice none 0 0)).ownsRow 0 26 1 (.slice ta S'.cs.length tc) S'.cs.length M7.rs := by
                rw [← etv]
                exact owns_of_heap b7.lm.both.m.rows fun k hk => Below.heap_setCell _ _ _ _ (fun e => b7.lm.both.m.hc (by rw [hk, g7]; exact congrArg some e))
              refine ⟨ta, tc, la, lc, ⟨trivial, hT7, hrc, hu, fun y hy => ?_, by unfold maxLen; omega, by omega, by have := b7.lm.below.size; simpa [World.setCell] using this, fun v' w' o1 o2 o3 => ?_⟩, hV7, hc1, hcell w7 M7 b7.re⟩
              · obtain ⟨i, hi⟩ := List.getElem?_of_mem hy
                have hil := (List.getElem?_eq_some_iff.1 hi).1
                have hil2 : i < S'.cs.length := by rw [← b7.lm.both.m.each.1]; exact hil
                obtain ⟨g, rfl, _⟩ := b7.lm.both.m.each.2 i y _ hi (List.getElem?_eq_getElem hil2)
                rfl
              · have t := b7.tk (w2 := w7.setCell ⟨M.h, 2, none⟩ (.slice none 0 0)) (by rw [g7]) o1 o2 o3
                refine ⟨{ M7 with cv := .slice none 0 0, rs := [] }, ⟨S'.vs, []⟩, R6, rs ++ M7.rs, cs ++ S'.cs, g7, g6, by rw [List.append_nil]; exact t, by rw [List.append_nil]; exact hCO', fun _ => rfl, by rw [List.append_nil]; exact hfw'⟩
        have xx : (lit S'.vs (es.getD j 0) != lit S'.vs (es.getD j 0)) = false := by simp
        have vv : ((S'.vs.length : Int) != (S'.vs.length : Int)) = false := by simp
        have bd := lit_bd S'.vs (es.getD j 0)
        have V9 : (S'.vs.length : Int) ≤ 1000 := by omega
        have j0 : (0 : Int) ≤ (j : Int) := by omega
        have jn : (j : Int) < (n : Int) := by omega
        have jn2 : j < n := by omega
        obtain ⟨ji, ji0, jz0, jz1, jz2⟩ := info_parts infoRow
        obtain ⟨cl, hcl⟩ : ∃ cl, cl = rs.length := ⟨_, rfl⟩
        rw [← hcl] at HS5
        clear hm1 hr1 hB hCO hnil hfw hEA hb hc he hL9 hW hS' hY hYD hT hO' hlv hfw' hCO' hdr hBd hcell hlit0 hcl HH START hkp hk
        generalize lit S'.vs (es.getD j 0) = x at *
        generalize es.getD j 0 = e at *
        generalize S'.vs.length = V at *
        generalize S'.cs.length = yl at *
        have x1 : -1000 ≤ x := by omega
        have x2 : x ≤ 1000 := by omega
        clear bd
        go_wp2_with fail
        refine wp_region_H (S := fun w' => w'.cell? ⟨b, off + j, none⟩ = some (.int .i64 (e : Int))) 28 (by kernel_rfl) (cx) (fun hSx => ?_)
        refine wpAnyH_takeB (i := 0) (v := ?vb1) rfl (by kernel_rfl) (fun _ _ _ h => h) rfl ?b1 hSx ?_
        case b1 => (intro w' hSw; (try dsimp only at hSw); go_split_ands; go_simp; try with_reducible rfl)
        try simp only [Act.put, List.getElem_toArray, List.getElem_cons_zero, List.setIfInBounds_toArray, List.set_cons_zero, List.set_cons_succ]
        refine wpAnyH_takeB (i := 1) (v := ?vb2) rfl (by kernel_rfl) (fun _ _ _ h => h) rfl ?b2 hSx ?_
        case b2 => (intro w' hSw; (try dsimp only at hSw); go_split_ands; go_simp; try with_reducible rfl)
        try simp only [Act.put, List.getElem_toArray, List.getElem_cons_succ, List.getElem_cons_zero, List.setIfInBounds_toArray, List.set_cons_zero, List.set_cons_succ]
        refine wpAnyH_takeB (i := 2) (v := ?vb3) rfl (by kernel_rfl) (fun _ _ _ h => h) rfl ?b3 hSx ?_
        case b3 => (intro w' hSw; (try dsimp only at hSw); go_split_ands; go_simp; try with_reducible rfl)
        try simp only [Act.put, List.getElem_toArray, List.getElem_cons_succ, List.getElem_cons_zero, List.setIfInBounds_toArray, List.set_cons_zero, List.set_cons_succ]
        refine wpAnyH_takeB (i := 3) (v := ?vb4) rfl (by kernel_rfl) (fun _ _ _ h => h) rfl ?b4 hSx ?_
        case b4 => (intro w' hSw; (try dsimp only at hSw); go_split_ands; go_simp; try with_reducible rfl)
        try simp only [Act.put, List.getElem_toArray, List.getElem_cons_succ, List.getElem_cons_zero, List.setIfInBounds_toArray, List.set_cons_zero, List.set_cons_succ]
        refine wpAnyH_takeB (i := 4) (v := ?vb5) rfl (by kernel_rfl) (fun _ _ _ h => h) rfl ?b5 hSx ?_
        case b5 => (intro w' hSw; (try dsimp only at hSw); go_split_ands; go_simp; try with_reducible rfl)
        try simp only [Act.put, List.getElem_toArray, List.getElem_cons_succ, List.getElem_cons_zero, List.setIfInBounds_toArray, List.set_cons_zero, List.set_cons_succ]
        refine wpAnyH_takeB (i := 6) (v := ?vb6) rfl (by kernel_rfl) (fun _ _ _ h => h) rfl ?b6 hSx ?_
        case b6 => (intro w' hSw; (try dsimp only at hSw); go_split_ands; go_simp; try with_reducible rfl)
        try simp only [Act.put, List.getElem_toArray, List.getElem_cons_succ, List.getElem_cons_zero, List.setIfInBounds_toArray, List.set_cons_zero, List.set_cons_succ]
        refine wpAnyH_takeB (i := 7) (v := ?vb7) rfl (by kernel_rfl) (fun _ _ _ h => h) rfl ?b7 hSx ?_
        case b7 => (intro w' hSw; (try dsimp only at hSw); go_split_ands; go_simp; try with_reducible rfl)
        try simp only [Act.put, List.getElem_toArray, List.getElem_cons_succ, List.getElem_cons_zero, List.setIfInBounds_toArray, List.set_cons_zero, List.set_cons_succ]
        refine wpAnyH_takeB (i := 8) (v := ?vb8) rfl (by kernel_rfl) (fun _ _ _ h => h) rfl ?b8 hSx ?_
        case b8 => (intro w' hSw; (try dsimp only at hSw); go_split_ands; go_simp; try with_reducible rfl)
        try simp only [Act.put, List.getElem_toArray, List.getElem_cons_succ, List.getElem_cons_zero, List.setIfInBounds_toArray, List.set_cons_zero, List.set_cons_succ]
        refine wpAnyH_takeB (i := 9) (v := ?vb9) rfl (by kernel_rfl) (fun _ _ _ h => h) rfl ?b9 hSx ?_
        case b9 => (intro w' hSw; (try dsimp only at hSw); go_split_ands; go_simp; try with_reducible rfl)
        try simp only [Act.put, List.getElem_toArray, List.getElem_cons_succ, List.getElem_cons_zero, List.setIfInBounds_toArray, List.set_cons_zero, List.set_cons_succ]
        refine wpAnyH_takeB (i := 10) (v := ?vb10) rfl (by kernel_rfl) (fun _ _ _ h => h) rfl ?b10 hSx ?_
        case b10 => (intro w' hSw; (try dsimp only at hSw); go_split_ands; go_simp; try with_reducible rfl)
        try simp only [Act.put, List.getElem_toArray, List.getElem_cons_succ, List.getElem_cons_zero, List.setIfInBounds_toArray, List.set_cons_zero, List.set_cons_succ]
        refine' wpAnyH_oneG (i := 5) ?tab11 ?tbb11 ?tcb11 ?tdb11
        case tbb11 => rfl
        case tab11 => kernel_rfl
        case tcb11 => rfl
        intro K hK
        go_simp
        refine HE5.out.mono ?_
        rintro e5 w5 ⟨rfl, M5, s1, s2⟩
        have HB5 := Lib.hid (HS5.out w5 M5 s1 s2)
        clear s1 s2
        try dsimp only
        refine hK.out _ _ (HB5.out.2.2.2) (fun hSx => ?_)
        clear hK K
        try simp only [Act.put, List.getElem_toArray, List.getElem_cons_succ, List.getElem_cons_zero, List.setIfInBounds_toArray, List.set_cons_zero, List.set_cons_succ]
        refine' wpAnyH_oneG (i := 11) ?tab12 ?tbb12 ?tcb12 ?tdb12
        case tbb12 => rfl
        case tab12 => kernel_rfl
        case tcb12 => rfl
        intro K hK
        go_simp
        refine HB5.out.2.1.mono ?_
        rintro e6 w6 ⟨rfl, R6, s0, s1, s2⟩
        have HB6 := Lib.hid (HB5.out.2.2.1 w6 R6 s0 s1 s2)
        clear s0 s1 s2
        try dsimp only
        refine hK.out _ _ (HB6.out.2.2.2.2) (fun hSx => ?_)
        clear hK K
        try simp only [Act.put, List.getElem_toArray, List.getElem_cons_succ, List.getElem_cons_zero, List.setIfInBounds_toArray, List.set_cons_zero, List.set_cons_succ]
        refine wpAnyH_takeB (i := 12) (v := ?vb13) rfl (by kernel_rfl) (fun _ _ _ h => h) rfl ?b13 hSx ?_
        case b13 => (intro w' hSw; (try dsimp only at hSw); go_split_ands; go_simp; try with_reducible rfl)
        try simp only [Act.put, List.getElem_toArray, List.getElem_cons_succ, List.getElem_cons_zero, List.setIfInBounds_toArray, List.set_cons_zero, List.set_cons_succ]
        refine wpAnyH_takeB (i := 13) (v := ?vb14) rfl (by kernel_rfl) (fun _ _ _ h => h) rfl ?b14 hSx ?_
        case b14 => (intro w' hSw; (try dsimp only at hSw); go_split_ands; go_simp; try with_reducible rfl)
        try simp only [Act.put, List.getElem_toArray, List.getElem_cons_succ, List.getElem_cons_zero, List.setIfInBounds_toArray, List.set_cons_zero, List.set_cons_succ]
        refine wpAnyH_takeB (i := 14) (v := ?vb15) rfl (by kernel_rfl) (fun _ _ _ h => h) rfl ?b15 hSx ?_
        case b15 => (intro w' hSw; (try dsimp only at hSw); go_split_ands; go_simp; try with_reducible rfl)
        try simp only [Act.put, List.getElem_toArray, List.getElem_cons_succ, List.getElem_cons_zero, List.setIfInBounds_toArray, List.set_cons_zero, List.set_cons_succ]
        refine' wpAnyH_oneG (i := 15) ?tab16 ?tbb16 ?tcb16 ?tdb16
        case tbb16 => rfl
        case tab16 => kernel_rfl
        case tcb16 => rfl
        intro K hK
        go_simp
        refine HB6.out.2.1.mono ?_
        rintro e7 w7 ⟨rfl, M7, s1, s2⟩
        obtain ⟨ta, tc, la, lc, h7⟩ := HB6.out.2.2.1 w7 M7 s1 s2
        have HB7 := Lib.hid h7
        have hr7 := h7.2.2.1
        clear s1 s2 h7
        try dsimp only
        refine hK.out _ _ (HB7.out.2.2.2) (fun hSx => ?_)
        clear hK K
        try simp only [Act.put, List.getElem_toArray, List.getElem_cons_succ, List.getElem_cons_zero, List.setIfInBounds_toArray, List.set_cons_zero, List.set_cons_succ]
        refine wpAnyH_takeB (i := 16) (v := ?vb17) rfl (by kernel_rfl) (fun _ _ _ h => h) rfl ?b17 hSx ?_
        case b17 => (intro w' hSw; (try dsimp only at hSw); go_split_ands; go_simp; try with_reducible rfl)
        try simp only [Act.put, List.getElem_toArray, List.getElem_cons_succ, List.getElem_cons_zero, List.setIfInBounds_toArray, List.set_cons_zero, List.set_cons_succ]
        refine wpAnyH_takeB (i := 17) (v := ?vb18) rfl (by kernel_rfl) (fun _ _ _ h => h) rfl ?b18 hSx ?_
        case b18 => (intro w' hSw; (try dsimp only at hSw); go_split_ands; go_simp; try with_reducible rfl)
        try simp only [Act.put, List.getElem_toArray, List.getElem_cons_succ, List.getElem_cons_zero, List.setIfInBounds_toArray, List.set_cons_zero, List.set_cons_succ]
        refine wpAnyH_takeB (i := 18) (v := ?vb19) rfl (by kernel_rfl) (fun _ _ _ h => h) rfl ?b19 hSx ?_
        case b19 => (intro w' hSw; (try dsimp only at hSw); go_split_ands; go_simp; try with_reducible rfl)
        try simp only [Act.put, List.getElem_toArray, List.getElem_cons_succ, List.getElem_cons_zero, List.setIfInBounds_toArray, List.set_cons_zero, List.set_cons_succ]
        refine wpAnyH_takeB (i := 19) (v := ?vb20) rfl (by kernel_rfl) (fun _ _ _ h => h) rfl ?b20 hSx ?_
        case b20 => (intro w' hSw; (try dsimp only at hSw); go_split_ands; go_simp; try with_reducible rfl)
        try simp only [Act.put, List.getElem_toArray, List.getElem_cons_succ, List.getElem_cons_zero, List.setIfInBounds_toArray, List.set_cons_zero, List.set_cons_succ]
        refine wpAnyH_takeB (i := 21) (v := ?vb21) rfl (by kernel_rfl) (fun _ _ _ h => h) rfl ?b21 hSx ?_
        case b21 => (intro w' hSw; (try dsimp only at hSw); go_split_ands; go_simp; try with_reducible rfl)
        try simp only [Act.put, List.getElem_toArray, List.getElem_cons_succ, List.getElem_cons_zero, List.setIfInBounds_toArray, List.set_cons_zero, List.set_cons_succ]
        refine wpAnyH_takeB (i := 22) (v := ?vb22) rfl (by kernel_rfl) (fun _ _ _ h => h) rfl ?b22 hSx ?_
        case b22 => (intro w' hSw; (try dsimp only at hSw); go_split_ands; go_simp; try with_reducible rfl)
        try simp only [Act.put, List.getElem_toArray, List.getElem_cons_succ, List.getElem_cons_zero, List.setIfInBounds_toArray, List.set_cons_zero, List.set_cons_succ]
        refine wpAnyH_takeB (i := 23) (v := ?vb23) rfl (by kernel_rfl) (fun _ _ _ h => h) rfl ?b23 hSx ?_
        case b23 => (intro w' hSw; (try dsimp only at hSw); go_split_ands; go_simp; try with_reducible rfl)
        try simp only [Act.put, List.getElem_toArray, List.getElem_cons_succ, List.getElem_cons_zero, List.setIfInBounds_toArray, List.set_cons_zero, List.set_cons_succ]
        refine' wpAnyH_twoG (i := 20) (j := 24) ?tab24 ?tbb24 ?tb2b24 ?tcb24 ?tc2b24 ?tdb24 ?teb24
        case tbb24 => rfl
        case tb2b24 => rfl
        case tab24 => kernel_rfl
        case tcb24 => rfl
        case tc2b24 => rfl
        case tdb24 =>
          intro K hK
          go_simp
          refine HB7.out.2.1.mono ?_
          rintro e8 w8 ⟨rfl, rfl⟩
          try dsimp only
          refine hK.out _ _ (HB7.out.2.2.2) (fun hSx => ?_)
          clear hK K
          try simp only [Act.put, List.getElem_toArray, List.getElem_cons_succ, List.getElem_cons_zero, List.setIfInBounds_toArray, List.set_cons_zero, List.set_cons_succ]
          refine' wpAnyH_oneG (i := 24) ?tab25 ?tbb25 ?tcb25 ?tdb25
          case tbb25 => rfl
          case tab25 => kernel_rfl
          case tcb25 => rfl
          intro K hK
          go_simp
          try dsimp only
          refine hK.out _ _ (HB7.out.2.2.2) (fun hSx => ?_)
          clear hK K
          try simp only [Act.put, List.getElem_toArray, List.getElem_cons_succ, List.getElem_cons_zero, List.setIfInBounds_toArray, List.set_cons_zero, List.set_cons_succ]
          refine wpAnyH_takeB (i := 25) (v := ?vb28) rfl (by kernel_rfl) (fun _ _ _ h => h) rfl ?b28 hSx ?_
          case b28 => (intro w' hSw; (try dsimp only at hSw); go_split_ands; go_simp; try with_reducible rfl)
          try simp only [Act.put, List.getElem_toArray, List.getElem_cons_succ, List.getElem_cons_zero, List.setIfInBounds_toArray, List.set_cons_zero, List.set_cons_succ]
          refine wpAnyH_takeB (i := 26) (v := ?vb29) rfl (by kernel_rfl) (fun _ _ _ h => h) rfl ?b29 hSx ?_
          case b29 => (intro w' hSw; (try dsimp only at hSw); go_split_ands; go_simp; try with_reducible rfl)
          try simp only [Act.put, List.getElem_toArray, List.getElem_cons_succ, List.getElem_cons_zero, List.setIfInBounds_toArray, List.set_cons_zero, List.set_cons_succ]
          refine wpAnyH_takeB (i := 27) (v := ?vb30) rfl (by kernel_rfl) (fun _ _ _ h => h) rfl ?b30 hSx ?_
          case b30 => (intro w' hSw; (try dsimp only at hSw); go_split_ands; go_simp; try with_reducible rfl)
          try simp only [Act.put, List.getElem_toArray, List.getElem_cons_succ, List.getElem_cons_zero, List.setIfInBounds_toArray, List.set_cons_zero, List.set_cons_succ]
          refine wpAnyH_done (by kernel_rfl) ?_ _
          go_wp2_with fail
          refine HB7.out.1.2.1.mono ?_
          rintro e9 w9 ⟨rfl, rfl⟩
          go_wp2_with (at_builtin; refine wpList_append_rows rfl _ _ 35 rfl w1.heap.size 26 ji (.slice none 0 0) 24 Try.underlying35 ji0 jz0 jz1 jz2 rfl _ cl rs rfl HB7.out.1.2.2.1 0 _ yl _ rfl HB7.out.1.2.2.2.1 HB7.out.1.2.2.2.2.1 HB7.out.1.2.2.2.2.2.1 HB7.out.1.2.2.2.2.2.2.1 HB7.out.1.2.2.2.2.2.2.2.1 ?_; intro v' w' hown hgrow hat)
          have HF := HB7.out.1.2.2.2.2.2.2.2.2 v' w' hown hgrow hat
          clear hown hgrow hat
          go_roundw
          case rel => exact ⟨j, rfl, by omega, HF⟩
          case measure => simp [RowKit.intOf]
        case teb24 =>
          intro K hK
          go_simp
          try dsimp only
          refine hK.out _ _ (HB7.out.2.2.2) (fun hSx => ?_)
          clear hK K
          try simp only [Act.put, List.getElem_toArray, List.getElem_cons_succ, List.getElem_cons_zero, List.setIfInBounds_toArray, List.set_cons_zero, List.set_cons_succ]
          refine wpAnyH_takeB (i := 25) (v := ?vb26) rfl (by kernel_rfl) (fun _ _ _ h => h) rfl ?b26 hSx ?_
          case b26 => (intro w' hSw; (try dsimp only at hSw); go_split_ands; go_simp; try with_reducible rfl)
          try simp only [Act.put, List.getElem_toArray, List.getElem_cons_succ, List.getElem_cons_zero, List.setIfInBounds_toArray, List.set_cons_zero, List.set_cons_succ]
          refine' wpAnyH_oneG (i := 20) ?tab27 ?tbb27 ?tcb27 ?tdb27
          case tbb27 => rfl
          case tab27 => kernel_rfl
          case tcb27 => rfl
          intro K hK
          go_simp
          refine HB7.out.2.1.mono ?_
          rintro e8 w8 ⟨rfl, rfl⟩
          try dsimp only
          refine hK.out _ _ (HB7.out.2.2.2) (fun hSx => ?_)
          clear hK K
          try simp only [Act.put, List.getElem_toArray, List.getElem_cons_succ, List.getElem_cons_zero, List.setIfInBounds_toArray, List.set_cons_zero, List.set_cons_succ]
          refine wpAnyH_takeB (i := 26) (v := ?vb31) rfl (by kernel_rfl) (fun _ _ _ h => h) rfl ?b31 hSx ?_
          case b31 => (intro w' hSw; (try dsimp only at hSw); go_split_ands; go_simp; try with_reducible rfl)
          try simp only [Act.put, List.getElem_toArray, List.getElem_cons_succ, List.getElem_cons_zero, List.setIfInBounds_toArray, List.set_cons_zero, List.set_cons_succ]
          refine wpAnyH_takeB (i := 27) (v := ?vb32) rfl (by kernel_rfl) (fun _ _ _ h => h) rfl ?b32 hSx ?_
          case b32 => (intro w' hSw; (try dsimp only at hSw); go_split_ands; go_simp; try with_reducible rfl)
          try simp only [Act.put, List.getElem_toArray, List.getElem_cons_succ, List.getElem_cons_zero, List.setIfInBounds_toArray, List.set_cons_zero, List.set_cons_succ]
          refine wpAnyH_done (by kernel_rfl) ?_ _
          go_wp2_with fail
          refine HB7.out.1.2.1.mono ?_
          rintro e9 w9 ⟨rfl, rfl⟩
          go_wp2_with (at_builtin; refine wpList_append_rows rfl _ _ 35 rfl w1.heap.size 26 ji (.slice none 0 0) 24 Try.underlying35 ji0 jz0 jz1 jz2 rfl _ cl rs rfl HB7.out.1.2.2.1 0 _ yl _ rfl HB7.out.1.2.2.2.1 HB7.out.1.2.2.2.2.1 HB7.out.1.2.2.2.2.2.1 HB7.out.1.2.2.2.2.2.2.1 HB7.out.1.2.2.2.2.2.2.2.1 ?_; intro v' w' hown hgrow hat)
          have HF := HB7.out.1.2.2.2.2.2.2.2.2 v' w' hown hgrow hat
          clear hown hgrow hat
          go_roundw
          case rel => exact ⟨j, rfl, by omega, HF⟩
          case measure => simp [RowKit.intOf]
