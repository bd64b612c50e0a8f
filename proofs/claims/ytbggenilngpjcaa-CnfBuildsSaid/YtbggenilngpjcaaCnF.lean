/- The laws' own calls: at, made. -/
import Derived.Test.YtbggenilngpjcaaCnE
namespace Go.Proofs.Ytbggenilngpjcaa.Cn
open Go Go.RowKit Go.Lib Go.Maps Go.Proofs.Ytbggenilngpjcaa.Gr

set_option maxHeartbeats 1000000 in
theorem at_any (w : World) (a : Option Addr) (m c : Nat) (E : Nat → Nat) (ha : ArgI w a m (fun j => (E j : Int))) (hm : 0 < m) (hm2 : m ≤ 1000) (hE : ∀ j, j < m → E j < 1000000) (x : Int) (hk : x ≤ 9223372036854775807) :
    Calls Try.prog 24 #[.slice a m c, .int .i64 x] w fun e w' => e = .returned (.int .i64 (edgeF E m (nat0 x) : Int)) ∧ w = w' := by
  obtain ⟨b, off, rfl, hb, hc⟩ := ha.resolve_left (by omega)
  have mx := nat0_eq x
  have kx := nat0_le hk
  generalize nat0 x = k at *
  obtain ⟨q, hq⟩ : ∃ q, q = k / 2 := ⟨_, rfl⟩
  obtain ⟨s, hs⟩ : ∃ s, s = q % m := ⟨_, rfl⟩
  have hsm : s < m := by rw [hs]; exact Nat.mod_lt _ hm
  have hd : (k : Int).tdiv 2 = (q : Int) := by rw [Int.tdiv_eq_ediv_of_nonneg (by omega), hq]; omega
  have hr : (q : Int).tmod (m : Int) = (s : Int) := by rw [Int.tmod_eq_emod_of_nonneg (by omega), hs]; exact (Int.natCast_emod q m).symm
  have hm3 : (k : Int).tmod 2 = ((k % 2 : Nat) : Int) := by rw [Int.tmod_eq_emod_of_nonneg (by omega)]; omega
  have ck : w.cell? ⟨b, off + s, none⟩ = some (.int .i64 (E s : Int)) := hc s hsm
  have HN := Lib.hid (Not_any (E s) w (hE s hsm))
  have q9 : (q : Int) ≤ 9223372036854775807 := by omega
  have q0 : (0 : Int) ≤ (q : Int) := by omega
  have s0 : (0 : Int) ≤ (s : Int) := by omega
  have s1 : (s : Int) < (m : Int) := by omega
  have m0 : ¬ (m : Int) = 0 := by omega
  have m9 : (m : Int) ≤ 1000 := by omega
  have k0 : ¬ (k : Int) < 0 := by omega
  have HE : Hid (edgeF E m k = if k % 2 = 1 then neg (E s) else E s) := by rw [Hid, hs, hq]; rfl
  rcases Nat.mod_two_eq_zero_or_one k with h | h
  · rw [h] at hm3
    have HE2 : Hid (edgeF E m k = E s) := by rw [Hid, HE.out, if_neg (by omega)]
    generalize E s = y at *
    clear hq hs hsm hc hb hE h HE hm hm2
    go_enter Try.func24, Try.ntmps24
    go_wp2
    go_ret
    rw [HE2.out]
    exact ⟨rfl, rfl⟩
  · rw [h] at hm3
    have HE2 : Hid (edgeF E m k = neg (E s)) := by rw [Hid, HE.out, if_pos h]
    generalize E s = y at *
    clear hq hs hsm hc hb hE h HE hm hm2
    go_enter Try.func24, Try.ntmps24
    go_wp2_with fail
    refine HN.out.mono ?_
    rintro e w' ⟨rfl, rfl⟩
    go_wp2_with fail
    go_ret
    rw [HE2.out]
    exact ⟨rfl, rfl⟩

/-- Where made stands: a list of edges of the graph. -/
def MadeI (W : World) (h i : Nat) (v : Value) (w : World) : Prop :=
  ∃ (G : Gr.Loc) (L : List Nd) (es : List Nat), G.h = h ∧ Law W w G L ∧ EsS W w G v es ∧ es.length = i + 4 ∧ L.length ≤ 3 + 3 * i ∧ ∀ j, j < es.length → es.getD j 0 < 2 * (L.length + 1)
/-- What made answers. -/
def MadeE (W : World) (m : Nat) (e : Ending) (w : World) : Prop :=
  ∃ (h : Nat) (v : Value), e = .returned (.tuple #[.pointer (some ⟨h, 0, none⟩), v]) ∧ MadeI W h m v w

theorem MadeI.step {W w w1 : World} {G1 : Gr.Loc} {L L2 : List Nd} {es : List Nat} {h i e n g cap : Nat} {v : Value} (hL : Law W w G1 L2) (hE : EsS W w G1 v es) (hg : G1.h = h) (hes : es.length = i + 4) (hLl : L2.length ≤ 3 + 3 * (i + 1)) (hle : L.length ≤ L2.length) (hown : ∀ j, j < es.length → es.getD j 0 < 2 * (L.length + 1)) (he : e < 2 * (L2.length + 1)) (hn : n = es.length) (o : Obj)
    (hgrow : (w.alloc o).grownBy w1 v.ownBlock) (hat : v.ownBlock = some g ∨ g = w.heap.size + 1)
    (hw : w1.ownsRow W.heap.size 3 1 (.slice (some ⟨g, 0, none⟩) (n + 1) cap) (n + 1) (es.map encN ++ [.int .i64 (e : Int)])) : MadeI W h (i + 1) (.slice (some ⟨g, 0, none⟩) (n + 1) cap) w1 := by
  subst hn
  obtain ⟨G2, g2, q1, q2⟩ := hE.push hL o hgrow hat hw
  refine ⟨G2, L2, es ++ [e], g2.trans hg, q1, q2, by rw [List.length_append, hes]; rfl, hLl, fun j hj => ?_⟩
  rw [getD_snoc]
  split
  · rename_i q; have := hown j q; omega
  · split <;> omega

set_option maxRecDepth 100000 in
set_option maxHeartbeats 8000000 in
theorem made_any' (a : Option Addr) (m c : Nat) (K : Nat → ActV) (W : World) (hp : ArgA W a m K) (hP : ∀ j, j < m → (K j).a ≤ 9223372036854775807 ∧ (K j).b ≤ 9223372036854775807) (hm30 : m ≤ 25) :
    Calls Try.prog 7 #[.slice a m c] W (MadeE W m) := by
  have HA := Lib.hid (And.intro hp hP)
  have HN := Lib.hid (New_any W)
  clear hp hP
  go_enter Try.func7, Try.ntmps7
  go_wp2_with fail
  refine HN.out.mono ?_
  rintro e w2 ⟨G, rfl, r1, r2, r3⟩
  have HL : Hid (Law W w2 G []) := ⟨r1, Wf.nil, r2, r3⟩
  have HI := Lib.hid (Input_any r1 (by decide))
  clear r1 r2 r3 HN
  go_wp2_with fail
  refine HI.out.mono ?_
  intro e w3 hop
  obtain ⟨rfl, G2, g2, s1, s2⟩ := hop.thenE
  have HL2 : Hid (Law W w3 G2 [none]) := HL.out.op s1 s2 Wf.nil.input
  have HI2 : Hid (Calls Try.prog 26 #[.pointer (some ⟨G.h, 0, none⟩)] w3 (OpE w3 G2 (4, [none, none]))) := by rw [← g2]; exact Input_any s1 (by decide)
  clear s1 s2 hop HI HL
  go_wp2_with fail
  refine HI2.out.mono ?_
  intro e w4 hop
  obtain ⟨rfl, G3, g3, s1, s2⟩ := hop.thenE
  have HL3 : Hid (Law W w4 G3 [none, none]) := HL2.out.op s1 s2 HL2.out.wf.input
  have HI3 : Hid (Calls Try.prog 26 #[.pointer (some ⟨G.h, 0, none⟩)] w4 (OpE w4 G3 (6, [none, none, none]))) := by rw [← g2, ← g3]; exact Input_any s1 (by decide)
  clear s1 s2 hop HI2 HL2
  go_wp2_with fail
  refine HI3.out.mono ?_
  intro e w5 hop
  obtain ⟨rfl, G4, g4, s1, s2⟩ := hop.thenE
  have HL4 : Hid (Law W w5 G4 [none, none, none]) := HL3.out.op s1 s2 HL3.out.wf.input
  have HG : Hid (G4.h = G.h) := by rw [Hid, g4, g3, g2]
  clear s1 s2 hop HI3 HL3 g2 g3 g4
  have START : Hid (MadeI W G.h 0 (.slice (some ⟨w5.heap.size, 0, none⟩) 4 4) (w5.alloc (.cells #[.int .i64 0, .int .i64 2, .int .i64 4, .int .i64 6] 3))) := by
    refine ⟨G4, [none, none, none], [0, 2, 4, 6], HG.out, HL4.out.after ((Below.refl _ _).alloc (Nat.le_refl _) _), ⟨⟨rfl, Or.inr ⟨w5.heap.size, 4, _, rfl, HL4.out.below.size, heap_alloc_new w5 _, Nat.le_refl _, by decide, rfl, rfl⟩⟩, fun k hk q => ?_⟩, rfl, by decide, fun j hj => ?_⟩
    · have : w5.heap.size = k := by simpa [Value.ownBlock] using hk
      have := HL4.out.rep.lt _ q
      omega
    · have hj4 : j < 4 := hj
      match j, hj4 with | 0, _ => decide | 1, _ => decide | 2, _ => decide | 3, _ => decide
  clear HL4 HG
  go_wp2_with fail
  go_loopw [5, 6] (fun ev iv wr => ∃ i : Nat, iv = .int .i64 (i : Int) ∧ i ≤ m ∧ Hid (MadeI W G.h i ev wr)) (fun _ iv _ => m - (intOf iv).toNat)
  case atStart => exact ⟨0, rfl, Nat.zero_le _, START⟩
  case round =>
    obtain ⟨i, rfl, hi, HH⟩ := hrel
    by_cases hlt : i < m
    · obtain ⟨G1, L, es, hg1, hL1, hE1, hesl, hLl, hown⟩ := HH.out
      obtain ⟨b, off, rfl, hb, hc⟩ := (HA.out.1).resolve_left (by omega)
      have hiz : (i : Int) < (m : Int) := by omega
      have i0 : (0 : Int) ≤ (i : Int) := by omega
      have hck : ∀ j v, W.cell? ⟨b, j, none⟩ = some v → wr.cell? ⟨b, j, none⟩ = some v := fun j v h => (hL1.below.cell (p := ⟨b, j, none⟩) hb).trans h
      have hxk : wr.cell? ⟨b, off + i * 4, none⟩ = some (.int .i64 (K i).k) := hck _ _ (hc i hlt).1
      have hxa : wr.cell? ⟨b, off + i * 4 + 1, none⟩ = some (.int .i64 (K i).a) := hck _ _ (hc i hlt).2.1
      have hxb : wr.cell? ⟨b, off + i * 4 + 2, none⟩ = some (.int .i64 (K i).b) := hck _ _ (hc i hlt).2.2.1
      obtain ⟨ea, ec, rfl, hec, _, hEA⟩ := hE1.arg
      have HED : Hid (∀ q x, x ≤ 9223372036854775807 → Calls Try.prog 24 #[.slice ea es.length ec, .int .i64 x] (wr.drewN q) fun e w' => e = .returned (.int .i64 (edgeF (fun j => es.getD j 0) es.length (nat0 x) : Int)) ∧ wr.drewN q = w') := fun q x hx => at_any (wr.drewN q) ea es.length ec (fun j => es.getD j 0) (hEA.below ⟨rfl, rfl, rfl, Nat.le_refl _, fun _ _ => rfl⟩) (by omega) (by omega) (fun j hj => by have := hown j hj; omega) x hx
      have HE1 := Lib.hid (fun q => HED.out q (K i).a (HA.out.2 i hlt).1)
      have HE2 := Lib.hid (fun q => HED.out q (K i).b (HA.out.2 i hlt).2)
      have ho1 : edgeF (fun j => es.getD j 0) es.length (nat0 (K i).a) < 2 * (L.length + 1) := edgeF_lt (by omega) hown
      have ho2 : edgeF (fun j => es.getD j 0) es.length (nat0 (K i).b) < 2 * (L.length + 1) := edgeF_lt (by omega) hown
      have HLW : Hid (∀ q, Law W (wr.drewN q) G1 L ∧ EsS W (wr.drewN q) G1 (.slice ea es.length ec) es) := fun q =>
        have hq : Below wr.heap.size wr (wr.drewN q) := ⟨rfl, rfl, rfl, Nat.le_refl _, fun _ _ => rfl⟩
        ⟨hL1.after hq, hE1.after hq⟩
      have HCK : Hid (∀ q, (wr.drewN q).cell? ⟨b, off + i * 4, none⟩ = some (.int .i64 (K i).k)) := fun q => hxk
      have HES : Hid (G1.h = G.h ∧ es.length = i + 4 ∧ L.length ≤ 3 + 3 * i ∧ ∀ j, j < es.length → es.getD j 0 < 2 * (L.length + 1)) := ⟨hg1, hesl, hLl, hown⟩
      have HLL : Hid (L.length ≤ 100 ∧ es.length ≤ 100) := ⟨by omega, by omega⟩
      obtain ⟨ii, hi, hz0, hz1, hz2⟩ := info_parts Cn.infoInt
      obtain ⟨n, hn⟩ : ∃ n, n = es.length := ⟨_, rfl⟩
      have HN0 := Lib.hid hn
      have hn100 : n ≤ 100 := by rw [hn]; exact HLL.out.2
      rw [← hn] at HLW HE1 HE2 ho1 ho2
      rw [← hn]
      generalize edgeF (fun j => es.getD j 0) n (nat0 (K i).a) = x at *
      generalize edgeF (fun j => es.getD j 0) n (nat0 (K i).b) = y at *
      have HOW := Lib.hid (And.intro ho1 ho2)
      clear HH hL1 hE1 hesl hLl hown hb hc hck hec hEA ho1 ho2 HED hg1 hn START
      generalize (K i).a = za at *
      generalize (K i).b = zb at *
      generalize (K i).k = kk at *
      go_wp2_with fail
      go_quiet (first | (go_at_call_of 24 (Value.int .i64 za); exact quiet_same (HE1.out _)) | (go_at_call_of 24 (Value.int .i64 zb); exact quiet_same (HE2.out _)))
      have hxk2 := HCK.out nq
      obtain ⟨hL2, hE2⟩ := HLW.out nq
      clear HLW HE1 HE2 hxk hxa hxb HCK
      generalize wr.drewN nq = W2 at *
      have HOP : Hid (∀ (r : Nat × List Nd) f (w6 : World) (G6 : Gr.Loc), Ans L 3 r f → Rep w6 G6 r.2 → Fr G1 W2 w6 G6 → w6.ownsRow W.heap.size 3 1 (.slice ea n ec) n (es.map encN) ∧ W.heap.size ≤ (w6.alloc (.cells #[.int .i64 (r.1 : Int)] 3)).heap.size ∧ ∀ g cap w7, (w6.alloc (.cells #[.int .i64 (r.1 : Int)] 3)).grownBy w7 (Value.slice ea n ec).ownBlock → ((Value.slice ea n ec).ownBlock = some g ∨ g = w6.heap.size + 1) → w7.ownsRow W.heap.size 3 1 (.slice (some ⟨g, 0, none⟩) (n + 1) cap) (n + 1) (es.map encN ++ [.int .i64 (r.1 : Int)]) → Hid (MadeI W G.h (i + 1) (.slice (some ⟨g, 0, none⟩) (n + 1) cap) w7)) := fun r f w6 G6 hA hr hf => by
        have q1 := hL2.op hr hf hA.wf
        have q2 := hE2.op hf
        refine ⟨by have := q2.1; rw [← HN0.out] at this; exact this, by have := q1.below.size; simp; omega, fun g cap w7 p1 p2 p3 => ?_⟩
        exact MadeI.step (L := L) q1 q2 (hf.h.trans HES.out.1) HES.out.2.1 (by have := hA.lenle; have := HES.out.2.2.1; omega) hA.le HES.out.2.2.2 hA.own HN0.out _ p1 p2 p3
      have HL1' : Hid (n + 1 ≤ maxLen) := by show _ ≤ _; unfold maxLen; omega
      have HL2' : Hid ((n + 1) * 8 ≤ 140737488355328) := by show _ ≤ _; omega
      have HP : Hid (Rep W2 G1 L ∧ Wf L ∧ L.length < 130000 ∧ G1.h = G.h) := ⟨hL2.rep, hL2.wf, by have := HLL.out.1; omega, HES.out.1⟩
      clear hL2 hE2 HN0 hn100
      by_cases k0 : kk = 0
      · obtain ⟨p1, p2, p3, p4⟩ := HP.out
        have b0 : (kk == 0) = true := by simp [k0]
        have HC := Input_any p1 (by omega)
        rw [p4] at HC
        have HC := Lib.hid HC
        have HAns : Hid (∃ f, Ans L 3 (2 * (L.length + 1), L ++ [none]) f) := ⟨_, ⟨p2.input, ⟨[none], rfl, by simp⟩, by simp, fun m => rfl⟩⟩
        clear p1 p2 p3 p4
        go_wp2_with fail
        refine HC.out.mono ?_
        intro e w6 hop
        obtain ⟨rfl, G6, g6, s1, s2⟩ := hop.thenE
        obtain ⟨f, hA⟩ := HAns.out
        obtain ⟨o1, o2, o3⟩ := HOP.out _ f w6 G6 hA s1 s2
        have O1 := Lib.hid o1
        have O2 := Lib.hid o2
        have O3 := Lib.hid o3
        clear o1 o2 o3 s1 s2 hop hA HC HAns
        generalize 2 * (L.length + 1) = r at *
        go_wp2_with (at_builtin; refine wpList_append_lies _ rfl _ _ 26 rfl W.heap.size 3 ii _ 1 8 Try.underlying26 hi hz0 hz1 hz2 rfl (by decide) _ _ _ rfl (O1.out.alloc _) ⟨w6.heap.size, 0, none⟩ 1 1 [.int .i64 (r : Int)] rfl rfl (World.news_of_block (cs := #[.int .i64 (r : Int)]) (t := 3) (fr := (0, 0)) (heap_alloc_new w6 _)) (by simp [Value.oneCell']) (by decide) HL1'.out HL2'.out O2.out (w6.heap.size + 1) (by simp) ?_; intro g cap w7 hown hgrow hat hlt1)
        have HF := O3.out g cap w7 hgrow hat hown
        clear hown hgrow hat hlt1
        go_roundw
        case rel => exact ⟨i + 1, by go_num, by omega, HF⟩
        case measure => simp [intOf]; omega
      · have b0 : (kk == 0) = false := by simp [k0]
        by_cases k1 : kk = 1
        · obtain ⟨p1, p2, p3, p4⟩ := HP.out
          have b1 : (kk == 1) = true := by simp [k1]
          have HC := And_any p1 (x : Int) (y : Int) (by have := HOW.out; omega) (by have := HOW.out; omega) (by omega)
          rw [own_nat HOW.out.1, own_nat HOW.out.2, p4] at HC
          have HC := Lib.hid HC
          have HAns : Hid (∃ f, Ans L 3 (andE L x y) f) := ⟨_, (andE_ans p2 HOW.out.1 HOW.out.2).more (by omega)⟩
          clear p1 p2 p3 p4
          go_wp2_with fail
          refine HC.out.mono ?_
          intro e w6 hop
          obtain ⟨rfl, G6, g6, s1, s2⟩ := hop.thenE
          obtain ⟨f, hA⟩ := HAns.out
          obtain ⟨o1, o2, o3⟩ := HOP.out _ f w6 G6 hA s1 s2
          have O1 := Lib.hid o1
          have O2 := Lib.hid o2
          have O3 := Lib.hid o3
          clear o1 o2 o3 s1 s2 hop hA HC HAns
          generalize (andE L x y).1 = r at *
          go_wp2_with (at_builtin; refine wpList_append_lies _ rfl _ _ 26 rfl W.heap.size 3 ii _ 1 8 Try.underlying26 hi hz0 hz1 hz2 rfl (by decide) _ _ _ rfl (O1.out.alloc _) ⟨w6.heap.size, 0, none⟩ 1 1 [.int .i64 (r : Int)] rfl rfl (World.news_of_block (cs := #[.int .i64 (r : Int)]) (t := 3) (fr := (0, 0)) (heap_alloc_new w6 _)) (by simp [Value.oneCell']) (by decide) HL1'.out HL2'.out O2.out (w6.heap.size + 1) (by simp) ?_; intro g cap w7 hown hgrow hat hlt1)
          have HF := O3.out g cap w7 hgrow hat hown
          clear hown hgrow hat hlt1
          go_roundw
          case rel => exact ⟨i + 1, by go_num, by omega, HF⟩
          case measure => simp [intOf]; omega
        · have b1 : (kk == 1) = false := by simp [k1]
          by_cases k2 : kk = 2
          · obtain ⟨p1, p2, p3, p4⟩ := HP.out
            have b2 : (kk == 2) = true := by simp [k2]
            have HC := And_any p1 (x : Int) (y : Int) (by have := HOW.out; omega) (by have := HOW.out; omega) (by omega)
            rw [own_nat HOW.out.1, own_nat HOW.out.2, p4] at HC
            have HC := Lib.hid HC
            have HAns : Hid (∃ f, Ans L 3 (andE L x y) f) := ⟨_, (andE_ans p2 HOW.out.1 HOW.out.2).more (by omega)⟩
            clear p1 p2 p3 p4
            go_wp2_with fail
            refine HC.out.mono ?_
            intro e w6 hop
            obtain ⟨rfl, G6, g6, s1, s2⟩ := hop.thenE
            obtain ⟨f, hA⟩ := HAns.out
            obtain ⟨o1, o2, o3⟩ := HOP.out _ f w6 G6 hA s1 s2
            have O1 := Lib.hid o1
            have O2 := Lib.hid o2
            have O3 := Lib.hid o3
            clear o1 o2 o3 s1 s2 hop hA HC HAns
            generalize (andE L x y).1 = r at *
            go_wp2_with (at_builtin; refine wpList_append_lies _ rfl _ _ 26 rfl W.heap.size 3 ii _ 1 8 Try.underlying26 hi hz0 hz1 hz2 rfl (by decide) _ _ _ rfl (O1.out.alloc _) ⟨w6.heap.size, 0, none⟩ 1 1 [.int .i64 (r : Int)] rfl rfl (World.news_of_block (cs := #[.int .i64 (r : Int)]) (t := 3) (fr := (0, 0)) (heap_alloc_new w6 _)) (by simp [Value.oneCell']) (by decide) HL1'.out HL2'.out O2.out (w6.heap.size + 1) (by simp) ?_; intro g cap w7 hown hgrow hat hlt1)
            have HF := O3.out g cap w7 hgrow hat hown
            clear hown hgrow hat hlt1
            go_roundw
            case rel => exact ⟨i + 1, by go_num, by omega, HF⟩
            case measure => simp [intOf]; omega
          · have b2 : (kk == 2) = false := by simp [k2]
            by_cases k3 : kk = 3
            · obtain ⟨p1, p2, p3, p4⟩ := HP.out
              have b3 : (kk == 3) = true := by simp [k3]
              have HC := Xor_any p1 p2 x y HOW.out.1 HOW.out.2 (by omega)
              rw [p4] at HC
              have HC := Lib.hid HC
              have HAns : Hid (∃ f, Ans L 3 (xorE L x y) f) := ⟨_, xorE_ans p2 HOW.out.1 HOW.out.2⟩
              clear p1 p2 p3 p4
              go_wp2_with fail
              refine HC.out.mono ?_
              intro e w6 hop
              obtain ⟨rfl, G6, g6, s1, s2⟩ := hop.thenE
              obtain ⟨f, hA⟩ := HAns.out
              obtain ⟨o1, o2, o3⟩ := HOP.out _ f w6 G6 hA s1 s2
              have O1 := Lib.hid o1
              have O2 := Lib.hid o2
              have O3 := Lib.hid o3
              clear o1 o2 o3 s1 s2 hop hA HC HAns
              generalize (xorE L x y).1 = r at *
              go_wp2_with (at_builtin; refine wpList_append_lies _ rfl _ _ 26 rfl W.heap.size 3 ii _ 1 8 Try.underlying26 hi hz0 hz1 hz2 rfl (by decide) _ _ _ rfl (O1.out.alloc _) ⟨w6.heap.size, 0, none⟩ 1 1 [.int .i64 (r : Int)] rfl rfl (World.news_of_block (cs := #[.int .i64 (r : Int)]) (t := 3) (fr := (0, 0)) (heap_alloc_new w6 _)) (by simp [Value.oneCell']) (by decide) HL1'.out HL2'.out O2.out (w6.heap.size + 1) (by simp) ?_; intro g cap w7 hown hgrow hat hlt1)
              have HF := O3.out g cap w7 hgrow hat hown
              clear hown hgrow hat hlt1
              go_roundw
              case rel => exact ⟨i + 1, by go_num, by omega, HF⟩
              case measure => simp [intOf]; omega
            · obtain ⟨p1, p2, p3, p4⟩ := HP.out
              have b3 : (kk == 3) = false := by simp [k3]
              have HC := Or_any p1 p2 (x : Int) (y : Int) (by have := HOW.out; omega) (by have := HOW.out; omega) (by omega)
              rw [own_nat HOW.out.1, own_nat HOW.out.2, p4] at HC
              have HC := Lib.hid HC
              have HAns : Hid (∃ f, Ans L 3 (orE L x y) f) := ⟨_, (orE_ans p2 HOW.out.1 HOW.out.2).more (by omega)⟩
              clear p1 p2 p3 p4
              go_wp2_with fail
              refine HC.out.mono ?_
              intro e w6 hop
              obtain ⟨rfl, G6, g6, s1, s2⟩ := hop.thenE
              obtain ⟨f, hA⟩ := HAns.out
              obtain ⟨o1, o2, o3⟩ := HOP.out _ f w6 G6 hA s1 s2
              have O1 := Lib.hid o1
              have O2 := Lib.hid o2
              have O3 := Lib.hid o3
              clear o1 o2 o3 s1 s2 hop hA HC HAns
              generalize (orE L x y).1 = r at *
              go_wp2_with (at_builtin; refine wpList_append_lies _ rfl _ _ 26 rfl W.heap.size 3 ii _ 1 8 Try.underlying26 hi hz0 hz1 hz2 rfl (by decide) _ _ _ rfl (O1.out.alloc _) ⟨w6.heap.size, 0, none⟩ 1 1 [.int .i64 (r : Int)] rfl rfl (World.news_of_block (cs := #[.int .i64 (r : Int)]) (t := 3) (fr := (0, 0)) (heap_alloc_new w6 _)) (by simp [Value.oneCell']) (by decide) HL1'.out HL2'.out O2.out (w6.heap.size + 1) (by simp) ?_; intro g cap w7 hown hgrow hat hlt1)
              have HF := O3.out g cap w7 hgrow hat hown
              clear hown hgrow hat hlt1
              go_roundw
              case rel => exact ⟨i + 1, by go_num, by omega, HF⟩
              case measure => simp [intOf]; omega
    · obtain rfl : i = m := by omega
      have hiz : ¬ (i : Int) < (i : Int) := by omega
      have HFIN := HH
      clear HH START
      go_wp2_with fail
      go_ret2
      exact ⟨G.h, _, rfl, HFIN.out⟩
end Go.Proofs.Ytbggenilngpjcaa.Cn
