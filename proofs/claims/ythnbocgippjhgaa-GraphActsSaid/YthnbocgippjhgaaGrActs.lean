/- The law GraphActs as a contract. -/
import Derived.Test.YthnbocgippjhgaaGrI
import Derived.Test.YthnbocgippjhgaaGrRefC
import Derived.Test.YthnbocgippjhgaaGrRg
namespace Go.Proofs.Ythnbocgippjhgaa.Gr
open Go Go.RowKit Go.Lib Go.Maps

/-- What edge answers: a number below 0 itself. -/
def edgeR (E : Nat → Nat) (m : Nat) (x : Int) : Int := if x < 0 then x else (edgeF E m x.toNat : Int)
set_option maxHeartbeats 1000000 in
theorem edgeR_any (w : World) (a : Option Addr) (m c : Nat) (E : Nat → Nat) (ha : ArgI w a m (fun j => (E j : Int))) (hm : 0 < m) (hm2 : m ≤ 1000) (hE : ∀ j, j < m → E j < 1000000) (x : Int) (hx : x ≤ 9223372036854775807) :
    Calls Try.prog 7 #[.slice a m c, .int .i64 x] w fun e w' => e = .returned (.int .i64 (edgeR E m x)) ∧ w = w' := by
  by_cases h : x < 0
  · have HE : Hid (edgeR E m x = x) := if_pos h
    clear ha hE
    go_enter Try.func7, Try.ntmps7
    go_wp2
    go_ret
    rw [HE.out]
    exact ⟨rfl, rfl⟩
  · obtain ⟨k, rfl⟩ : ∃ k : Nat, x = (k : Int) := ⟨x.toNat, by omega⟩
    have HE : edgeR E m (k : Int) = (edgeF E m k : Int) := by unfold edgeR; rw [if_neg h]; simp
    rw [HE]
    exact edge_any w a m c E ha hm hm2 hE k hx
theorem edgeR_le {E : Nat → Nat} {m : Nat} (hm : 0 < m) (hE : ∀ j, j < m → E j < 1000000) (x : Int) : edgeR E m x ≤ 9223372036854775807 := by
  unfold edgeR
  split
  · omega
  · have := edgeF_lt (k := 500000) (n := x.toNat) hm (fun j hj => by have := hE j hj; omega); omega

/-- Where the law stands: both graphs are one, and so are their edges. -/
def ActsI (W : World) (h r i : Nat) (ev : Value) (w : World) : Prop :=
  ∃ (G : Loc) (lv : Value) (L : List Nd) (es : List Nat), G.h = h ∧ Law W w G L ∧ RRep w r lv L ∧ EsS W w G ev es ∧ es.length = i + 1 ∧ L.length ≤ i ∧ (∀ j, j < es.length → es.getD j 0 < 2 * (L.length + 1)) ∧
    (¬ G.has r ∧ ∀ k, lv.ownBlock = some k → ¬ G.has k) ∧ (∀ k, ev.ownBlock = some k → k ≠ r ∧ lv.ownBlock ≠ some k) ∧ W.heap.size ≤ r ∧ ∀ k, lv.ownBlock = some k → W.heap.size ≤ k

/-- Behind both calls, the program's and the document's. -/
theorem acts_both {W w w1 w2 : World} {G G1 : Loc} {lv lv1 ev : Value} {L L1 : List Nd} {es : List Nat} {r : Nat} (hL : Law W w G L) (hR : RRep w r lv L) (hE : EsS W w G ev es) (hs : ¬ G.has r ∧ ∀ k, lv.ownBlock = some k → ¬ G.has k) (he : ∀ k, ev.ownBlock = some k → k ≠ r ∧ lv.ownBlock ≠ some k) (hr0 : W.heap.size ≤ r) (hl0 : ∀ k, lv.ownBlock = some k → W.heap.size ≤ k)
    (r1 : Rep w1 G1 L1) (f1 : Fr G w w1 G1) (hW1 : Wf L1) (r2 : RRep w2 r lv1 L1) (f2 : RFr r lv w1 w2 lv1) :
    Law W w2 G1 L1 ∧ RRep w2 r lv1 L1 ∧ EsS W w2 G1 ev es ∧ (¬ G1.has r ∧ ∀ k, lv1.ownBlock = some k → ¬ G1.has k) ∧ (∀ k, ev.ownBlock = some k → k ≠ r ∧ lv1.ownBlock ≠ some k) ∧ W.heap.size ≤ r ∧ ∀ k, lv1.ownBlock = some k → W.heap.size ≤ k := by
  have hrl := hR.lt
  have hG1r : ¬ G1.has r := fun q => (f1.own r q).elim hs.1 (fun q => by have := hrl r (Or.inl rfl); omega)
  have hG1l : ∀ k, lv.ownBlock = some k → ¬ G1.has k := fun k hk q => (f1.own k q).elim (hs.2 k hk) (fun q => by have := hrl k (Or.inr hk); omega)
  have L1w := hL.op r1 f1 hW1
  have E1 := hE.op f1
  have hk2 : ∀ k, k < w1.heap.size → k ≠ r → lv.ownBlock ≠ some k → w2.heap[k]? = w1.heap[k]? := f2.block
  refine ⟨⟨L1w.rep.of_heap fun k hk => hk2 k (L1w.rep.lt k hk) (fun e => hG1r (e ▸ hk)) (fun e => hG1l k e hk), L1w.wf, L1w.below.trans ⟨f2.os, f2.tape, f2.output, f2.size, fun k hk => ?_⟩, L1w.new⟩, r2, ⟨owns_of_heap E1.1 fun k hk => hk2 k (E1.1.lt k hk).2 (he k hk).1 (he k hk).2, E1.2⟩, ⟨hG1r, fun k hk q => ?_⟩, fun k hk => ⟨(he k hk).1, fun e => ?_⟩, hr0, fun k hk => ?_⟩
  · have := L1w.below.size
    exact hk2 k (by omega) (by omega) (fun e => by have := hl0 k e; omega)
  · rcases f2.own k hk with e | e
    · exact hG1l k e q
    · have := L1w.rep.lt k q; omega
  · rcases f2.own k e with q | q
    · exact (he k hk).2 q
    · have := (E1.1.lt k hk).2; omega
  · rcases f2.own k hk with e | e
    · exact hl0 k e
    · have := L1w.below.size; omega

set_option maxRecDepth 100000 in
set_option maxHeartbeats 8000000 in
theorem GraphActs_law (a : Option Addr) (m c : Nat) (K : Nat → ActV) (ma : Option Addr) (mn mc : Nat) (M : Nat → Bool) (W : World) (hp : ArgA W a m K) (hP : ∀ j, j < m → (K j).a ≤ 9223372036854775807 ∧ (K j).b ≤ 9223372036854775807) (hn9 : m ≤ 9223372036854775807) (hm : ArgV (fun j => .bool (M j)) W ma mn) (hm9 : mn ≤ 9223372036854775807) :
    Calls Try.prog 3 #[.slice a m c, .slice ma mn mc] W fun e w' => e = .returned (.bool true) ∧ Below W.heap.size W w' := by
  have HAW := Lib.hid awake_any
  by_cases hbig : (40 : Int) < (m : Int) ∨ (40 : Int) < (mn : Int)
  · have HB : Hid (∀ (v : Bool), True) := fun _ => trivial
    by_cases h1 : (40 : Int) < (m : Int)
    all_goals
      have h2 : ¬ (40 : Int) < (m : Int) → (40 : Int) < (mn : Int) := fun q => hbig.resolve_left q
      try have h3 := h2 h1
      clear hbig h2 hp hm hP HB
      go_enter Try.func3, Try.ntmps3
      go_wp2_with fail
      refine (HAW.out W).mono ?_
      rintro e w1 ⟨rfl, hb1⟩
      have HB1 := Lib.hid hb1
      clear hb1
      go_wp2_with fail
      refine (HAW.out w1).mono ?_
      rintro e w2 ⟨rfl, hb2⟩
      have HB2 := Lib.hid (HB1.out.trans (hb2.mono HB1.out.size))
      clear hb2
      go_wp2_with fail
      go_ret
      exact ⟨rfl, HB2.out⟩
  · have h1 : ¬ (40 : Int) < (m : Int) := fun q => hbig (Or.inl q)
    have h2 : ¬ (40 : Int) < (mn : Int) := fun q => hbig (Or.inr q)
    have HA := Lib.hid (And.intro hp (And.intro hP hm))
    have hm30 : m ≤ 40 := by omega
    have hmn40 : mn ≤ 40 := by omega
    clear hbig hp hm hP
    go_enter Try.func3, Try.ntmps3
    go_wp2_with fail
    refine (HAW.out W).mono ?_
    rintro e w1 ⟨rfl, hb1⟩
    have HB1 := Lib.hid hb1
    have HN := Lib.hid (New_any w1)
    clear hb1
    go_wp2_with fail
    refine HN.out.mono ?_
    rintro e w2 ⟨G, rfl, r1, r2, r3⟩
    have HL : Hid (Law W w2 G []) := ⟨r1, Wf.nil, HB1.out.trans (r2.mono HB1.out.size), fun k hk => Nat.le_trans HB1.out.size (r3 k hk)⟩
    clear HN
    have hst : ∀ w3, w3 = w2.alloc (.cells #[.slice none 0 0] 30) → Below w2.heap.size w2 w3 := fun w3 h => by rw [h]; exact (Below.refl _ _).alloc (Nat.le_refl _) _
    have START : Hid (ActsI W G.h w2.heap.size 0 (.slice (some ⟨w2.heap.size + 1, 0, none⟩) 1 1) ((w2.alloc (.cells #[.slice none 0 0] 30)).alloc (.cells #[.int .i64 0] 3))) := by
      have b1 := hst _ rfl
      have b2 : Below (w2.alloc (.cells #[.slice none 0 0] 30)).heap.size (w2.alloc (.cells #[.slice none 0 0] 30)) ((w2.alloc (.cells #[.slice none 0 0] 30)).alloc (.cells #[.int .i64 0] 3)) := (Below.refl _ _).alloc (Nat.le_refl _) _
      have hr : RRep (w2.alloc (.cells #[.slice none 0 0] 30)) w2.heap.size (.slice none 0 0) [] := ⟨⟨_, heap_alloc_new w2 _, rfl, fun i hi => by match i, hi with | 0, _ => rfl⟩, World.ownsRow_nil _ _ _ _, by simp [Value.ownBlock]⟩
      have hl := (HL.out.after b1).after b2
      refine ⟨G, .slice none 0 0, [], [0], rfl, hl, hr.below b2, ⟨⟨rfl, Or.inr ⟨w2.heap.size + 1, 1, #[.int .i64 0], rfl, by have := HL.out.below.size; omega, ?_, Nat.le_refl _, by decide, rfl, rfl⟩⟩, fun k hk q => ?_⟩, rfl, Nat.le_refl _, fun j hj => ?_, ⟨fun q => by have := HL.out.rep.lt _ q; omega, fun k hk => by simp [Value.ownBlock] at hk⟩, fun k hk => ⟨?_, by simp [Value.ownBlock]⟩, HL.out.below.size, fun k hk => by simp [Value.ownBlock] at hk⟩
      · have := heap_alloc_new (w2.alloc (.cells #[.slice none 0 0] 30)) (.cells #[.int .i64 0] 3)
        simpa using this
      · have : w2.heap.size + 1 = k := by simpa [Value.ownBlock] using hk
        have := HL.out.rep.lt _ q
        omega
      · have : j < 1 := hj
        obtain rfl : j = 0 := by omega
        decide
      · have : w2.heap.size + 1 = k := by simpa [Value.ownBlock] using hk
        omega
    clear hst r1 r2 r3
    go_wp2_with fail
    obtain ⟨r, hr⟩ : ∃ r, r = w2.heap.size := ⟨_, rfl⟩
    rw [← hr] at START ⊢
    clear hr
    go_loopw [7, 8] (fun ev iv wr => ∃ i : Nat, iv = .int .i64 (i : Int) ∧ i ≤ m ∧ Hid (ActsI W G.h r i ev wr)) (fun _ iv _ => m - (RowKit.intOf iv).toNat)
    case atStart => exact ⟨0, rfl, Nat.zero_le _, START⟩
    case round =>
      obtain ⟨i, rfl, hi, HH⟩ := hrel
      by_cases hlt : i < m
      · obtain ⟨G1, lv, L, es, hg1, hL1, hR1, hE1, hesl, hLl, hown, hs1, hs2, hs3, hs4⟩ := HH.out
        obtain ⟨b, off, rfl, hb, hc⟩ := (HA.out.1).resolve_left (by omega)
        have hiz : (i : Int) < (m : Int) := by omega
        have i0 : (0 : Int) ≤ (i : Int) := by omega
        have hck : ∀ j v, W.cell? ⟨b, j, none⟩ = some v → wr.cell? ⟨b, j, none⟩ = some v := fun j v h => (hL1.below.cell (p := ⟨b, j, none⟩) hb).trans h
        have hxk : wr.cell? ⟨b, off + i * 4, none⟩ = some (.int .i64 (K i).k) := hck _ _ (hc i hlt).1
        have hxa : wr.cell? ⟨b, off + i * 4 + 1, none⟩ = some (.int .i64 (K i).a) := hck _ _ (hc i hlt).2.1
        have hxb : wr.cell? ⟨b, off + i * 4 + 2, none⟩ = some (.int .i64 (K i).b) := hck _ _ (hc i hlt).2.2.1
        have hxc : wr.cell? ⟨b, off + i * 4 + 3, none⟩ = some (.int .i64 (K i).c) := hck _ _ (hc i hlt).2.2.2
        have p1 := (HA.out.2.1 i hlt).1
        have p2 := (HA.out.2.1 i hlt).2
        obtain ⟨ea, ec, rfl, hec, _, hEA⟩ := hE1.arg
        have hE9 : ∀ j, j < es.length → es.getD j 0 < 1000000 := fun j hj => by have := hown j hj; omega
        have hba : Below wr.heap.size wr (wr.alloc (.cells #[.int .i64 (K i).k, .int .i64 (K i).a, .int .i64 (K i).b, .int .i64 (K i).c] 33)) := (Below.refl _ _).alloc (Nat.le_refl _) _
        have HED : Hid (∀ q (x : Int), x ≤ 9223372036854775807 → Calls Try.prog 7 #[.slice ea es.length ec, .int .i64 x] ((wr.alloc (.cells #[.int .i64 (K i).k, .int .i64 (K i).a, .int .i64 (K i).b, .int .i64 (K i).c] 33)).drewN q) fun e w' => e = .returned (.int .i64 (edgeR (fun j => es.getD j 0) es.length x)) ∧ ((wr.alloc (.cells #[.int .i64 (K i).k, .int .i64 (K i).a, .int .i64 (K i).b, .int .i64 (K i).c] 33)).drewN q) = w') := fun q x hx => edgeR_any ((wr.alloc (.cells #[.int .i64 (K i).k, .int .i64 (K i).a, .int .i64 (K i).b, .int .i64 (K i).c] 33)).drewN q) ea es.length ec (fun j => es.getD j 0) (ArgV.below (w := (wr.alloc (.cells #[.int .i64 (K i).k, .int .i64 (K i).a, .int .i64 (K i).b, .int .i64 (K i).c] 33))) (hEA.below hba) ⟨rfl, rfl, rfl, Nat.le_refl _, fun _ _ => rfl⟩) (by omega) (by omega) hE9 x hx
        have HX9 : Hid (∀ x, edgeR (fun j => es.getD j 0) es.length x ≤ 9223372036854775807) := fun x => edgeR_le (by omega) hE9 x
        have HLW : Hid (∀ q, Below wr.heap.size wr ((wr.alloc (.cells #[.int .i64 (K i).k, .int .i64 (K i).a, .int .i64 (K i).b, .int .i64 (K i).c] 33)).drewN q)) := fun q => hba.trans ⟨rfl, rfl, rfl, Nat.le_refl _, fun _ _ => rfl⟩
        have HX : Hid ((wr.alloc (.cells #[.int .i64 (K i).k, .int .i64 (K i).a, .int .i64 (K i).b, .int .i64 (K i).c] 33)).heap[wr.heap.size]? = some (.cells #[.int .i64 (K i).k, .int .i64 (K i).a, .int .i64 (K i).b, .int .i64 (K i).c] 33 (0, 0))) := heap_alloc_new wr _
        have HS := Lib.hid (And.intro hL1 (And.intro hR1 (And.intro hE1 (And.intro hs1 (And.intro hs2 (And.intro hs3 (And.intro hs4 hown)))))))
        have HLN : Hid (es.length = i + 1 ∧ L.length ≤ i ∧ L.length ≤ 40 ∧ G1.h = G.h) := ⟨hesl, hLl, by omega, hg1⟩
        obtain ⟨ii, hi, hz0, hz1, hz2⟩ := info_parts infoInt
        obtain ⟨n, hn⟩ : ∃ n, n = es.length := ⟨_, rfl⟩
        have HN0 := Lib.hid hn
        have hn100 : n ≤ 100 := by omega
        rw [← hn] at HED HX9
        rw [← hn]
        have HE1 := Lib.hid (fun q => HED.out q (K i).a p1)
        have HE2 := Lib.hid (fun q => HED.out q (K i).b p2)
        have HXA := Lib.hid (HX9.out (K i).a)
        have HXB := Lib.hid (HX9.out (K i).b)
        clear HH hL1 hR1 hE1 hesl hLl hown hs1 hs2 hs3 hs4 hb hc hck hec hEA hba hE9 HED HX9 hg1 hn START p1 p2
        generalize edgeR (fun j => es.getD j 0) n (K i).a = x at *
        generalize edgeR (fun j => es.getD j 0) n (K i).b = y at *
        generalize (K i).a = za at *
        generalize (K i).b = zb at *
        generalize (K i).c = zc at *
        generalize (K i).k = kk at *
        have d1 : (wr.alloc (.cells #[.int .i64 kk, .int .i64 za, .int .i64 zb, .int .i64 zc] 33)).cell? ⟨wr.heap.size, 1, none⟩ = some (.int .i64 za) := by simp only [World.cell?, HX.out]; rfl
        have d2 : (wr.alloc (.cells #[.int .i64 kk, .int .i64 za, .int .i64 zb, .int .i64 zc] 33)).cell? ⟨wr.heap.size, 2, none⟩ = some (.int .i64 zb) := by simp only [World.cell?, HX.out]; rfl
        have d0 : (wr.alloc (.cells #[.int .i64 kk, .int .i64 za, .int .i64 zb, .int .i64 zc] 33)).cell? ⟨wr.heap.size, 0, none⟩ = some (.int .i64 kk) := by simp only [World.cell?, HX.out]; rfl
        go_wp2_with fail
        go_quiet (first | (go_at_call_of 7 (Value.int .i64 za); exact quiet_same (HE1.out _)) | (go_at_call_of 7 (Value.int .i64 zb); exact quiet_same (HE2.out _)))
        have hbq := HLW.out nq
        have HS2 : Hid (Law W ((wr.alloc (.cells #[.int .i64 kk, .int .i64 za, .int .i64 zb, .int .i64 zc] 33)).drewN nq) G1 L ∧ RRep ((wr.alloc (.cells #[.int .i64 kk, .int .i64 za, .int .i64 zb, .int .i64 zc] 33)).drewN nq) r lv L ∧ EsS W ((wr.alloc (.cells #[.int .i64 kk, .int .i64 za, .int .i64 zb, .int .i64 zc] 33)).drewN nq) G1 (.slice ea n ec) es) := ⟨HS.out.1.after hbq, HS.out.2.1.below hbq, by rw [HN0.out]; exact HS.out.2.2.1.after hbq⟩
        clear hbq HLW HE1 HE2 hxk hxa hxb hxc d1 d2
        have d0' : ((wr.alloc (.cells #[.int .i64 kk, .int .i64 za, .int .i64 zb, .int .i64 zc] 33)).drewN nq).cell? ⟨wr.heap.size, 0, none⟩ = some (.int .i64 kk) := d0
        clear d0 HX
        generalize (wr.alloc (.cells #[.int .i64 kk, .int .i64 za, .int .i64 zb, .int .i64 zc] 33)).drewN nq = W2 at *
        generalize wr.heap.size = H8 at *
        have HSEP : Hid (∀ k, (Value.slice ea n ec).ownBlock = some k → k ≠ r ∧ lv.ownBlock ≠ some k) := by rw [HN0.out]; exact HS.out.2.2.2.2.1
        -- what is left of a round, whatever was laid
        have HTAIL : Hid (∀ (s : Nat × List Nd) w3 G3 w4 lv4, Rep w3 G3 s.2 → Fr G1 W2 w3 G3 → Wf s.2 → L.length ≤ s.2.length → s.2.length ≤ L.length + 1 → s.1 < 2 * (s.2.length + 1) → RRep w4 r lv4 s.2 → RFr r lv w3 w4 lv4 →
            (∀ q, Calls Try.prog 12 #[.pointer (some ⟨G.h, 0, none⟩)] (w4.drewN q) fun e w' => e = .returned (.int .i64 ((s.2.length : Int) + 1)) ∧ (w4.drewN q) = w') ∧ (∃ a c, w4.cell? ⟨r, 0, none⟩ = some (.slice a s.2.length c)) ∧
            ∀ q, w4.heap.size ≤ w4.heap.size ∧ W.heap.size ≤ (w4.drewN q).heap.size ∧ (w4.drewN q).ownsRow W.heap.size 3 1 (.slice ea n ec) n (es.map encN) ∧
              ∀ g cap w5, w5.ownsRow W.heap.size 3 1 (.slice (some ⟨g, 0, none⟩) (n + 1) cap) (n + 1) (es.map encN ++ [.int .i64 (s.1 : Int)]) → ((w4.drewN q).alloc (.cells #[.int .i64 (s.1 : Int)] 3)).grownBy w5 (Value.slice ea n ec).ownBlock → ((Value.slice ea n ec).ownBlock = some g ∨ g = (w4.drewN q).heap.size + 1) → ActsI W G.h r (i + 1) (.slice (some ⟨g, 0, none⟩) (n + 1) cap) w5) := by
          intro s w3 G3 w4 lv4 r1 f1 hw1 hle hle2 hso r2 f2
          obtain ⟨k1, k2, k3, k4, k5, k6, k7⟩ := acts_both HS2.out.1 HS2.out.2.1 HS2.out.2.2 HS.out.2.2.2.1 HSEP.out HS.out.2.2.2.2.2.1 HS.out.2.2.2.2.2.2.1 r1 f1 hw1 r2 f2
          have hg3 : G3.h = G.h := f1.h.trans HLN.out.2.2.2
          refine ⟨fun q => ?_, ?_, fun q => ⟨Nat.le_refl _, k1.below.size, ?_, fun g cap w5 ho hg hat => ?_⟩⟩
          · have := Nodes_any (k1.rep.drewN q) _ rfl
            rw [hg3] at this
            exact this
          · obtain ⟨a, c, _, h2⟩ := k2.form
            exact ⟨a, c, h2⟩
          · have := k3.1
            rw [← HN0.out] at this
            exact this
          · have hbq : Below w4.heap.size w4 (w4.drewN q) := ⟨rfl, rfl, rfl, Nat.le_refl _, fun _ _ => rfl⟩
            have k1q := k1.after hbq
            have k3q := k3.after hbq
            have k2q := k2.below hbq
            have hba : Below (w4.drewN q).heap.size (w4.drewN q) ((w4.drewN q).alloc (.cells #[.int .i64 (s.1 : Int)] 3)) := (Below.refl _ _).alloc (Nat.le_refl _) _
            have hgh : ¬ G3.has g := fun z => by
              rcases hat with e | e
              · exact k3q.2 _ e z
              · have := k1q.rep.lt _ z; omega
            refine ⟨G3, lv4, s.2, es ++ [s.1], hg3, (k1q.after hba).grow hg fun k hk => ⟨k3q.2 k hk, (k3q.1.lt k hk).1⟩, (k2q.below hba).of_heap fun k hk => hg.block k (by have := k2q.lt k hk; simp; exact Nat.lt_succ_of_lt this) (fun e => ?_), ⟨?_, fun k hk z => ?_⟩, by rw [List.length_append, HLN.out.1]; rfl, by have := HLN.out; omega, fun j hj => ?_, k4, fun k hk => ?_, k6, k7⟩
            · rcases hk with rfl | hk
              · exact (k5 _ e.symm).1 rfl
              · exact (k5 _ e.symm).2 hk
            · rw [List.length_append, encN_snoc, ← HN0.out]; exact ho
            · have : g = k := by simpa [Value.ownBlock] using hk
              rw [← this] at z; exact hgh z
            · rw [getD_snoc]
              split
              · rename_i e; have := HS.out.2.2.2.2.2.2.2 j e; omega
              · split <;> omega
            · have : g = k := by simpa [Value.ownBlock] using hk
              subst this
              rcases hat with e | e
              · exact k5 _ e
              · refine ⟨fun z => ?_, fun z => ?_⟩
                · have := k2q.lt r (Or.inl rfl); omega
                · have := k2q.lt g (Or.inr z); omega
        by_cases k0 : kk = 0
        · subst k0
          have HI1 : Hid (Calls Try.prog 8 #[.pointer (some ⟨G.h, 0, none⟩)] W2 (OpE W2 G1 (2 * (L.length + 1), L ++ [none]))) := by rw [← HLN.out.2.2.2]; exact Input_any HS2.out.1.rep (by have := HLN.out; omega)
          have HI2 : Hid (∀ w3, RRep w3 r lv L → Calls Try.prog 9 #[.pointer (some ⟨r, 0, none⟩)] w3 (ROpE w3 r lv (2 * (L.length + 1), L ++ [none]))) := fun w3 h => refInput_any h (by have := HLN.out; omega)
          have HT : Hid (Wf (L ++ [none]) ∧ L.length ≤ (L ++ [none]).length ∧ (L ++ [none]).length ≤ L.length + 1 ∧ 2 * (L.length + 1) < 2 * ((L ++ [none]).length + 1)) := ⟨HS2.out.1.wf.input, by simp, by simp, by simp⟩
          obtain ⟨s, hs⟩ : ∃ s : Nat × List Nd, s = (2 * (L.length + 1), L ++ [none]) := ⟨_, rfl⟩
          rw [← hs] at HI1 HI2
          have HT2 : Hid (Wf s.2 ∧ L.length ≤ s.2.length ∧ s.2.length ≤ L.length + 1 ∧ s.1 < 2 * (s.2.length + 1)) := by rw [hs]; exact HT.out
          clear hs HT
          go_wp2_with fail
          refine HI1.out.mono ?_
          intro e w3 hop
          have HOP := Lib.hid hop
          obtain ⟨rfl, _⟩ := hop.thenE
          clear hop
          have HI3 := Lib.hid (HI2.out w3 (by
            obtain ⟨_, G3, _, f1⟩ := HOP.out
            exact HS2.out.2.1.of_heap fun k hk => f1.block k (HS2.out.2.1.lt k hk) (fun q => by rcases hk with rfl | hk; exact HS.out.2.2.2.1.1 q; exact HS.out.2.2.2.1.2 k hk q)))
          go_wp2_with fail
          refine HI3.out.mono ?_
          rintro e w4 ⟨rfl, lv4, r2, f2⟩
          obtain ⟨_, G3, r1, f1⟩ := HOP.out
          obtain ⟨t1, ⟨ra, rc, t2⟩, t3⟩ := HTAIL.out s w3 G3 w4 lv4 r1 f1 HT2.out.1 HT2.out.2.1 HT2.out.2.2.1 HT2.out.2.2.2 r2 f2
          have HT1 := Lib.hid t1
          have HT3 := Lib.hid t3
          have sl9 : (s.2.length : Int) ≤ 1000 := by have := HT2.out; have := HLN.out; omega
          have sne : ((s.1 : Int) != (s.1 : Int)) = false := by simp
          have sne2 : (((s.2.length : Nat) : Int) + 1 != ((s.2.length : Nat) : Int) + 1) = false := by simp
          clear r1 f1 r2 f2 t1 t3 HOP HI1 HI2 HI3 HTAIL HT2
          generalize s.2.length = sl at *
          go_wp2_with fail
          go_quiet ((go_at_call 12; exact quiet_same (HT1.out _)))
          obtain ⟨_, hbs, ho, hend⟩ := HT3.out nq
          have HO := Lib.hid ho
          have HEND0 := Lib.hid hend
          clear ho hend HT1 HT3 t2
          generalize w4.drewN nq = W5 at *
          go_wp2_with (at_builtin; refine wpList_append_lies _ rfl _ _ 31 rfl W.heap.size 3 ii _ 1 8 Try.underlying31 hi hz0 hz1 hz2 rfl (by decide) _ _ _ rfl (HO.out.alloc _) ⟨W5.heap.size, 0, none⟩ 1 1 [.int .i64 (s.1 : Int)] rfl rfl (World.news_of_block (cs := #[.int .i64 (s.1 : Int)]) (t := 3) (fr := (0, 0)) (heap_alloc_new W5 _)) (by simp [Value.oneCell']) (by decide) (by unfold maxLen; omega) (by omega) (by simp; omega) (W5.heap.size + 1) (by simp) ?_; intro g cap w9 hown9 hgrow9 hat9 hlt9; refine Hid.out ?_)
          refine Lib.hid ?_
          have HEND := Lib.hid (HEND0.out g cap w9 hown9 hgrow9 hat9)
          clear hown9 hgrow9 hat9 hlt9 HEND0
          go_wp2_with fail
          go_roundw
          case rel => exact ⟨i + 1, by go_num, by omega, HEND⟩
          case measure => simp [RowKit.intOf]; omega
        · have kf : (kk == 0) = false := by simpa using k0
          have hA1 := And_any HS2.out.1.rep x y HXA.out HXB.out (by have := HLN.out; omega)
          rw [HLN.out.2.2.2] at hA1
          have HI1 := Lib.hid hA1
          have HI2 : Hid (∀ w3, RRep w3 r lv L → Calls Try.prog 11 #[.pointer (some ⟨r, 0, none⟩), .int .i64 x, .int .i64 y] w3 (ROpE w3 r lv (andE L (own L x) (own L y)))) := fun w3 h => refAnd_any h HS2.out.1.wf x y (by have := HLN.out; omega)
          have hans := andE_ans HS2.out.1.wf (own_lt L x) (own_lt L y)
          have HT2 : Hid (Wf (andE L (own L x) (own L y)).2 ∧ L.length ≤ (andE L (own L x) (own L y)).2.length ∧ (andE L (own L x) (own L y)).2.length ≤ L.length + 1 ∧ (andE L (own L x) (own L y)).1 < 2 * ((andE L (own L x) (own L y)).2.length + 1)) := ⟨hans.wf, hans.le, hans.lenle, hans.own⟩
          generalize andE L (own L x) (own L y) = s at *
          clear k0 hA1 hans
          go_wp2_with fail
          refine HI1.out.mono ?_
          intro e w3 hop
          have HOP := Lib.hid hop
          obtain ⟨rfl, _⟩ := hop.thenE
          clear hop
          have HI3 := Lib.hid (HI2.out w3 (by
            obtain ⟨_, G3, _, f1⟩ := HOP.out
            exact HS2.out.2.1.of_heap fun k hk => f1.block k (HS2.out.2.1.lt k hk) (fun q => by rcases hk with rfl | hk; exact HS.out.2.2.2.1.1 q; exact HS.out.2.2.2.1.2 k hk q)))
          go_wp2_with fail
          refine HI3.out.mono ?_
          rintro e w4 ⟨rfl, lv4, r2, f2⟩
          obtain ⟨_, G3, r1, f1⟩ := HOP.out
          obtain ⟨t1, ⟨ra, rc, t2⟩, t3⟩ := HTAIL.out s w3 G3 w4 lv4 r1 f1 HT2.out.1 HT2.out.2.1 HT2.out.2.2.1 HT2.out.2.2.2 r2 f2
          have HT1 := Lib.hid t1
          have HT3 := Lib.hid t3
          have sl9 : (s.2.length : Int) ≤ 1000 := by have := HT2.out; have := HLN.out; omega
          have sne : ((s.1 : Int) != (s.1 : Int)) = false := by simp
          have sne2 : (((s.2.length : Nat) : Int) + 1 != ((s.2.length : Nat) : Int) + 1) = false := by simp
          clear r1 f1 r2 f2 t1 t3 HOP HI1 HI2 HI3 HTAIL HT2
          generalize s.2.length = sl at *
          go_wp2_with fail
          go_quiet ((go_at_call 12; exact quiet_same (HT1.out _)))
          obtain ⟨_, hbs, ho, hend⟩ := HT3.out nq
          have HO := Lib.hid ho
          have HEND0 := Lib.hid hend
          clear ho hend HT1 HT3 t2
          generalize w4.drewN nq = W5 at *
          go_wp2_with (at_builtin; refine wpList_append_lies _ rfl _ _ 31 rfl W.heap.size 3 ii _ 1 8 Try.underlying31 hi hz0 hz1 hz2 rfl (by decide) _ _ _ rfl (HO.out.alloc _) ⟨W5.heap.size, 0, none⟩ 1 1 [.int .i64 (s.1 : Int)] rfl rfl (World.news_of_block (cs := #[.int .i64 (s.1 : Int)]) (t := 3) (fr := (0, 0)) (heap_alloc_new W5 _)) (by simp [Value.oneCell']) (by decide) (by unfold maxLen; omega) (by omega) (by simp; omega) (W5.heap.size + 1) (by simp) ?_; intro g cap w9 hown9 hgrow9 hat9 hlt9; refine Hid.out ?_)
          refine Lib.hid ?_
          have HEND := Lib.hid (HEND0.out g cap w9 hown9 hgrow9 hat9)
          clear hown9 hgrow9 hat9 hlt9 HEND0
          go_wp2_with fail
          go_roundw
          case rel => exact ⟨i + 1, by go_num, by omega, HEND⟩
          case measure => simp [RowKit.intOf]; omega
      · obtain rfl : i = m := by omega
        have hiz : ¬ (i : Int) < (i : Int) := by omega
        obtain ⟨G1, lv, L, es, hg1, hL1, hR1, hE1, hesl, hLl, hown, hs1, hs2, hs3, hs4⟩ := HH.out
        obtain ⟨eb, ec, rfl, _, _⟩ := hE1.1.form (by omega)
        have hEA : ArgI wr (some ⟨eb, 0, none⟩) es.length (fun j => ((es.getD j 0 : Nat) : Int)) := by
          obtain ⟨a, c, e, _, _, h⟩ := hE1.arg
          cases e
          exact h
        have hec : ∀ k, k < es.length → wr.cell? ⟨eb, k, none⟩ = some (.int .i64 ((es.getD k 0 : Nat) : Int)) := fun k hk => own_cell hE1.1 (by rw [List.getElem?_map, List.getElem?_eq_getElem hk]; simp [encN, hk])
        have hel := (hE1.1.lt eb rfl).2
        have hEV := Eval_any hL1.rep hL1.wf ma mn mc M (HA.out.2.2.below hL1.below) (by omega) (some ⟨eb, 0, none⟩) es.length ec (fun j => ((es.getD j 0 : Nat) : Int)) hEA (by omega) (fun j hj => by have := hown j hj; show ((es.getD j 0 : Nat) : Int) ≤ _; omega) (by omega)
        rw [hg1] at hEV
        have HEV := Lib.hid hEV
        have HP : Hid (Law W wr G1 L ∧ RRep wr r lv L ∧ (∀ k, k < es.length → wr.cell? ⟨eb, k, none⟩ = some (.int .i64 ((es.getD k 0 : Nat) : Int))) ∧ eb < wr.heap.size ∧ (∀ j, j < es.length → es.getD j 0 < 2 * (L.length + 1)) ∧ G1.h = G.h ∧ L.length ≤ 40) := ⟨hL1, hR1, hec, hel, hown, hg1, by omega⟩
        obtain ⟨n, hn⟩ : ∃ n, n = es.length := ⟨_, rfl⟩
        have hn100 : n ≤ 100 := by omega
        rw [← hn] at HEV HP ⊢
        have HP1 : Hid (Wf L) := hL1.wf
        clear HH hL1 hR1 hE1 hesl hLl hown hs1 hs2 hs3 hs4 hec hel hEA hEV hg1 hn START
        go_wp2_with fail
        refine HEV.out.mono ?_
        rintro e w6 ⟨vb, rfl, hvb, hrow, hb6⟩
        have HV : Hid (∀ w', Below w6.heap.size w6 w' → Law W w' G1 L ∧ RRep w' r lv L ∧ ∀ k, k < n → (w'.cell? ⟨vb, k, none⟩ = some (.bool (val (mdl M mn) L (es.getD k 0))) ∧ vb < w'.heap.size) ∧ (w'.cell? ⟨eb, k, none⟩ = some (.int .i64 ((es.getD k 0 : Nat) : Int)) ∧ eb < w'.heap.size)) := by
          intro w' hb
          have h6 := HP.out.1.after hb6
          have hv6 := hrow.lt
          have hs := hb.size
          have hs6 := hb6.size
          have he := HP.out.2.2.2.1
          refine ⟨h6.after hb, (HP.out.2.1.below hb6).below hb, fun k hk => ⟨⟨?_, by omega⟩, ?_, by omega⟩⟩
          · refine (hb.cell (p := ⟨vb, k, none⟩) hv6).trans ?_
            rw [hrow.cell (i := k) hk]
            show some (Value.bool (val (mdl M mn) L (own L ((es.getD k 0 : Nat) : Int)))) = _
            rw [own_nat (HP.out.2.2.2.2.1 k hk)]
          · exact (hb.cell (p := ⟨eb, k, none⟩) (by show eb < _; omega)).trans ((hb6.cell (p := ⟨eb, k, none⟩) he).trans (HP.out.2.2.1 k hk))
        have hnn : ((n : Int) != (n : Int)) = false := by simp
        have HG : Hid (G1.h = G.h ∧ L.length ≤ 40 ∧ ∀ j, j < n → es.getD j 0 < 2 * (L.length + 1)) := ⟨HP.out.2.2.2.2.2.1, HP.out.2.2.2.2.2.2, HP.out.2.2.2.2.1⟩
        clear hvb hrow hb6 HEV HP
        go_wp2_with fail
        go_loopw [15] (fun jv wr' => ∃ j : Nat, jv = .int .i64 (j : Int) ∧ j ≤ n ∧ Hid (Below w6.heap.size w6 wr')) (fun jv _ => n - (RowKit.intOf jv).toNat)
        case atStart => exact ⟨0, rfl, Nat.zero_le _, Lib.hid (Below.refl _ _)⟩
        case round =>
          obtain ⟨k, rfl, hk, HBW⟩ := hrel
          by_cases hlt2 : k < n
          · have k1 : (k : Int) < (n : Int) := by omega
            have k0 : (0 : Int) ≤ (k : Int) := by omega
            by_cases h20 : (k : Int) < 20
            · obtain ⟨_, hRR, hvs⟩ := HV.out _ HBW.out
              obtain ⟨⟨hv, hvl⟩, he, hel⟩ := hvs k hlt2
              have HBL := Lib.hid (And.intro hvl hel)
              obtain ⟨vv, hvv⟩ : ∃ vv, vv = val (mdl M mn) L (es.getD k 0) := ⟨_, rfl⟩
              have hmr := (HA.out.2.2).below (HV.out _ HBW.out).1.below
              have hval := refValue_n HP1.out (by have := HG.out.2.1; omega) ma mn mc M (by omega) (es.getD k 0) (HG.out.2.2 k hlt2) wr.drew (hRR.of_heap fun _ _ => rfl) (ArgV.below (w := wr) hmr ⟨rfl, rfl, rfl, Nat.le_refl _, fun _ _ => rfl⟩)
              rw [← hvv] at hv hval
              obtain ⟨ek, hek⟩ : ∃ ek, ek = es.getD k 0 := ⟨_, rfl⟩
              rw [← hek] at he hval
              have HVAL := Lib.hid hval
              have HB0 := Lib.hid (And.intro HBW.out hRR)
              have vne : (vv != vv) = false := by simp
              clear hRR hvs hvl hel hmr hval hvv hek
              go_wp2_with fail
              refine wp_region_H (S := fun w' => w'.cell? ⟨vb, k, none⟩ = some (.bool vv) ∧ w'.cell? ⟨eb, k, none⟩ = some (.int .i64 (ek : Int))) 12 (by kernel_rfl) (⟨hv, he⟩) (fun hSx => ?_)
              refine wpAnyH_takeB (i := 0) (v := ?vya_0) rfl (by kernel_rfl) (fun _ _ _ h => h) rfl ?ya_0 hSx ?_
              case ya_0 => (intro w' hSw; (try dsimp only at hSw); go_split_ands; go_simp; try with_reducible rfl)
              try simp only [Act.put, List.getElem_toArray, List.getElem_cons_succ, List.getElem_cons_zero, List.setIfInBounds_toArray, List.set_cons_zero, List.set_cons_succ]
              refine wpAnyH_takeB (i := 1) (v := ?vya_1) rfl (by kernel_rfl) (fun _ _ _ h => h) rfl ?ya_1 hSx ?_
              case ya_1 => (intro w' hSw; (try dsimp only at hSw); go_split_ands; go_simp; try with_reducible rfl)
              try simp only [Act.put, List.getElem_toArray, List.getElem_cons_succ, List.getElem_cons_zero, List.setIfInBounds_toArray, List.set_cons_zero, List.set_cons_succ]
              refine wpAnyH_takeB (i := 2) (v := ?vya_2) rfl (by kernel_rfl) (fun _ _ _ h => h) rfl ?ya_2 hSx ?_
              case ya_2 => (intro w' hSw; (try dsimp only at hSw); go_split_ands; go_simp; try with_reducible rfl)
              try simp only [Act.put, List.getElem_toArray, List.getElem_cons_succ, List.getElem_cons_zero, List.setIfInBounds_toArray, List.set_cons_zero, List.set_cons_succ]
              refine wpAnyH_takeB (i := 3) (v := ?vya_3) rfl (by kernel_rfl) (fun _ _ _ h => h) rfl ?ya_3 hSx ?_
              case ya_3 => (intro w' hSw; (try dsimp only at hSw); go_split_ands; go_simp; try with_reducible rfl)
              try simp only [Act.put, List.getElem_toArray, List.getElem_cons_succ, List.getElem_cons_zero, List.setIfInBounds_toArray, List.set_cons_zero, List.set_cons_succ]
              refine wpAnyH_takeB (i := 4) (v := ?vya_4) rfl (by kernel_rfl) (fun _ _ _ h => h) rfl ?ya_4 hSx ?_
              case ya_4 => (intro w' hSw; (try dsimp only at hSw); go_split_ands; go_simp; try with_reducible rfl)
              try simp only [Act.put, List.getElem_toArray, List.getElem_cons_succ, List.getElem_cons_zero, List.setIfInBounds_toArray, List.set_cons_zero, List.set_cons_succ]
              refine wpAnyH_takeB (i := 5) (v := ?vya_5) rfl (by kernel_rfl) (fun _ _ _ h => h) rfl ?ya_5 hSx ?_
              case ya_5 => (intro w' hSw; (try dsimp only at hSw); go_split_ands; go_simp; try with_reducible rfl)
              try simp only [Act.put, List.getElem_toArray, List.getElem_cons_succ, List.getElem_cons_zero, List.setIfInBounds_toArray, List.set_cons_zero, List.set_cons_succ]
              refine wpAnyH_takeB (i := 6) (v := ?vya_6) rfl (by kernel_rfl) (fun _ _ _ h => h) rfl ?ya_6 hSx ?_
              case ya_6 => (intro w' hSw; (try dsimp only at hSw); go_split_ands; go_simp; try with_reducible rfl)
              try simp only [Act.put, List.getElem_toArray, List.getElem_cons_succ, List.getElem_cons_zero, List.setIfInBounds_toArray, List.set_cons_zero, List.set_cons_succ]
              refine wpAnyH_takeB (i := 7) (v := ?vya_7) rfl (by kernel_rfl) (fun _ _ _ h => h) rfl ?ya_7 hSx ?_
              case ya_7 => (intro w' hSw; (try dsimp only at hSw); go_split_ands; go_simp; try with_reducible rfl)
              try simp only [Act.put, List.getElem_toArray, List.getElem_cons_succ, List.getElem_cons_zero, List.setIfInBounds_toArray, List.set_cons_zero, List.set_cons_succ]
              refine wpAnyH_takeB (i := 8) (v := ?vya_8) rfl (by kernel_rfl) (fun _ _ _ h => h) rfl ?ya_8 hSx ?_
              case ya_8 => (intro w' hSw; (try dsimp only at hSw); go_split_ands; go_simp; try with_reducible rfl)
              try simp only [Act.put, List.getElem_toArray, List.getElem_cons_succ, List.getElem_cons_zero, List.setIfInBounds_toArray, List.set_cons_zero, List.set_cons_succ]
              refine wpAnyH_takeB (i := 9) (v := ?vya_9) rfl (by kernel_rfl) (fun _ _ _ h => h) rfl ?ya_9 hSx ?_
              case ya_9 => (intro w' hSw; (try dsimp only at hSw); go_split_ands; go_simp; try with_reducible rfl)
              try simp only [Act.put, List.getElem_toArray, List.getElem_cons_succ, List.getElem_cons_zero, List.setIfInBounds_toArray, List.set_cons_zero, List.set_cons_succ]
              refine' wpAnyH_one (i := 10) ?ta1 ?tb1 ?tc1 ?td1
              case tb1 => rfl
              case ta1 => kernel_rfl
              case tc1 => rfl
              intro K hK
              go_simp
              refine HVAL.out.mono ?_
              rintro e w9 ⟨rfl, hb9⟩
              have HB9 := Lib.hid hb9
              clear hb9
              try dsimp only
              refine hK.out _ _ (⟨(HB9.out.cell (p := ⟨vb, k, none⟩) HBL.out.1).trans hv, (HB9.out.cell (p := ⟨eb, k, none⟩) HBL.out.2).trans he⟩) (fun hSx => ?_)
              clear hK K
              try simp only [Act.put, List.getElem_toArray, List.getElem_cons_succ, List.getElem_cons_zero, List.setIfInBounds_toArray, List.set_cons_zero, List.set_cons_succ]
              refine wpAnyH_takeB (i := 11) (v := ?vya_11) rfl (by kernel_rfl) (fun _ _ _ h => h) rfl ?ya_11 hSx ?_
              case ya_11 => (intro w' hSw; (try dsimp only at hSw); go_split_ands; go_simp; try with_reducible rfl)
              try simp only [Act.put, List.getElem_toArray, List.getElem_cons_succ, List.getElem_cons_zero, List.setIfInBounds_toArray, List.set_cons_zero, List.set_cons_succ]
              refine wpAnyH_done (by kernel_rfl) ?_ _
              go_wp2_with fail
              go_roundw
              case rel => exact ⟨k + 1, by go_num, by omega, Lib.hid ((HB0.out.1.trans (⟨rfl, rfl, rfl, Nat.le_refl _, fun _ _ => rfl⟩ : Below w6.heap.size wr wr.drew)).trans (HB9.out.mono HB0.out.1.size))⟩
              case measure => simp [RowKit.intOf]; omega
            · have h20' : ¬ (k : Int) < 20 := h20
              have h20'' : (20 : Int) ≤ (k : Int) := by omega
              go_wp2_with fail
              have HLR : Hid (∃ a c, lv = .slice a L.length c) := by
                obtain ⟨a, c, e, _⟩ := (HV.out wr HBW.out).2.1.form
                exact ⟨a, c, e⟩
              obtain ⟨la, lc, rfl⟩ := HLR.out
              clear HLR
              have hL40 : L.length ≤ 40 := HG.out.2.1
              have HBS := Lib.hid HBW.out
              go_loopw [16, 17, 18, 19, 20, 21] (fun iv nv _ _ _ _ wr' => ∃ (x : Int) (i : Nat), iv = .int .i64 (i : Int) ∧ nv = .int .i64 x ∧ -1 ≤ x ∧ x ≤ (L.length : Int) + 2 ∧ i ≤ 100 ∧ Hid (i = ins (L.take (x - 1).toNat) ∧ Below w6.heap.size w6 wr')) (fun _ nv _ _ _ _ _ => ((L.length : Int) + 3 - (RowKit.intOf nv)).toNat)
              case atStart => exact ⟨-1, 0, rfl, rfl, by omega, by omega, by omega, rfl, HBS.out⟩
              case round =>
                obtain ⟨x, i, rfl, rfl, hx1, hx2, hi100, HH⟩ := hrel
                obtain ⟨hLw, hRw, _⟩ := HV.out _ HH.out.2
                have hr0 := hRw.c0
                by_cases hlast : x ≤ (L.length : Int) + 1
                · have hN := Node_any hLw.rep hLw.wf x (by omega) (by omega)
                  rw [HG.out.1] at hN
                  have HN := Lib.hid hN
                  have hrlt := hRw.lt r (Or.inl rfl)
                  have HBX : Hid (∀ {w7 : World}, Below wr.heap.size wr w7 → Below w6.heap.size w6 w7) := fun hb => HH.out.2.trans (hb.mono HH.out.2.size)
                  have HR := Lib.hid (And.intro hRw hrlt)
                  by_cases hin : 1 ≤ x ∧ x ≤ (L.length : Int)
                  · obtain ⟨k, hk⟩ : ∃ k : Nat, x = (k : Int) + 1 := ⟨(x - 1).toNat, by omega⟩
                    subst hk
                    have hkl : k < L.length := by omega
                    obtain ⟨d, hd⟩ : ∃ d, L[k]? = some d := ⟨L[k], List.getElem?_eq_getElem hkl⟩
                    have HT : Hid (ins (L.take (k + 1)) = ins (L.take k) + if d.isNone then 1 else 0) := ins_take hd
                    have HI1 : Hid (i = ins (L.take k)) := by have := HH.out.1; rwa [show ((k : Int) + 1 - 1).toNat = k by omega] at this
                    have hnd : ndI L ((k : Int) + 1) = d := by
                      unfold ndI
                      rw [if_pos (by omega), show ((k : Int) + 1).toNat = k + 1 by omega, nd_succ, hd]; rfl
                    rw [hnd] at HN
                    obtain ⟨g, c', e', hc0, hc1, hc2⟩ := hRw.node hd
                    have hglt := hRw.lt g (Or.inr (by rw [e']; rfl))
                    cases e'
                    have HC := Lib.hid (And.intro hc0 (And.intro hc1 (And.intro hc2 (And.intro hglt (And.intro hr0 hrlt)))))
                    have k0 : (0 : Int) ≤ (k : Int) := by omega
                    have k1 : (k : Int) < (L.length : Int) := by omega
                    have k2 : (k : Int) + 1 ≤ (L.length : Int) := by omega
                    have k3 : (1 : Int) ≤ (k : Int) + 1 := by omega
                    have k40 : k ≤ 40 := by omega
                    clear hnd hd hin hLw hRw hc1 hc2 hglt HH hrlt
                    cases d with
                    | none =>
                      rw [show lo (none : Nd) = 0 from rfl, show Gr.hi (none : Nd) = 0 from rfl] at HN
                      have HI2 : Hid (ins (L.take (k + 1)) = i + 1) := by rw [Hid, HT.out, HI1.out]; rfl
                      clear hc0
                      go_wp2_with fail
                      refine HN.out.mono ?_
                      rintro e w7 ⟨rfl, hb7⟩
                      have hr7 : w7.cell? ⟨r, 0, none⟩ = some (.slice (some ⟨g, 0, none⟩) L.length lc) := (hb7.cell (p := ⟨r, 0, none⟩) HC.out.2.2.2.2.2).trans HC.out.2.2.2.2.1
                      have hg7 : w7.cell? ⟨g, k * 3, none⟩ = some (.bool true) := (hb7.cell (p := ⟨g, k * 3, none⟩) HC.out.2.2.2.1).trans HC.out.1
                      have HB7 := Lib.hid (HBX.out hb7)
                      clear hb7 hr0
                      go_wp2_with fail
                      go_roundw
                      case rel => exact ⟨(k : Int) + 1 + 1, i + 1, by go_num, by go_num, by omega, by omega, (by
                        have h1 := HI2.out
                        have h2 : ins (L.take (k + 1)) ≤ (L.take (k + 1)).length := List.countP_le_length
                        rw [List.length_take] at h2
                        omega), by rw [show ((k : Int) + 1 + 1 - 1).toNat = k + 1 by omega]; exact HI2.out.symm, HB7.out⟩
                      case measure => simp [RowKit.intOf]; omega
                    | some p =>
                      have HI2 : Hid (ins (L.take (k + 1)) = i) := by rw [Hid, HT.out, HI1.out]; rfl
                      obtain ⟨pa, pb⟩ := p
                      clear hc0
                      have v1 : ((pa : Int) != (pa : Int)) = false := by simp
                      have v2 : ((pb : Int) != (pb : Int)) = false := by simp
                      go_wp2_with fail
                      refine HN.out.mono ?_
                      rintro e w7 ⟨rfl, hb7⟩
                      have hr7 : w7.cell? ⟨r, 0, none⟩ = some (.slice (some ⟨g, 0, none⟩) L.length lc) := (hb7.cell (p := ⟨r, 0, none⟩) HC.out.2.2.2.2.2).trans HC.out.2.2.2.2.1
                      have hg7 : w7.cell? ⟨g, k * 3, none⟩ = some (.bool false) := (hb7.cell (p := ⟨g, k * 3, none⟩) HC.out.2.2.2.1).trans HC.out.1
                      have hg8 : w7.cell? ⟨g, k * 3 + 1, none⟩ = some (.int .i64 (pa : Int)) := (hb7.cell (p := ⟨g, k * 3 + 1, none⟩) HC.out.2.2.2.1).trans HC.out.2.1
                      have hg9 : w7.cell? ⟨g, k * 3 + 2, none⟩ = some (.int .i64 (pb : Int)) := (hb7.cell (p := ⟨g, k * 3 + 2, none⟩) HC.out.2.2.2.1).trans HC.out.2.2.1
                      have HB7 := Lib.hid (HBX.out hb7)
                      clear hb7 hr0
                      go_wp2_with fail
                      go_roundw
                      case rel => exact ⟨(k : Int) + 1 + 1, i, rfl, by go_num, by omega, by omega, hi100, by rw [show ((k : Int) + 1 + 1 - 1).toNat = k + 1 by omega]; exact HI2.out.symm, HB7.out⟩
                      case measure => simp [RowKit.intOf]; omega
                  · have hnd : ndI L x = none := by
                      unfold ndI
                      split
                      · rename_i hq
                        rw [show x.toNat = 0 by omega]; rfl
                      · rfl
                    rw [hnd, show lo (none : Nd) = 0 from rfl, show Gr.hi (none : Nd) = 0 from rfl] at HN
                    have HI2 : Hid (i = ins (L.take (x + 1 - 1).toNat)) := by
                      have := HH.out.1
                      rw [Hid, this]
                      rcases Int.lt_or_le x 1 with q | q
                      · rw [show (x - 1).toNat = 0 by omega, show (x + 1 - 1).toNat = 0 by omega]
                      · rw [List.take_of_length_le (by omega), List.take_of_length_le (by omega)]
                    have hgu : (1 ≤ x ∧ ¬ x ≤ (L.length : Int)) ∨ ¬ 1 ≤ x := by omega
                    clear hnd hin hLw hRw hrlt HH
                    have HC := Lib.hid (And.intro hr0 HR.out.2)
                    rcases hgu with ⟨g1, g2⟩ | g1
                    · go_wp2_with fail
                      refine HN.out.mono ?_
                      rintro e w7 ⟨rfl, hb7⟩
                      have hr7 : w7.cell? ⟨r, 0, none⟩ = some (.slice la L.length lc) := (hb7.cell (p := ⟨r, 0, none⟩) HC.out.2).trans HC.out.1
                      have HB7 := Lib.hid (HBX.out hb7)
                      clear hb7 hr0
                      go_wp2_with fail
                      go_roundw
                      case rel => exact ⟨x + 1, i, rfl, by go_num, by omega, by omega, hi100, HI2.out, HB7.out⟩
                      case measure => simp [RowKit.intOf]; omega
                    · go_wp2_with fail
                      refine HN.out.mono ?_
                      rintro e w7 ⟨rfl, hb7⟩
                      have hr7 : w7.cell? ⟨r, 0, none⟩ = some (.slice la L.length lc) := (hb7.cell (p := ⟨r, 0, none⟩) HC.out.2).trans HC.out.1
                      have HB7 := Lib.hid (HBX.out hb7)
                      clear hb7 hr0
                      go_wp2_with fail
                      go_roundw
                      case rel => exact ⟨x + 1, i, rfl, by go_num, by omega, by omega, hi100, HI2.out, HB7.out⟩
                      case measure => simp [RowKit.intOf]; omega
                · obtain rfl : x = (L.length : Int) + 2 := by omega
                  have hlz : ¬ (L.length : Int) + 2 ≤ (L.length : Int) + 1 := by omega
                  have HIL : Hid (ins L = i) := by
                    have := HH.out.1
                    rw [List.take_of_length_le (by omega)] at this
                    exact this.symm
                  have hI := Inputs_any hLw.rep (by omega)
                  rw [HG.out.1, HIL.out] at hI
                  have HI := Lib.hid hI
                  have HLL := Lib.hid hLw.below
                  have HLW := Lib.hid hLw
                  clear hI hLw hRw HH
                  go_wp2_with fail
                  refine HI.out.mono ?_
                  rintro e w7 ⟨ra, rc, rfl, hb7⟩
                  have HB7 := Lib.hid (HLL.out.trans (hb7.mono HLL.out.size))
                  clear hb7
                  have hii : ((i : Int) == (i : Int)) = true := by simp
                  go_wp2_with fail
                  go_ret
                  exact ⟨rfl, HB7.out⟩
          · have k1 : ¬ (k : Int) < (n : Int) := by omega
            go_wp2_with fail
            have HLR : Hid (∃ a c, lv = .slice a L.length c) := by
              obtain ⟨a, c, e, _⟩ := (HV.out wr HBW.out).2.1.form
              exact ⟨a, c, e⟩
            obtain ⟨la, lc, rfl⟩ := HLR.out
            clear HLR
            have hL40 : L.length ≤ 40 := HG.out.2.1
            have HBS := Lib.hid HBW.out
            go_loopw [16, 17, 18, 19, 20, 21] (fun iv nv _ _ _ _ wr' => ∃ (x : Int) (i : Nat), iv = .int .i64 (i : Int) ∧ nv = .int .i64 x ∧ -1 ≤ x ∧ x ≤ (L.length : Int) + 2 ∧ i ≤ 100 ∧ Hid (i = ins (L.take (x - 1).toNat) ∧ Below w6.heap.size w6 wr')) (fun _ nv _ _ _ _ _ => ((L.length : Int) + 3 - (RowKit.intOf nv)).toNat)
            case atStart => exact ⟨-1, 0, rfl, rfl, by omega, by omega, by omega, rfl, HBS.out⟩
            case round =>
              obtain ⟨x, i, rfl, rfl, hx1, hx2, hi100, HH⟩ := hrel
              obtain ⟨hLw, hRw, _⟩ := HV.out _ HH.out.2
              have hr0 := hRw.c0
              by_cases hlast : x ≤ (L.length : Int) + 1
              · have hN := Node_any hLw.rep hLw.wf x (by omega) (by omega)
                rw [HG.out.1] at hN
                have HN := Lib.hid hN
                have hrlt := hRw.lt r (Or.inl rfl)
                have HBX : Hid (∀ {w7 : World}, Below wr.heap.size wr w7 → Below w6.heap.size w6 w7) := fun hb => HH.out.2.trans (hb.mono HH.out.2.size)
                have HR := Lib.hid (And.intro hRw hrlt)
                by_cases hin : 1 ≤ x ∧ x ≤ (L.length : Int)
                · obtain ⟨k, hk⟩ : ∃ k : Nat, x = (k : Int) + 1 := ⟨(x - 1).toNat, by omega⟩
                  subst hk
                  have hkl : k < L.length := by omega
                  obtain ⟨d, hd⟩ : ∃ d, L[k]? = some d := ⟨L[k], List.getElem?_eq_getElem hkl⟩
                  have HT : Hid (ins (L.take (k + 1)) = ins (L.take k) + if d.isNone then 1 else 0) := ins_take hd
                  have HI1 : Hid (i = ins (L.take k)) := by have := HH.out.1; rwa [show ((k : Int) + 1 - 1).toNat = k by omega] at this
                  have hnd : ndI L ((k : Int) + 1) = d := by
                    unfold ndI
                    rw [if_pos (by omega), show ((k : Int) + 1).toNat = k + 1 by omega, nd_succ, hd]; rfl
                  rw [hnd] at HN
                  obtain ⟨g, c', e', hc0, hc1, hc2⟩ := hRw.node hd
                  have hglt := hRw.lt g (Or.inr (by rw [e']; rfl))
                  cases e'
                  have HC := Lib.hid (And.intro hc0 (And.intro hc1 (And.intro hc2 (And.intro hglt (And.intro hr0 hrlt)))))
                  have k0 : (0 : Int) ≤ (k : Int) := by omega
                  have k1 : (k : Int) < (L.length : Int) := by omega
                  have k2 : (k : Int) + 1 ≤ (L.length : Int) := by omega
                  have k3 : (1 : Int) ≤ (k : Int) + 1 := by omega
                  have k40 : k ≤ 40 := by omega
                  clear hnd hd hin hLw hRw hc1 hc2 hglt HH hrlt
                  cases d with
                  | none =>
                    rw [show lo (none : Nd) = 0 from rfl, show Gr.hi (none : Nd) = 0 from rfl] at HN
                    have HI2 : Hid (ins (L.take (k + 1)) = i + 1) := by rw [Hid, HT.out, HI1.out]; rfl
                    clear hc0
                    go_wp2_with fail
                    refine HN.out.mono ?_
                    rintro e w7 ⟨rfl, hb7⟩
                    have hr7 : w7.cell? ⟨r, 0, none⟩ = some (.slice (some ⟨g, 0, none⟩) L.length lc) := (hb7.cell (p := ⟨r, 0, none⟩) HC.out.2.2.2.2.2).trans HC.out.2.2.2.2.1
                    have hg7 : w7.cell? ⟨g, k * 3, none⟩ = some (.bool true) := (hb7.cell (p := ⟨g, k * 3, none⟩) HC.out.2.2.2.1).trans HC.out.1
                    have HB7 := Lib.hid (HBX.out hb7)
                    clear hb7 hr0
                    go_wp2_with fail
                    go_roundw
                    case rel => exact ⟨(k : Int) + 1 + 1, i + 1, by go_num, by go_num, by omega, by omega, (by
                      have h1 := HI2.out
                      have h2 : ins (L.take (k + 1)) ≤ (L.take (k + 1)).length := List.countP_le_length
                      rw [List.length_take] at h2
                      omega), by rw [show ((k : Int) + 1 + 1 - 1).toNat = k + 1 by omega]; exact HI2.out.symm, HB7.out⟩
                    case measure => simp [RowKit.intOf]; omega
                  | some p =>
                    have HI2 : Hid (ins (L.take (k + 1)) = i) := by rw [Hid, HT.out, HI1.out]; rfl
                    obtain ⟨pa, pb⟩ := p
                    clear hc0
                    have v1 : ((pa : Int) != (pa : Int)) = false := by simp
                    have v2 : ((pb : Int) != (pb : Int)) = false := by simp
                    go_wp2_with fail
                    refine HN.out.mono ?_
                    rintro e w7 ⟨rfl, hb7⟩
                    have hr7 : w7.cell? ⟨r, 0, none⟩ = some (.slice (some ⟨g, 0, none⟩) L.length lc) := (hb7.cell (p := ⟨r, 0, none⟩) HC.out.2.2.2.2.2).trans HC.out.2.2.2.2.1
                    have hg7 : w7.cell? ⟨g, k * 3, none⟩ = some (.bool false) := (hb7.cell (p := ⟨g, k * 3, none⟩) HC.out.2.2.2.1).trans HC.out.1
                    have hg8 : w7.cell? ⟨g, k * 3 + 1, none⟩ = some (.int .i64 (pa : Int)) := (hb7.cell (p := ⟨g, k * 3 + 1, none⟩) HC.out.2.2.2.1).trans HC.out.2.1
                    have hg9 : w7.cell? ⟨g, k * 3 + 2, none⟩ = some (.int .i64 (pb : Int)) := (hb7.cell (p := ⟨g, k * 3 + 2, none⟩) HC.out.2.2.2.1).trans HC.out.2.2.1
                    have HB7 := Lib.hid (HBX.out hb7)
                    clear hb7 hr0
                    go_wp2_with fail
                    go_roundw
                    case rel => exact ⟨(k : Int) + 1 + 1, i, rfl, by go_num, by omega, by omega, hi100, by rw [show ((k : Int) + 1 + 1 - 1).toNat = k + 1 by omega]; exact HI2.out.symm, HB7.out⟩
                    case measure => simp [RowKit.intOf]; omega
                · have hnd : ndI L x = none := by
                    unfold ndI
                    split
                    · rename_i hq
                      rw [show x.toNat = 0 by omega]; rfl
                    · rfl
                  rw [hnd, show lo (none : Nd) = 0 from rfl, show Gr.hi (none : Nd) = 0 from rfl] at HN
                  have HI2 : Hid (i = ins (L.take (x + 1 - 1).toNat)) := by
                    have := HH.out.1
                    rw [Hid, this]
                    rcases Int.lt_or_le x 1 with q | q
                    · rw [show (x - 1).toNat = 0 by omega, show (x + 1 - 1).toNat = 0 by omega]
                    · rw [List.take_of_length_le (by omega), List.take_of_length_le (by omega)]
                  have hgu : (1 ≤ x ∧ ¬ x ≤ (L.length : Int)) ∨ ¬ 1 ≤ x := by omega
                  clear hnd hin hLw hRw hrlt HH
                  have HC := Lib.hid (And.intro hr0 HR.out.2)
                  rcases hgu with ⟨g1, g2⟩ | g1
                  · go_wp2_with fail
                    refine HN.out.mono ?_
                    rintro e w7 ⟨rfl, hb7⟩
                    have hr7 : w7.cell? ⟨r, 0, none⟩ = some (.slice la L.length lc) := (hb7.cell (p := ⟨r, 0, none⟩) HC.out.2).trans HC.out.1
                    have HB7 := Lib.hid (HBX.out hb7)
                    clear hb7 hr0
                    go_wp2_with fail
                    go_roundw
                    case rel => exact ⟨x + 1, i, rfl, by go_num, by omega, by omega, hi100, HI2.out, HB7.out⟩
                    case measure => simp [RowKit.intOf]; omega
                  · go_wp2_with fail
                    refine HN.out.mono ?_
                    rintro e w7 ⟨rfl, hb7⟩
                    have hr7 : w7.cell? ⟨r, 0, none⟩ = some (.slice la L.length lc) := (hb7.cell (p := ⟨r, 0, none⟩) HC.out.2).trans HC.out.1
                    have HB7 := Lib.hid (HBX.out hb7)
                    clear hb7 hr0
                    go_wp2_with fail
                    go_roundw
                    case rel => exact ⟨x + 1, i, rfl, by go_num, by omega, by omega, hi100, HI2.out, HB7.out⟩
                    case measure => simp [RowKit.intOf]; omega
              · obtain rfl : x = (L.length : Int) + 2 := by omega
                have hlz : ¬ (L.length : Int) + 2 ≤ (L.length : Int) + 1 := by omega
                have HIL : Hid (ins L = i) := by
                  have := HH.out.1
                  rw [List.take_of_length_le (by omega)] at this
                  exact this.symm
                have hI := Inputs_any hLw.rep (by omega)
                rw [HG.out.1, HIL.out] at hI
                have HI := Lib.hid hI
                have HLL := Lib.hid hLw.below
                have HLW := Lib.hid hLw
                clear hI hLw hRw HH
                go_wp2_with fail
                refine HI.out.mono ?_
                rintro e w7 ⟨ra, rc, rfl, hb7⟩
                have HB7 := Lib.hid (HLL.out.trans (hb7.mono HLL.out.size))
                clear hb7
                have hii : ((i : Int) == (i : Int)) = true := by simp
                go_wp2_with fail
                go_ret
                exact ⟨rfl, HB7.out⟩
end Go.Proofs.Ythnbocgippjhgaa.Gr
