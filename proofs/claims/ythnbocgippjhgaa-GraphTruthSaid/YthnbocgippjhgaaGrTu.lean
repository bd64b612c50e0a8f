/- The law GraphTruth as a contract. -/
import Derived.Test.YthnbocgippjhgaaGrMany
import Derived.Test.YthnbocgippjhgaaGrOnce
import Derived.Test.YthnbocgippjhgaaGrRg
namespace Go.Proofs.Ythnbocgippjhgaa.Gr
open Go Go.RowKit Go.Lib Go.Maps

/-- Where the law stands: a list of edges of the graph. -/
def TruthI (W : World) (h i : Nat) (v : Value) (w : World) : Prop :=
  ∃ (G : Loc) (L : List Nd) (es : List Nat), G.h = h ∧ Law W w G L ∧ EsS W w G v es ∧ es.length = i + 4 ∧ L.length ≤ 3 + 3 * i ∧ ∀ j, j < es.length → es.getD j 0 < 2 * (L.length + 1)

set_option maxRecDepth 100000 in
set_option maxHeartbeats 20000000 in
theorem GraphTruth_law (a : Option Addr) (m c : Nat) (K : Nat → ActV) (ma : Option Addr) (mn mc : Nat) (M : Nat → Bool) (W : World) (hp : ArgA W a m K) (hP : ∀ j, j < m → (K j).a ≤ 9223372036854775807 ∧ (K j).b ≤ 9223372036854775807 ∧ (K j).c ≤ 9223372036854775807) (hn9 : m ≤ 9223372036854775807) (hm : ArgV (fun j => .bool (M j)) W ma mn) (hm9 : mn ≤ 9223372036854775807) :
    Calls Try.prog 4 #[.slice a m c, .slice ma mn mc] W fun e w' => e = .returned (.bool true) ∧ Below W.heap.size W w' := by
  have HAW := Lib.hid awake_any
  by_cases hbig : (30 : Int) < (m : Int) ∨ (40 : Int) < (mn : Int)
  · have HB : Hid (∀ (v : Bool), True) := fun _ => trivial
    by_cases h1 : (30 : Int) < (m : Int)
    all_goals
      have h2 : ¬ (30 : Int) < (m : Int) → (40 : Int) < (mn : Int) := fun q => hbig.resolve_left q
      try have h3 := h2 h1
      clear hbig h2 hp hm hP HB
      go_enter Try.func4, Try.ntmps4
      go_wp2_with fail
      refine (HAW.out W).mono ?_
      rintro e w1 ⟨rfl, hb1⟩
      have HB1 := Lib.hid hb1
      clear hb1
      go_wp2_with fail
      refine (HAW.out w1).mono ?_
      rintro e w2 ⟨rfl, hb2⟩
      have HB2 := Lib.hid (HB1.out.trans (hb2.mono HB1.out.size))
      clear hb2
      go_wp2_with fail
      go_ret
      exact ⟨rfl, HB2.out⟩
  · have h1 : ¬ (30 : Int) < (m : Int) := fun q => hbig (Or.inl q)
    have h2 : ¬ (40 : Int) < (mn : Int) := fun q => hbig (Or.inr q)
    have HA := Lib.hid (And.intro hp (And.intro hP hm))
    have hm30 : m ≤ 30 := by omega
    have hmn40 : mn ≤ 40 := by omega
    clear hbig hp hm hP
    go_enter Try.func4, Try.ntmps4
    go_wp2_with fail
    refine (HAW.out W).mono ?_
    rintro e w1 ⟨rfl, hb1⟩
    have HB1 := Lib.hid hb1
    have HN := Lib.hid (New_any w1)
    clear hb1
    go_wp2_with fail
    refine HN.out.mono ?_
    rintro e w2 ⟨G, rfl, r1, r2, r3⟩
    have HL : Hid (Law W w2 G []) := ⟨r1, Wf.nil, HB1.out.trans (r2.mono HB1.out.size), fun k hk => Nat.le_trans HB1.out.size (r3 k hk)⟩
    have HI := Lib.hid (Input_any r1 (by decide))
    clear r1 r2 r3 HN
    go_wp2_with fail
    refine HI.out.mono ?_
    intro e w3 hop
    obtain ⟨rfl, G2, g2, s1, s2⟩ := hop.thenE
    have HL2 : Hid (Law W w3 G2 [none]) := HL.out.op s1 s2 Wf.nil.input
    have HI2 : Hid (Calls Try.prog 8 #[.pointer (some ⟨G.h, 0, none⟩)] w3 (OpE w3 G2 (4, [none, none]))) := by rw [← g2]; exact Input_any s1 (by decide)
    clear s1 s2 hop HI HL
    go_wp2_with fail
    refine HI2.out.mono ?_
    intro e w4 hop
    obtain ⟨rfl, G3, g3, s1, s2⟩ := hop.thenE
    have HL3 : Hid (Law W w4 G3 [none, none]) := HL2.out.op s1 s2 HL2.out.wf.input
    have HI3 : Hid (Calls Try.prog 8 #[.pointer (some ⟨G.h, 0, none⟩)] w4 (OpE w4 G3 (6, [none, none, none]))) := by rw [← g2, ← g3]; exact Input_any s1 (by decide)
    clear s1 s2 hop HI2 HL2
    go_wp2_with fail
    refine HI3.out.mono ?_
    intro e w5 hop
    obtain ⟨rfl, G4, g4, s1, s2⟩ := hop.thenE
    have HL4 : Hid (Law W w5 G4 L3) := HL3.out.op s1 s2 HL3.out.wf.input
    have HG : Hid (G4.h = G.h) := by rw [Hid, g4, g3, g2]
    clear s1 s2 hop HI3 HL3 g2 g3 g4
    have START : Hid (TruthI W G.h 0 (.slice (some ⟨w5.heap.size, 0, none⟩) 4 4) (w5.alloc (.cells #[.int .i64 0, .int .i64 2, .int .i64 4, .int .i64 6] 3))) := by
      refine ⟨G4, L3, [0, 2, 4, 6], HG.out, HL4.out.after ((Below.refl _ _).alloc (Nat.le_refl _) _), ⟨⟨rfl, Or.inr ⟨w5.heap.size, 4, _, rfl, HL4.out.below.size, heap_alloc_new w5 _, Nat.le_refl _, by decide, rfl, rfl⟩⟩, fun k hk q => ?_⟩, rfl, by decide, fun j hj => ?_⟩
      · have : w5.heap.size = k := by simpa [Value.ownBlock] using hk
        have := HL4.out.rep.lt _ q
        omega
      · have hj4 : j < 4 := hj
        match j, hj4 with | 0, _ => decide | 1, _ => decide | 2, _ => decide | 3, _ => decide
    go_wp2_with fail
    go_loopw [6, 7] (fun ev iv wr => ∃ i : Nat, iv = .int .i64 (i : Int) ∧ i ≤ m ∧ Hid (TruthI W G.h i ev wr)) (fun _ iv _ => m - (intOf iv).toNat)
    case atStart => exact ⟨0, rfl, Nat.zero_le _, START⟩
    case round =>
      obtain ⟨i, rfl, hi, HH⟩ := hrel
      by_cases hlt : i < m
      · obtain ⟨G1, L, es, hg1, hL1, hE1, hesl, hLl, hown⟩ := HH.out
        obtain ⟨b, off, rfl, hb, hc⟩ := (HA.out.1).resolve_left (by omega)
        have hiz : (i : Int) < (m : Int) := by omega
        have i0 : (0 : Int) ≤ (i : Int) := by omega
        have hck : ∀ j v, W.cell? ⟨b, j, none⟩ = some v → wr.cell? ⟨b, j, none⟩ = some v := fun j v h => (hL1.below.cell (p := ⟨b, j, none⟩) hb).trans h
        have hxk : wr.cell? ⟨b, off + i * 4, none⟩ = some (.int .i64 (K i).k) := hck _ _ (hc i hlt).1
        have hxa : wr.cell? ⟨b, off + i * 4 + 1, none⟩ = some (.int .i64 (K i).a) := hck _ _ (hc i hlt).2.1
        have hxb : wr.cell? ⟨b, off + i * 4 + 2, none⟩ = some (.int .i64 (K i).b) := hck _ _ (hc i hlt).2.2.1
        have hxc : wr.cell? ⟨b, off + i * 4 + 3, none⟩ = some (.int .i64 (K i).c) := hck _ _ (hc i hlt).2.2.2
        have mx1 := nat0_eq (K i).a
        have mx2 := nat0_eq (K i).b
        have mx3 := nat0_eq (K i).c
        have p1 := nat0_le (HA.out.2.1 i hlt).1
        have p2 := nat0_le (HA.out.2.1 i hlt).2.1
        have p3 := nat0_le (HA.out.2.1 i hlt).2.2
        obtain ⟨ea, ec, rfl, hec, _, hEA⟩ := hE1.arg
        have hed : ∀ w2, ArgI w2 ea es.length (fun j => (es.getD j 0 : Int)) → ∀ k : Nat, (k : Int) ≤ 9223372036854775807 → Calls Try.prog 7 #[.slice ea es.length ec, .int .i64 (k : Int)] w2 fun e w' => e = .returned (.int .i64 (edgeF (fun j => es.getD j 0) es.length k : Int)) ∧ w2 = w' := fun w2 h k hk => edge_any w2 ea es.length ec (fun j => es.getD j 0) h (by omega) (by omega) (fun j hj => by have := hown j hj; omega) k hk
        have hba : Below wr.heap.size wr (wr.alloc (.cells #[.int .i64 (K i).k, .int .i64 (K i).a, .int .i64 (K i).b, .int .i64 (K i).c] 33)) := (Below.refl _ _).alloc (Nat.le_refl _) _
        have HED : Hid (∀ q (k : Nat), (k : Int) ≤ 9223372036854775807 → Calls Try.prog 7 #[.slice ea es.length ec, .int .i64 (k : Int)] ((wr.alloc (.cells #[.int .i64 (K i).k, .int .i64 (K i).a, .int .i64 (K i).b, .int .i64 (K i).c] 33)).drewN q) fun e w' => e = .returned (.int .i64 (edgeF (fun j => es.getD j 0) es.length k : Int)) ∧ ((wr.alloc (.cells #[.int .i64 (K i).k, .int .i64 (K i).a, .int .i64 (K i).b, .int .i64 (K i).c] 33)).drewN q) = w') := fun q k hk => hed ((wr.alloc (.cells #[.int .i64 (K i).k, .int .i64 (K i).a, .int .i64 (K i).b, .int .i64 (K i).c] 33)).drewN q) (ArgV.below (w := wr.alloc (.cells #[.int .i64 (K i).k, .int .i64 (K i).a, .int .i64 (K i).b, .int .i64 (K i).c] 33)) (hEA.below hba) ⟨rfl, rfl, rfl, Nat.le_refl _, fun _ _ => rfl⟩) k hk
        have ho1 : edgeF (fun j => es.getD j 0) es.length (nat0 (K i).a) < 2 * (L.length + 1) := edgeF_lt (by omega) hown
        have ho2 : edgeF (fun j => es.getD j 0) es.length (nat0 (K i).b) < 2 * (L.length + 1) := edgeF_lt (by omega) hown
        have ho3 : edgeF (fun j => es.getD j 0) es.length (nat0 (K i).c) < 2 * (L.length + 1) := edgeF_lt (by omega) hown
        have HLW : Hid (∀ q, Law W ((wr.alloc (.cells #[.int .i64 (K i).k, .int .i64 (K i).a, .int .i64 (K i).b, .int .i64 (K i).c] 33)).drewN q) G1 L ∧ EsS W ((wr.alloc (.cells #[.int .i64 (K i).k, .int .i64 (K i).a, .int .i64 (K i).b, .int .i64 (K i).c] 33)).drewN q) G1 (.slice ea es.length ec) es) := fun q =>
          have hq : Below wr.heap.size wr ((wr.alloc (.cells #[.int .i64 (K i).k, .int .i64 (K i).a, .int .i64 (K i).b, .int .i64 (K i).c] 33)).drewN q) := hba.trans ⟨rfl, rfl, rfl, Nat.le_refl _, fun _ _ => rfl⟩
          ⟨hL1.after hq, hE1.after hq⟩
        have HX : Hid ((wr.alloc (.cells #[.int .i64 (K i).k, .int .i64 (K i).a, .int .i64 (K i).b, .int .i64 (K i).c] 33)).heap[wr.heap.size]? = some (.cells #[.int .i64 (K i).k, .int .i64 (K i).a, .int .i64 (K i).b, .int .i64 (K i).c] 33 (0, 0)) ∧ wr.heap.size < (wr.alloc (.cells #[.int .i64 (K i).k, .int .i64 (K i).a, .int .i64 (K i).b, .int .i64 (K i).c] 33)).heap.size) := ⟨heap_alloc_new wr _, by simp⟩
        have HES : Hid (es.length = i + 4 ∧ L.length ≤ 3 + 3 * i ∧ ∀ j, j < es.length → es.getD j 0 < 2 * (L.length + 1)) := ⟨hesl, hLl, hown⟩
        have HLL : Hid (L.length ≤ 100 ∧ es.length ≤ 100) := ⟨by omega, by omega⟩
        obtain ⟨ii, hi, hz0, hz1, hz2⟩ := info_parts infoInt
        obtain ⟨n, hn⟩ : ∃ n, n = es.length := ⟨_, rfl⟩
        have HN0 := Lib.hid hn
        have hn100 : n ≤ 100 := by rw [hn]; exact HLL.out.2
        rw [← hn] at HED HLW
        rw [← hn]
        have HG1 := Lib.hid hg1
        obtain ⟨x, hx⟩ : ∃ x, x = edgeF (fun j => es.getD j 0) n (nat0 (K i).a) := ⟨_, rfl⟩
        obtain ⟨y, hy⟩ : ∃ y, y = edgeF (fun j => es.getD j 0) n (nat0 (K i).b) := ⟨_, rfl⟩
        obtain ⟨z, hz⟩ : ∃ z, z = edgeF (fun j => es.getD j 0) n (nat0 (K i).c) := ⟨_, rfl⟩
        rw [← hn, ← hx] at ho1
        rw [← hn, ← hy] at ho2
        rw [← hn, ← hz] at ho3
        have HE1 := Lib.hid (fun q => HED.out q (nat0 (K i).a) p1)
        have HE2 := Lib.hid (fun q => HED.out q (nat0 (K i).b) p2)
        have HE3 := Lib.hid (fun q => HED.out q (nat0 (K i).c) p3)
        rw [← hx] at HE1
        rw [← hy] at HE2
        rw [← hz] at HE3
        have HOW : Hid (x < 2 * (L.length + 1) ∧ y < 2 * (L.length + 1) ∧ z < 2 * (L.length + 1) ∧ ∀ e ∈ [x, y, z], e < 2 * (L.length + 1)) := ⟨ho1, ho2, ho3, fun e he => by
          simp only [List.mem_cons, List.not_mem_nil, or_false] at he
          rcases he with rfl | rfl | rfl
          · exact ho1
          · exact ho2
          · exact ho3⟩
        clear HH hL1 hE1 hesl hLl hown hb hc hck hec hEA hed hba ho1 ho2 ho3 HED hg1 hx hy hz hn START
        generalize nat0 (K i).a = na at *
        generalize nat0 (K i).b = nb0 at *
        generalize nat0 (K i).c = nc at *
        generalize (K i).a = za at *
        generalize (K i).b = zb at *
        generalize (K i).c = zc at *
        generalize (K i).k = kk at *
        have d1 : (wr.alloc (.cells #[.int .i64 kk, .int .i64 za, .int .i64 zb, .int .i64 zc] 33)).cell? ⟨wr.heap.size, 1, none⟩ = some (.int .i64 za) := by simp only [World.cell?, HX.out.1]; rfl
        have d2 : (wr.alloc (.cells #[.int .i64 kk, .int .i64 za, .int .i64 zb, .int .i64 zc] 33)).cell? ⟨wr.heap.size, 2, none⟩ = some (.int .i64 zb) := by simp only [World.cell?, HX.out.1]; rfl
        have d3 : (wr.alloc (.cells #[.int .i64 kk, .int .i64 za, .int .i64 zb, .int .i64 zc] 33)).cell? ⟨wr.heap.size, 3, none⟩ = some (.int .i64 zc) := by simp only [World.cell?, HX.out.1]; rfl
        go_wp2_with fail
        go_quiet (first | (go_at_call_of 7 (Value.int .i64 (na : Int)); exact quiet_same (HE1.out _)) | (go_at_call_of 7 (Value.int .i64 (nb0 : Int)); exact quiet_same (HE2.out _)) | (go_at_call_of 7 (Value.int .i64 (nc : Int)); exact quiet_same (HE3.out _)))
        obtain ⟨hL2, hE2⟩ := HLW.out nq
        have hX2 : ((wr.alloc (.cells #[.int .i64 kk, .int .i64 za, .int .i64 zb, .int .i64 zc] 33)).drewN nq).heap[wr.heap.size]? = some (.cells #[.int .i64 kk, .int .i64 za, .int .i64 zb, .int .i64 zc] 33 (0, 0)) ∧ wr.heap.size < ((wr.alloc (.cells #[.int .i64 kk, .int .i64 za, .int .i64 zb, .int .i64 zc] 33)).drewN nq).heap.size := HX.out
        clear HLW HX HE1 HE2 HE3 d1 d2 d3 hxk hxa hxb hxc mx1 mx2 mx3 p1 p2 p3
        generalize (wr.alloc (.cells #[.int .i64 kk, .int .i64 za, .int .i64 zb, .int .i64 zc] 33)).drewN nq = W2 at *
        generalize wr.heap.size = H8 at *
        have hba : Below W2.heap.size W2 (W2.alloc (.cells #[.int .i64 (x : Int), .int .i64 (y : Int), .int .i64 (z : Int)] 3)) := (Below.refl _ _).alloc (Nat.le_refl _) _
        have hL3 := hL2.after hba
        have hA3 : ArgI (W2.alloc (.cells #[.int .i64 (x : Int), .int .i64 (y : Int), .int .i64 (z : Int)] 3)) (some ⟨W2.heap.size, 0, none⟩) 3 (fun j => (([x, y, z].getD j 0 : Nat) : Int)) := by
          refine Or.inr ⟨W2.heap.size, 0, rfl, by simp, fun j hj => ?_⟩
          rw [Nat.zero_add]
          simp only [World.cell?, heap_alloc_new]
          match j, hj with | 0, _ => rfl | 1, _ => rfl | 2, _ => rfl
        have hEV := Eval_any hL3.rep hL3.wf ma mn mc M (HA.out.2.2.below hL3.below) (by omega) (some ⟨W2.heap.size, 0, none⟩) 3 3 _ hA3 (by omega) (fun j hj => by
          have h := HOW.out; have h2 := HLL.out
          match j, hj with
          | 0, _ => show ((x : Nat) : Int) ≤ _; omega
          | 1, _ => show ((y : Nat) : Int) ≤ _; omega
          | 2, _ => show ((z : Nat) : Int) ≤ _; omega) (by have := HLL.out; omega)
        rw [HG1.out] at hEV
        have HEV := Lib.hid hEV
        have HP2 := Lib.hid (And.intro hL2 (And.intro hE2 (And.intro hX2 hba)))
        clear hL2 hE2 hX2 hL3 hA3 hEV hba
        go_wp2_with fail
        refine HEV.out.mono ?_
        rintro e w6 ⟨vb, rfl, hvb, hrow, hb6⟩
        have HB6 : Hid (Below W2.heap.size W2 w6) := HP2.out.2.2.2.trans (hb6.mono (by simp))
        have HL6 : Hid (Law W w6 G1 L ∧ EsS W w6 G1 (.slice ea n ec) es ∧ G1.h = G.h) := ⟨HP2.out.1.after HB6.out, HP2.out.2.1.after HB6.out, HG1.out⟩
        have d0 : w6.cell? ⟨H8, 0, none⟩ = some (.int .i64 kk) := by
          refine (HB6.out.cell (p := ⟨H8, 0, none⟩) HP2.out.2.2.1.2).trans ?_
          simp only [World.cell?, HP2.out.2.2.1.1]; rfl
        obtain ⟨v0, hv0⟩ : ∃ v, v = val (mdl M mn) L x := ⟨_, rfl⟩
        obtain ⟨v1, hv1⟩ : ∃ v, v = val (mdl M mn) L y := ⟨_, rfl⟩
        obtain ⟨v2, hv2⟩ : ∃ v, v = val (mdl M mn) L z := ⟨_, rfl⟩
        have HV := Lib.hid (And.intro hv0 (And.intro hv1 hv2))
        have HSC : Hid (∀ w7 G7, Fr G1 w6 w7 G7 → w7.cell? ⟨vb, 0, none⟩ = some (.bool v0) ∧ w7.cell? ⟨vb, 1, none⟩ = some (.bool v1) ∧ w7.cell? ⟨vb, 2, none⟩ = some (.bool v2)) := fun w7 G7 hf => by
          have hvs := hrow.lt
          have hng : ¬ G1.has vb := fun q => by
            have h1 := HP2.out.1.rep.lt _ q
            have h2 : (W2.alloc (.cells #[.int .i64 (x : Int), .int .i64 (y : Int), .int .i64 (z : Int)] 3)).heap.size ≤ vb := hvb
            simp at h2
            omega
          have hk : ∀ j, w7.cell? ⟨vb, j, none⟩ = w6.cell? ⟨vb, j, none⟩ := fun j => World.cell?_of_block (a := ⟨vb, j, none⟩) (hf.block _ hvs hng)
          refine ⟨?_, ?_, ?_⟩
          · rw [hk, hrow.cell (i := 0) (by omega), hv0]
            show some (Value.bool (val (mdl M mn) L (own L ((x : Nat) : Int)))) = _
            rw [own_nat HOW.out.1]
          · rw [hk, hrow.cell (i := 1) (by omega), hv1]
            show some (Value.bool (val (mdl M mn) L (own L ((y : Nat) : Int)))) = _
            rw [own_nat HOW.out.2.1]
          · rw [hk, hrow.cell (i := 2) (by omega), hv2]
            show some (Value.bool (val (mdl M mn) L (own L ((z : Nat) : Int)))) = _
            rw [own_nat HOW.out.2.2.1]
        have hA6 : ArgI (w6.drew.alloc (.cells #[.int .i64 (x : Int), .int .i64 (y : Int), .int .i64 (z : Int)] 3)) (some ⟨w6.heap.size, 0, none⟩) 3 (fun j => (([x, y, z].getD j 0 : Nat) : Int)) := by
          refine Or.inr ⟨w6.heap.size, 0, rfl, by simp, fun j hj => ?_⟩
          rw [Nat.zero_add]
          have hh : (w6.drew.alloc (.cells #[.int .i64 (x : Int), .int .i64 (y : Int), .int .i64 (z : Int)] 3)).heap[w6.heap.size]? = some (.cells #[.int .i64 (x : Int), .int .i64 (y : Int), .int .i64 (z : Int)] 3 (0, 0)) := heap_alloc_new w6.drew _
          simp only [World.cell?, hh]
          match j, hj with | 0, _ => rfl | 1, _ => rfl | 2, _ => rfl
        have hel : edgesN L (fun j => (([x, y, z].getD j 0 : Nat) : Int)) 3 = [x, y, z] := edgesN_list (zs := [x, y, z]) HOW.out.2.2.2
        have hz3 : ∀ j, j < 3 → (([x, y, z].getD j 0 : Nat) : Int) ≤ 9223372036854775807 := fun j hj => by
          have h := HOW.out; have h2 := HLL.out
          match j, hj with
          | 0, _ => show ((x : Nat) : Int) ≤ _; omega
          | 1, _ => show ((y : Nat) : Int) ≤ _; omega
          | 2, _ => show ((z : Nat) : Int) ≤ _; omega
        have hll := HLL.out
        have how := HOW.out
        have h0c := All_any (HL6.out.1.rep.drew.alloc (.cells #[.int .i64 (x : Int), .int .i64 (y : Int), .int .i64 (z : Int)] 3)) HL6.out.1.wf (some ⟨w6.heap.size, 0, none⟩) 3 3 _ hA6 (by omega) hz3 (by omega)
        have h5c := Any_any (HL6.out.1.rep.drew.alloc (.cells #[.int .i64 (x : Int), .int .i64 (y : Int), .int .i64 (z : Int)] 3)) HL6.out.1.wf (some ⟨w6.heap.size, 0, none⟩) 3 3 _ hA6 (by omega) hz3 (by omega)
        have h1c := And_any HL6.out.1.rep.drew (x : Int) (y : Int) (by omega) (by omega) (by omega)
        have h2c := Or_any HL6.out.1.rep.drew HL6.out.1.wf (x : Int) (y : Int) (by omega) (by omega) (by omega)
        rw [own_nat how.1, own_nat how.2.1] at h1c h2c
        have h3c := Xor_any HL6.out.1.rep.drew HL6.out.1.wf x y how.1 how.2.1 (by omega)
        have h4c := Mux_any HL6.out.1.rep.drew HL6.out.1.wf z x y how.2.2.1 how.1 how.2.1 (by omega)
        rw [hel] at h0c h5c
        rw [HG1.out] at h0c h1c h2c h3c h4c h5c
        have HC0 := Lib.hid h0c
        have HC1 := Lib.hid h1c
        have HC2 := Lib.hid h2c
        have HC3 := Lib.hid h3c
        have HC4 := Lib.hid h4c
        have HC5 := Lib.hid h5c
        clear hvb hrow hb6 HEV HP2 HB6 hv0 hv1 hv2 hA6 hel hz3 hll how h0c h1c h2c h3c h4c h5c
        by_cases kk0 : kk = 0
        · subst kk0
          cases v0 with
          | false =>
            as_aux_lemma =>
              have HANS := Lib.hid (allE_ans HL6.out.1.wf [x, y, z] HOW.out.2.2.2)
              have HWT : Hid (val (mdl M mn) (allE L [x, y, z]).2 (allE L [x, y, z]).1 = false) := by
                have hv0 := HV.out.1
                have hv1 := HV.out.2.1
                have hv2 := HV.out.2.2
                show val (mdl M mn) (allE L [x, y, z]).2 (allE L [x, y, z]).1 = false
                rw [HANS.out.val]
                simp [← hv0, ← hv1, ← hv2]
              generalize hr : allE L [x, y, z] = r at *
              clear hr
              go_wp2_with fail
              refine wp_region_H (S := (fun w' => w'.cell? ⟨vb, 0, none⟩ = some (.bool false) ∧ w'.cell? ⟨vb, 1, none⟩ = some (.bool v1) ∧ w'.cell? ⟨vb, 2, none⟩ = some (.bool v2))) 21 (by kernel_rfl) ((HSC.out _ G1 (Fr.drew _ _))) (fun hSx => ?_)
              refine wpAnyH_takeB (i := 0) (v := ?vyL1_0) rfl (by kernel_rfl) (fun _ _ _ h => h) rfl ?yL1_0 hSx ?_
              case yL1_0 => (intro w' hSw; (try dsimp only at hSw); go_split_ands; go_simp; try with_reducible rfl)
              try simp only [Act.put, List.getElem_toArray, List.getElem_cons_succ, List.getElem_cons_zero, List.setIfInBounds_toArray, List.set_cons_zero, List.set_cons_succ]
              refine wpAnyH_takeB (i := 1) (v := ?vyL1_1) rfl (by kernel_rfl) (fun _ _ _ h => h) rfl ?yL1_1 hSx ?_
              case yL1_1 => (intro w' hSw; (try dsimp only at hSw); go_split_ands; go_simp; try with_reducible rfl)
              try simp only [Act.put, List.getElem_toArray, List.getElem_cons_succ, List.getElem_cons_zero, List.setIfInBounds_toArray, List.set_cons_zero, List.set_cons_succ]
              refine wpAnyH_takeB (i := 2) (v := ?vyL1_2) rfl (by kernel_rfl) (fun _ _ _ h => h) rfl ?yL1_2 hSx ?_
              case yL1_2 => (intro w' hSw; (try dsimp only at hSw); go_split_ands; go_simp; try with_reducible rfl)
              try simp only [Act.put, List.getElem_toArray, List.getElem_cons_succ, List.getElem_cons_zero, List.setIfInBounds_toArray, List.set_cons_zero, List.set_cons_succ]
              refine wpAnyH_takeB (i := 3) (v := ?vyL1_3) rfl (by kernel_rfl) (fun _ _ _ h => h) rfl ?yL1_3 hSx ?_
              case yL1_3 => (intro w' hSw; (try dsimp only at hSw); go_split_ands; go_simp; try with_reducible rfl)
              try simp only [Act.put, List.getElem_toArray, List.getElem_cons_succ, List.getElem_cons_zero, List.setIfInBounds_toArray, List.set_cons_zero, List.set_cons_succ]
              refine wpAnyH_takeB (i := 6) (v := ?vyL1_6) rfl (by kernel_rfl) (fun _ _ _ h => h) rfl ?yL1_6 hSx ?_
              case yL1_6 => (intro w' hSw; (try dsimp only at hSw); go_split_ands; go_simp; try with_reducible rfl)
              try simp only [Act.put, List.getElem_toArray, List.getElem_cons_succ, List.getElem_cons_zero, List.setIfInBounds_toArray, List.set_cons_zero, List.set_cons_succ]
              refine wpAnyH_takeB (i := 7) (v := ?vyL1_7) rfl (by kernel_rfl) (fun _ _ _ h => h) rfl ?yL1_7 hSx ?_
              case yL1_7 => (intro w' hSw; (try dsimp only at hSw); go_split_ands; go_simp; try with_reducible rfl)
              try simp only [Act.put, List.getElem_toArray, List.getElem_cons_succ, List.getElem_cons_zero, List.setIfInBounds_toArray, List.set_cons_zero, List.set_cons_succ]
              refine wpAnyH_takeB (i := 8) (v := ?vyL1_8) rfl (by kernel_rfl) (fun _ _ _ h => h) rfl ?yL1_8 hSx ?_
              case yL1_8 => (intro w' hSw; (try dsimp only at hSw); go_split_ands; go_simp; try with_reducible rfl)
              try simp only [Act.put, List.getElem_toArray, List.getElem_cons_succ, List.getElem_cons_zero, List.setIfInBounds_toArray, List.set_cons_zero, List.set_cons_succ]
              refine' wpAnyH_one (i := 4) ?taeL1_4 ?tbeL1_4 ?tceL1_4 ?tdeL1_4
              case tbeL1_4 => rfl
              case taeL1_4 => kernel_rfl
              case tceL1_4 => rfl
              intro K hK
              go_simp
              refine hK.out _ _ (HSC.out _ G1 ((Fr.drew _ _).trans (Fr.alloc _ _ _))) (fun hSx => ?_)
              clear hK K
              try simp only [Act.put, List.getElem_toArray, List.getElem_cons_succ, List.getElem_cons_zero, List.setIfInBounds_toArray, List.set_cons_zero, List.set_cons_succ]
              refine' wpAnyH_one (i := 5) ?taeL1_5 ?tbeL1_5 ?tceL1_5 ?tdeL1_5
              case tbeL1_5 => rfl
              case taeL1_5 => kernel_rfl
              case tceL1_5 => rfl
              intro K hK
              go_simp
              refine HC0.out.mono ?_
              intro e w7 hop
              have HOP := Lib.hid (hop.pre' ((Fr.drew G1 w6).trans (Fr.alloc _ _ _)))
              obtain ⟨rfl, _⟩ := hop.thenE
              clear hop
              try dsimp only
              refine hK.out _ _ (by obtain ⟨_, G7, _, s2⟩ := HOP.out; exact HSC.out w7 G7 s2) (fun hSx => ?_)
              clear hK K
              try simp only [Act.put, List.getElem_toArray, List.getElem_cons_succ, List.getElem_cons_zero, List.setIfInBounds_toArray, List.set_cons_zero, List.set_cons_succ]
              refine wpAnyH_takeB (i := 9) (v := ?vyL1_9) rfl (by kernel_rfl) (fun _ _ _ h => h) rfl ?yL1_9 hSx ?_
              case yL1_9 => (intro w' hSw; (try dsimp only at hSw); go_split_ands; go_simp; try with_reducible rfl)
              try simp only [Act.put, List.getElem_toArray, List.getElem_cons_succ, List.getElem_cons_zero, List.setIfInBounds_toArray, List.set_cons_zero, List.set_cons_succ]
              first | (refine wpAnyH_takeB (i := 10) (v := ?vyL1_10) rfl (by kernel_rfl) (fun _ _ _ h => h) rfl ?yL1_10 hSx ?_; case yL1_10 => (intro w' hSw; (try dsimp only at hSw); go_split_ands; go_simp; try with_reducible rfl)) | (refine wpAnyH_skipB (i := 10) rfl (by kernel_rfl) (fun _ _ _ h => h) rfl hSx ?_)
              try simp only [Act.put, List.getElem_toArray, List.getElem_cons_succ, List.getElem_cons_zero, List.setIfInBounds_toArray, List.set_cons_zero, List.set_cons_succ]
              first | (refine wpAnyH_takeB (i := 11) (v := ?vyL1_11) rfl (by kernel_rfl) (fun _ _ _ h => h) rfl ?yL1_11 hSx ?_; case yL1_11 => (intro w' hSw; (try dsimp only at hSw); go_split_ands; go_simp; try with_reducible rfl)) | (refine wpAnyH_skipB (i := 11) rfl (by kernel_rfl) (fun _ _ _ h => h) rfl hSx ?_)
              try simp only [Act.put, List.getElem_toArray, List.getElem_cons_succ, List.getElem_cons_zero, List.setIfInBounds_toArray, List.set_cons_zero, List.set_cons_succ]
              first | (refine wpAnyH_takeB (i := 12) (v := ?vyL1_12) rfl (by kernel_rfl) (fun _ _ _ h => h) rfl ?yL1_12 hSx ?_; case yL1_12 => (intro w' hSw; (try dsimp only at hSw); go_split_ands; go_simp; try with_reducible rfl)) | (refine wpAnyH_skipB (i := 12) rfl (by kernel_rfl) (fun _ _ _ h => h) rfl hSx ?_)
              try simp only [Act.put, List.getElem_toArray, List.getElem_cons_succ, List.getElem_cons_zero, List.setIfInBounds_toArray, List.set_cons_zero, List.set_cons_succ]
              refine wpAnyH_takeB (i := 13) (v := ?vyL1_13) rfl (by kernel_rfl) (fun _ _ _ h => h) rfl ?yL1_13 hSx ?_
              case yL1_13 => (intro w' hSw; (try dsimp only at hSw); go_split_ands; go_simp; try with_reducible rfl)
              try simp only [Act.put, List.getElem_toArray, List.getElem_cons_succ, List.getElem_cons_zero, List.setIfInBounds_toArray, List.set_cons_zero, List.set_cons_succ]
              refine wpAnyH_takeB (i := 14) (v := ?vyL1_14) rfl (by kernel_rfl) (fun _ _ _ h => h) rfl ?yL1_14 hSx ?_
              case yL1_14 => (intro w' hSw; (try dsimp only at hSw); go_split_ands; go_simp; try with_reducible rfl)
              try simp only [Act.put, List.getElem_toArray, List.getElem_cons_succ, List.getElem_cons_zero, List.setIfInBounds_toArray, List.set_cons_zero, List.set_cons_succ]
              first | (refine wpAnyH_takeB (i := 15) (v := ?vyL1_15) rfl (by kernel_rfl) (fun _ _ _ h => h) rfl ?yL1_15 hSx ?_; case yL1_15 => (intro w' hSw; (try dsimp only at hSw); go_split_ands; go_simp; try with_reducible rfl)) | (refine wpAnyH_skipB (i := 15) rfl (by kernel_rfl) (fun _ _ _ h => h) rfl hSx ?_)
              try simp only [Act.put, List.getElem_toArray, List.getElem_cons_succ, List.getElem_cons_zero, List.setIfInBounds_toArray, List.set_cons_zero, List.set_cons_succ]
              first | (refine wpAnyH_takeB (i := 16) (v := ?vyL1_16) rfl (by kernel_rfl) (fun _ _ _ h => h) rfl ?yL1_16 hSx ?_; case yL1_16 => (intro w' hSw; (try dsimp only at hSw); go_split_ands; go_simp; try with_reducible rfl)) | (refine wpAnyH_skipB (i := 16) rfl (by kernel_rfl) (fun _ _ _ h => h) rfl hSx ?_)
              try simp only [Act.put, List.getElem_toArray, List.getElem_cons_succ, List.getElem_cons_zero, List.setIfInBounds_toArray, List.set_cons_zero, List.set_cons_succ]
              first | (refine wpAnyH_takeB (i := 17) (v := ?vyL1_17) rfl (by kernel_rfl) (fun _ _ _ h => h) rfl ?yL1_17 hSx ?_; case yL1_17 => (intro w' hSw; (try dsimp only at hSw); go_split_ands; go_simp; try with_reducible rfl)) | (refine wpAnyH_skipB (i := 17) rfl (by kernel_rfl) (fun _ _ _ h => h) rfl hSx ?_)
              try simp only [Act.put, List.getElem_toArray, List.getElem_cons_succ, List.getElem_cons_zero, List.setIfInBounds_toArray, List.set_cons_zero, List.set_cons_succ]
              refine wpAnyH_takeB (i := 18) (v := ?vyL1_18) rfl (by kernel_rfl) (fun _ _ _ h => h) rfl ?yL1_18 hSx ?_
              case yL1_18 => (intro w' hSw; (try dsimp only at hSw); go_split_ands; go_simp; try with_reducible rfl)
              try simp only [Act.put, List.getElem_toArray, List.getElem_cons_succ, List.getElem_cons_zero, List.setIfInBounds_toArray, List.set_cons_zero, List.set_cons_succ]
              refine wpAnyH_takeB (i := 19) (v := ?vyL1_19) rfl (by kernel_rfl) (fun _ _ _ h => h) rfl ?yL1_19 hSx ?_
              case yL1_19 => (intro w' hSw; (try dsimp only at hSw); go_split_ands; go_simp; try with_reducible rfl)
              try simp only [Act.put, List.getElem_toArray, List.getElem_cons_succ, List.getElem_cons_zero, List.setIfInBounds_toArray, List.set_cons_zero, List.set_cons_succ]
              refine wpAnyH_takeB (i := 20) (v := ?vyL1_20) rfl (by kernel_rfl) (fun _ _ _ h => h) rfl ?yL1_20 hSx ?_
              case yL1_20 => (intro w' hSw; (try dsimp only at hSw); go_split_ands; go_simp; try with_reducible rfl)
              try simp only [Act.put, List.getElem_toArray, List.getElem_cons_succ, List.getElem_cons_zero, List.setIfInBounds_toArray, List.set_cons_zero, List.set_cons_succ]
              refine wpAnyH_done (by kernel_rfl) ?_ _
              obtain ⟨_, G7, r1, r2⟩ := HOP.out
              have HL7 : Hid (Law W w7 G7 r.2 ∧ EsS W w7 G7 (.slice ea n ec) es ∧ G7.h = G.h) := ⟨HL6.out.1.op r1 r2 HANS.out.wf, HL6.out.2.1.op r2, r2.h.trans HL6.out.2.2⟩
              have HR7 : Hid (L.length ≤ r.2.length ∧ r.2.length ≤ L.length + 3 ∧ r.1 < 2 * (r.2.length + 1)) := ⟨HANS.out.le, HANS.out.lenle, HANS.out.own⟩
              clear r1 r2 HOP
              have HNT := Lib.hid (Not_any r.1 w7 (by have := HR7.out; have := HLL.out; omega))
              have HL8 := Lib.hid (HL7.out.1.after (w' := w7.alloc (.cells #[.int .i64 (r.1 : Int), .int .i64 (neg r.1 : Int)] 3)) ((Below.refl _ _).alloc (Nat.le_refl _) _))
              have hA2 : ArgI (w7.alloc (.cells #[.int .i64 (r.1 : Int), .int .i64 (neg r.1 : Int)] 3)) (some ⟨w7.heap.size, 0, none⟩) 2 (fun j => (([r.1, neg r.1].getD j 0 : Nat) : Int)) := by
                refine Or.inr ⟨w7.heap.size, 0, rfl, by simp, fun j hj => ?_⟩
                rw [Nat.zero_add]
                simp only [World.cell?, heap_alloc_new]
                match j, hj with | 0, _ => rfl | 1, _ => rfl
              have hEV2 := Eval_any HL8.out.rep HL8.out.wf ma mn mc M (HA.out.2.2.below HL8.out.below) (by omega) (some ⟨w7.heap.size, 0, none⟩) 2 2 _ hA2 (by omega) (fun j hj => by
                have h := HR7.out; have h2 := HLL.out; have h3 := neg_lt h.2.2
                match j, hj with
                | 0, _ => show ((r.1 : Nat) : Int) ≤ _; omega
                | 1, _ => show ((neg r.1 : Nat) : Int) ≤ _; omega) (by have := HR7.out; have := HLL.out; omega)
              rw [HL7.out.2.2] at hEV2
              have HEV2 := Lib.hid hEV2
              clear hA2 hEV2
              go_wp2_with fail
              refine HNT.out.mono ?_
              rintro e w' ⟨rfl, rfl⟩
              go_wp2_with fail
              refine HEV2.out.mono ?_
              rintro e w8 ⟨vb2, rfl, hvb2, hrow2, hb8⟩
              have f0 : w8.cell? ⟨vb2, 0, none⟩ = some (.bool false) := by
                rw [hrow2.cell (i := 0) (by omega)]
                show some (Value.bool (val (mdl M mn) r.2 (own r.2 ((r.1 : Nat) : Int)))) = _
                rw [own_nat HR7.out.2.2, HWT.out]
              have f1 : w8.cell? ⟨vb2, 1, none⟩ = some (.bool true) := by
                rw [hrow2.cell (i := 1) (by omega)]
                show some (Value.bool (val (mdl M mn) r.2 (own r.2 ((neg r.1 : Nat) : Int)))) = _
                rw [own_nat (neg_lt HR7.out.2.2), val_neg, HWT.out]; rfl
              have HB8 : Hid (Below w7.heap.size w7 w8) := ((Below.refl _ _).alloc (Nat.le_refl _) _ : Below w7.heap.size w7 (w7.alloc (.cells #[.int .i64 (r.1 : Int), .int .i64 (neg r.1 : Int)] 3))).trans (hb8.mono (by simp))
              have HO8 : Hid (w8.ownsRow W.heap.size 3 1 (.slice ea n ec) n (es.map encN)) := by have := (HL7.out.2.1.after HB8.out).1; rw [← HN0.out] at this; exact this
              have hbs8 : W.heap.size ≤ w8.heap.size := Nat.le_trans HL7.out.1.below.size HB8.out.size
              clear hvb2 hrow2 hb8 HEV2 HSC
              go_wp2_with (at_builtin; refine wpList_append_lies _ rfl _ _ 31 rfl W.heap.size 3 ii _ 1 8 Try.underlying31 hi hz0 hz1 hz2 rfl (by decide) _ _ _ rfl (HO8.out.alloc _) ⟨w8.heap.size, 0, none⟩ 1 1 [.int .i64 (r.1 : Int)] rfl rfl (World.news_of_block (cs := #[.int .i64 (r.1 : Int)]) (t := 3) (fr := (0, 0)) (heap_alloc_new w8 _)) (by simp [Value.oneCell']) (by decide) (by unfold maxLen; omega) (by omega) (by simp; omega) (w8.heap.size + 1) (by simp) ?_; intro g cap w9 hown9 hgrow9 hat9 hlt9; refine Hid.out ?_)
              refine Lib.hid ?_
              have HEND : Hid (TruthI W G.h (i + 1) (.slice (some ⟨g, 0, none⟩) (n + 1) cap) w9) := by
                have hp := (HL7.out.2.1.after HB8.out).push (e := r.1) (HL7.out.1.after HB8.out) (.cells #[.int .i64 (r.1 : Int)] 3) hgrow9 hat9 (by rw [← HN0.out]; exact hown9)
                obtain ⟨G9, g9, k1, k2⟩ := hp
                rw [← HN0.out] at k2
                refine ⟨G9, r.2, es ++ [r.1], g9.trans HL7.out.2.2, k1, k2, by rw [List.length_append, HES.out.1]; rfl, by have := HR7.out; have := HES.out.2.1; omega, fun j hj => ?_⟩
                rw [getD_snoc]
                split
                · rename_i e; have := HES.out.2.2 j e; have := HR7.out; omega
                · split
                  · exact HR7.out.2.2
                  · have := HR7.out; omega
              clear hown9 hgrow9 hat9 hlt9
              go_wp2_with fail
              go_roundw
              case rel => exact ⟨i + 1, by go_num, by omega, HEND⟩
              case measure => simp [intOf]; omega
          | true =>
            cases v1 with
            | false =>
              as_aux_lemma =>
                have HANS := Lib.hid (allE_ans HL6.out.1.wf [x, y, z] HOW.out.2.2.2)
                have HWT : Hid (val (mdl M mn) (allE L [x, y, z]).2 (allE L [x, y, z]).1 = false) := by
                  have hv0 := HV.out.1
                  have hv1 := HV.out.2.1
                  have hv2 := HV.out.2.2
                  show val (mdl M mn) (allE L [x, y, z]).2 (allE L [x, y, z]).1 = false
                  rw [HANS.out.val]
                  simp [← hv0, ← hv1, ← hv2]
                generalize hr : allE L [x, y, z] = r at *
                clear hr
                go_wp2_with fail
                refine wp_region_H (S := (fun w' => w'.cell? ⟨vb, 0, none⟩ = some (.bool true) ∧ w'.cell? ⟨vb, 1, none⟩ = some (.bool false) ∧ w'.cell? ⟨vb, 2, none⟩ = some (.bool v2))) 21 (by kernel_rfl) ((HSC.out _ G1 (Fr.drew _ _))) (fun hSx => ?_)
                refine wpAnyH_takeB (i := 0) (v := ?vyL2_0) rfl (by kernel_rfl) (fun _ _ _ h => h) rfl ?yL2_0 hSx ?_
                case yL2_0 => (intro w' hSw; (try dsimp only at hSw); go_split_ands; go_simp; try with_reducible rfl)
                try simp only [Act.put, List.getElem_toArray, List.getElem_cons_succ, List.getElem_cons_zero, List.setIfInBounds_toArray, List.set_cons_zero, List.set_cons_succ]
                refine wpAnyH_takeB (i := 1) (v := ?vyL2_1) rfl (by kernel_rfl) (fun _ _ _ h => h) rfl ?yL2_1 hSx ?_
                case yL2_1 => (intro w' hSw; (try dsimp only at hSw); go_split_ands; go_simp; try with_reducible rfl)
                try simp only [Act.put, List.getElem_toArray, List.getElem_cons_succ, List.getElem_cons_zero, List.setIfInBounds_toArray, List.set_cons_zero, List.set_cons_succ]
                refine wpAnyH_takeB (i := 2) (v := ?vyL2_2) rfl (by kernel_rfl) (fun _ _ _ h => h) rfl ?yL2_2 hSx ?_
                case yL2_2 => (intro w' hSw; (try dsimp only at hSw); go_split_ands; go_simp; try with_reducible rfl)
                try simp only [Act.put, List.getElem_toArray, List.getElem_cons_succ, List.getElem_cons_zero, List.setIfInBounds_toArray, List.set_cons_zero, List.set_cons_succ]
                refine wpAnyH_takeB (i := 3) (v := ?vyL2_3) rfl (by kernel_rfl) (fun _ _ _ h => h) rfl ?yL2_3 hSx ?_
                case yL2_3 => (intro w' hSw; (try dsimp only at hSw); go_split_ands; go_simp; try with_reducible rfl)
                try simp only [Act.put, List.getElem_toArray, List.getElem_cons_succ, List.getElem_cons_zero, List.setIfInBounds_toArray, List.set_cons_zero, List.set_cons_succ]
                refine wpAnyH_takeB (i := 6) (v := ?vyL2_6) rfl (by kernel_rfl) (fun _ _ _ h => h) rfl ?yL2_6 hSx ?_
                case yL2_6 => (intro w' hSw; (try dsimp only at hSw); go_split_ands; go_simp; try with_reducible rfl)
                try simp only [Act.put, List.getElem_toArray, List.getElem_cons_succ, List.getElem_cons_zero, List.setIfInBounds_toArray, List.set_cons_zero, List.set_cons_succ]
                refine wpAnyH_takeB (i := 7) (v := ?vyL2_7) rfl (by kernel_rfl) (fun _ _ _ h => h) rfl ?yL2_7 hSx ?_
                case yL2_7 => (intro w' hSw; (try dsimp only at hSw); go_split_ands; go_simp; try with_reducible rfl)
                try simp only [Act.put, List.getElem_toArray, List.getElem_cons_succ, List.getElem_cons_zero, List.setIfInBounds_toArray, List.set_cons_zero, List.set_cons_succ]
                refine wpAnyH_takeB (i := 8) (v := ?vyL2_8) rfl (by kernel_rfl) (fun _ _ _ h => h) rfl ?yL2_8 hSx ?_
                case yL2_8 => (intro w' hSw; (try dsimp only at hSw); go_split_ands; go_simp; try with_reducible rfl)
                try simp only [Act.put, List.getElem_toArray, List.getElem_cons_succ, List.getElem_cons_zero, List.setIfInBounds_toArray, List.set_cons_zero, List.set_cons_succ]
                refine' wpAnyH_one (i := 4) ?taeL2_4 ?tbeL2_4 ?tceL2_4 ?tdeL2_4
                case tbeL2_4 => rfl
                case taeL2_4 => kernel_rfl
                case tceL2_4 => rfl
                intro K hK
                go_simp
                refine hK.out _ _ (HSC.out _ G1 ((Fr.drew _ _).trans (Fr.alloc _ _ _))) (fun hSx => ?_)
                clear hK K
                try simp only [Act.put, List.getElem_toArray, List.getElem_cons_succ, List.getElem_cons_zero, List.setIfInBounds_toArray, List.set_cons_zero, List.set_cons_succ]
                refine' wpAnyH_one (i := 5) ?taeL2_5 ?tbeL2_5 ?tceL2_5 ?tdeL2_5
                case tbeL2_5 => rfl
                case taeL2_5 => kernel_rfl
                case tceL2_5 => rfl
                intro K hK
                go_simp
                refine HC0.out.mono ?_
                intro e w7 hop
                have HOP := Lib.hid (hop.pre' ((Fr.drew G1 w6).trans (Fr.alloc _ _ _)))
                obtain ⟨rfl, _⟩ := hop.thenE
                clear hop
                try dsimp only
                refine hK.out _ _ (by obtain ⟨_, G7, _, s2⟩ := HOP.out; exact HSC.out w7 G7 s2) (fun hSx => ?_)
                clear hK K
                try simp only [Act.put, List.getElem_toArray, List.getElem_cons_succ, List.getElem_cons_zero, List.setIfInBounds_toArray, List.set_cons_zero, List.set_cons_succ]
                refine wpAnyH_takeB (i := 9) (v := ?vyL2_9) rfl (by kernel_rfl) (fun _ _ _ h => h) rfl ?yL2_9 hSx ?_
                case yL2_9 => (intro w' hSw; (try dsimp only at hSw); go_split_ands; go_simp; try with_reducible rfl)
                try simp only [Act.put, List.getElem_toArray, List.getElem_cons_succ, List.getElem_cons_zero, List.setIfInBounds_toArray, List.set_cons_zero, List.set_cons_succ]
                first | (refine wpAnyH_takeB (i := 10) (v := ?vyL2_10) rfl (by kernel_rfl) (fun _ _ _ h => h) rfl ?yL2_10 hSx ?_; case yL2_10 => (intro w' hSw; (try dsimp only at hSw); go_split_ands; go_simp; try with_reducible rfl)) | (refine wpAnyH_skipB (i := 10) rfl (by kernel_rfl) (fun _ _ _ h => h) rfl hSx ?_)
                try simp only [Act.put, List.getElem_toArray, List.getElem_cons_succ, List.getElem_cons_zero, List.setIfInBounds_toArray, List.set_cons_zero, List.set_cons_succ]
                first | (refine wpAnyH_takeB (i := 11) (v := ?vyL2_11) rfl (by kernel_rfl) (fun _ _ _ h => h) rfl ?yL2_11 hSx ?_; case yL2_11 => (intro w' hSw; (try dsimp only at hSw); go_split_ands; go_simp; try with_reducible rfl)) | (refine wpAnyH_skipB (i := 11) rfl (by kernel_rfl) (fun _ _ _ h => h) rfl hSx ?_)
                try simp only [Act.put, List.getElem_toArray, List.getElem_cons_succ, List.getElem_cons_zero, List.setIfInBounds_toArray, List.set_cons_zero, List.set_cons_succ]
                first | (refine wpAnyH_takeB (i := 12) (v := ?vyL2_12) rfl (by kernel_rfl) (fun _ _ _ h => h) rfl ?yL2_12 hSx ?_; case yL2_12 => (intro w' hSw; (try dsimp only at hSw); go_split_ands; go_simp; try with_reducible rfl)) | (refine wpAnyH_skipB (i := 12) rfl (by kernel_rfl) (fun _ _ _ h => h) rfl hSx ?_)
                try simp only [Act.put, List.getElem_toArray, List.getElem_cons_succ, List.getElem_cons_zero, List.setIfInBounds_toArray, List.set_cons_zero, List.set_cons_succ]
                refine wpAnyH_takeB (i := 13) (v := ?vyL2_13) rfl (by kernel_rfl) (fun _ _ _ h => h) rfl ?yL2_13 hSx ?_
                case yL2_13 => (intro w' hSw; (try dsimp only at hSw); go_split_ands; go_simp; try with_reducible rfl)
                try simp only [Act.put, List.getElem_toArray, List.getElem_cons_succ, List.getElem_cons_zero, List.setIfInBounds_toArray, List.set_cons_zero, List.set_cons_succ]
                refine wpAnyH_takeB (i := 14) (v := ?vyL2_14) rfl (by kernel_rfl) (fun _ _ _ h => h) rfl ?yL2_14 hSx ?_
                case yL2_14 => (intro w' hSw; (try dsimp only at hSw); go_split_ands; go_simp; try with_reducible rfl)
                try simp only [Act.put, List.getElem_toArray, List.getElem_cons_succ, List.getElem_cons_zero, List.setIfInBounds_toArray, List.set_cons_zero, List.set_cons_succ]
                first | (refine wpAnyH_takeB (i := 15) (v := ?vyL2_15) rfl (by kernel_rfl) (fun _ _ _ h => h) rfl ?yL2_15 hSx ?_; case yL2_15 => (intro w' hSw; (try dsimp only at hSw); go_split_ands; go_simp; try with_reducible rfl)) | (refine wpAnyH_skipB (i := 15) rfl (by kernel_rfl) (fun _ _ _ h => h) rfl hSx ?_)
                try simp only [Act.put, List.getElem_toArray, List.getElem_cons_succ, List.getElem_cons_zero, List.setIfInBounds_toArray, List.set_cons_zero, List.set_cons_succ]
                first | (refine wpAnyH_takeB (i := 16) (v := ?vyL2_16) rfl (by kernel_rfl) (fun _ _ _ h => h) rfl ?yL2_16 hSx ?_; case yL2_16 => (intro w' hSw; (try dsimp only at hSw); go_split_ands; go_simp; try with_reducible rfl)) | (refine wpAnyH_skipB (i := 16) rfl (by kernel_rfl) (fun _ _ _ h => h) rfl hSx ?_)
                try simp only [Act.put, List.getElem_toArray, List.getElem_cons_succ, List.getElem_cons_zero, List.setIfInBounds_toArray, List.set_cons_zero, List.set_cons_succ]
                first | (refine wpAnyH_takeB (i := 17) (v := ?vyL2_17) rfl (by kernel_rfl) (fun _ _ _ h => h) rfl ?yL2_17 hSx ?_; case yL2_17 => (intro w' hSw; (try dsimp only at hSw); go_split_ands; go_simp; try with_reducible rfl)) | (refine wpAnyH_skipB (i := 17) rfl (by kernel_rfl) (fun _ _ _ h => h) rfl hSx ?_)
                try simp only [Act.put, List.getElem_toArray, List.getElem_cons_succ, List.getElem_cons_zero, List.setIfInBounds_toArray, List.set_cons_zero, List.set_cons_succ]
                refine wpAnyH_takeB (i := 18) (v := ?vyL2_18) rfl (by kernel_rfl) (fun _ _ _ h => h) rfl ?yL2_18 hSx ?_
                case yL2_18 => (intro w' hSw; (try dsimp only at hSw); go_split_ands; go_simp; try with_reducible rfl)
                try simp only [Act.put, List.getElem_toArray, List.getElem_cons_succ, List.getElem_cons_zero, List.setIfInBounds_toArray, List.set_cons_zero, List.set_cons_succ]
                refine wpAnyH_takeB (i := 19) (v := ?vyL2_19) rfl (by kernel_rfl) (fun _ _ _ h => h) rfl ?yL2_19 hSx ?_
                case yL2_19 => (intro w' hSw; (try dsimp only at hSw); go_split_ands; go_simp; try with_reducible rfl)
                try simp only [Act.put, List.getElem_toArray, List.getElem_cons_succ, List.getElem_cons_zero, List.setIfInBounds_toArray, List.set_cons_zero, List.set_cons_succ]
                refine wpAnyH_takeB (i := 20) (v := ?vyL2_20) rfl (by kernel_rfl) (fun _ _ _ h => h) rfl ?yL2_20 hSx ?_
                case yL2_20 => (intro w' hSw; (try dsimp only at hSw); go_split_ands; go_simp; try with_reducible rfl)
                try simp only [Act.put, List.getElem_toArray, List.getElem_cons_succ, List.getElem_cons_zero, List.setIfInBounds_toArray, List.set_cons_zero, List.set_cons_succ]
                refine wpAnyH_done (by kernel_rfl) ?_ _
                obtain ⟨_, G7, r1, r2⟩ := HOP.out
                have HL7 : Hid (Law W w7 G7 r.2 ∧ EsS W w7 G7 (.slice ea n ec) es ∧ G7.h = G.h) := ⟨HL6.out.1.op r1 r2 HANS.out.wf, HL6.out.2.1.op r2, r2.h.trans HL6.out.2.2⟩
                have HR7 : Hid (L.length ≤ r.2.length ∧ r.2.length ≤ L.length + 3 ∧ r.1 < 2 * (r.2.length + 1)) := ⟨HANS.out.le, HANS.out.lenle, HANS.out.own⟩
                clear r1 r2 HOP
                have HNT := Lib.hid (Not_any r.1 w7 (by have := HR7.out; have := HLL.out; omega))
                have HL8 := Lib.hid (HL7.out.1.after (w' := w7.alloc (.cells #[.int .i64 (r.1 : Int), .int .i64 (neg r.1 : Int)] 3)) ((Below.refl _ _).alloc (Nat.le_refl _) _))
                have hA2 : ArgI (w7.alloc (.cells #[.int .i64 (r.1 : Int), .int .i64 (neg r.1 : Int)] 3)) (some ⟨w7.heap.size, 0, none⟩) 2 (fun j => (([r.1, neg r.1].getD j 0 : Nat) : Int)) := by
                  refine Or.inr ⟨w7.heap.size, 0, rfl, by simp, fun j hj => ?_⟩
                  rw [Nat.zero_add]
                  simp only [World.cell?, heap_alloc_new]
                  match j, hj with | 0, _ => rfl | 1, _ => rfl
                have hEV2 := Eval_any HL8.out.rep HL8.out.wf ma mn mc M (HA.out.2.2.below HL8.out.below) (by omega) (some ⟨w7.heap.size, 0, none⟩) 2 2 _ hA2 (by omega) (fun j hj => by
                  have h := HR7.out; have h2 := HLL.out; have h3 := neg_lt h.2.2
                  match j, hj with
                  | 0, _ => show ((r.1 : Nat) : Int) ≤ _; omega
                  | 1, _ => show ((neg r.1 : Nat) : Int) ≤ _; omega) (by have := HR7.out; have := HLL.out; omega)
                rw [HL7.out.2.2] at hEV2
                have HEV2 := Lib.hid hEV2
                clear hA2 hEV2
                go_wp2_with fail
                refine HNT.out.mono ?_
                rintro e w' ⟨rfl, rfl⟩
                go_wp2_with fail
                refine HEV2.out.mono ?_
                rintro e w8 ⟨vb2, rfl, hvb2, hrow2, hb8⟩
                have f0 : w8.cell? ⟨vb2, 0, none⟩ = some (.bool false) := by
                  rw [hrow2.cell (i := 0) (by omega)]
                  show some (Value.bool (val (mdl M mn) r.2 (own r.2 ((r.1 : Nat) : Int)))) = _
                  rw [own_nat HR7.out.2.2, HWT.out]
                have f1 : w8.cell? ⟨vb2, 1, none⟩ = some (.bool true) := by
                  rw [hrow2.cell (i := 1) (by omega)]
                  show some (Value.bool (val (mdl M mn) r.2 (own r.2 ((neg r.1 : Nat) : Int)))) = _
                  rw [own_nat (neg_lt HR7.out.2.2), val_neg, HWT.out]; rfl
                have HB8 : Hid (Below w7.heap.size w7 w8) := ((Below.refl _ _).alloc (Nat.le_refl _) _ : Below w7.heap.size w7 (w7.alloc (.cells #[.int .i64 (r.1 : Int), .int .i64 (neg r.1 : Int)] 3))).trans (hb8.mono (by simp))
                have HO8 : Hid (w8.ownsRow W.heap.size 3 1 (.slice ea n ec) n (es.map encN)) := by have := (HL7.out.2.1.after HB8.out).1; rw [← HN0.out] at this; exact this
                have hbs8 : W.heap.size ≤ w8.heap.size := Nat.le_trans HL7.out.1.below.size HB8.out.size
                clear hvb2 hrow2 hb8 HEV2 HSC
                go_wp2_with (at_builtin; refine wpList_append_lies _ rfl _ _ 31 rfl W.heap.size 3 ii _ 1 8 Try.underlying31 hi hz0 hz1 hz2 rfl (by decide) _ _ _ rfl (HO8.out.alloc _) ⟨w8.heap.size, 0, none⟩ 1 1 [.int .i64 (r.1 : Int)] rfl rfl (World.news_of_block (cs := #[.int .i64 (r.1 : Int)]) (t := 3) (fr := (0, 0)) (heap_alloc_new w8 _)) (by simp [Value.oneCell']) (by decide) (by unfold maxLen; omega) (by omega) (by simp; omega) (w8.heap.size + 1) (by simp) ?_; intro g cap w9 hown9 hgrow9 hat9 hlt9; refine Hid.out ?_)
                refine Lib.hid ?_
                have HEND : Hid (TruthI W G.h (i + 1) (.slice (some ⟨g, 0, none⟩) (n + 1) cap) w9) := by
                  have hp := (HL7.out.2.1.after HB8.out).push (e := r.1) (HL7.out.1.after HB8.out) (.cells #[.int .i64 (r.1 : Int)] 3) hgrow9 hat9 (by rw [← HN0.out]; exact hown9)
                  obtain ⟨G9, g9, k1, k2⟩ := hp
                  rw [← HN0.out] at k2
                  refine ⟨G9, r.2, es ++ [r.1], g9.trans HL7.out.2.2, k1, k2, by rw [List.length_append, HES.out.1]; rfl, by have := HR7.out; have := HES.out.2.1; omega, fun j hj => ?_⟩
                  rw [getD_snoc]
                  split
                  · rename_i e; have := HES.out.2.2 j e; have := HR7.out; omega
                  · split
                    · exact HR7.out.2.2
                    · have := HR7.out; omega
                clear hown9 hgrow9 hat9 hlt9
                go_wp2_with fail
                go_roundw
                case rel => exact ⟨i + 1, by go_num, by omega, HEND⟩
                case measure => simp [intOf]; omega
            | true =>
              as_aux_lemma =>
                obtain ⟨nv, hnv⟩ : ∃ nv, nv = !v2 := ⟨_, rfl⟩
                have hq1 : (nv == v2) = false := by rw [hnv]; cases v2 <;> rfl
                have HNV := Lib.hid hnv
                clear hnv
                have HANS := Lib.hid (allE_ans HL6.out.1.wf [x, y, z] HOW.out.2.2.2)
                have HWT : Hid (val (mdl M mn) (allE L [x, y, z]).2 (allE L [x, y, z]).1 = v2) := by
                  have hv0 := HV.out.1
                  have hv1 := HV.out.2.1
                  have hv2 := HV.out.2.2
                  show val (mdl M mn) (allE L [x, y, z]).2 (allE L [x, y, z]).1 = v2
                  rw [HANS.out.val]
                  simp [← hv0, ← hv1, ← hv2]
                generalize hr : allE L [x, y, z] = r at *
                clear hr
                go_wp2_with fail
                refine wp_region_H (S := (fun w' => w'.cell? ⟨vb, 0, none⟩ = some (.bool true) ∧ w'.cell? ⟨vb, 1, none⟩ = some (.bool true) ∧ w'.cell? ⟨vb, 2, none⟩ = some (.bool v2))) 21 (by kernel_rfl) ((HSC.out _ G1 (Fr.drew _ _))) (fun hSx => ?_)
                refine wpAnyH_takeB (i := 0) (v := ?vyL3_0) rfl (by kernel_rfl) (fun _ _ _ h => h) rfl ?yL3_0 hSx ?_
                case yL3_0 => (intro w' hSw; (try dsimp only at hSw); go_split_ands; go_simp; try with_reducible rfl)
                try simp only [Act.put, List.getElem_toArray, List.getElem_cons_succ, List.getElem_cons_zero, List.setIfInBounds_toArray, List.set_cons_zero, List.set_cons_succ]
                refine wpAnyH_takeB (i := 1) (v := ?vyL3_1) rfl (by kernel_rfl) (fun _ _ _ h => h) rfl ?yL3_1 hSx ?_
                case yL3_1 => (intro w' hSw; (try dsimp only at hSw); go_split_ands; go_simp; try with_reducible rfl)
                try simp only [Act.put, List.getElem_toArray, List.getElem_cons_succ, List.getElem_cons_zero, List.setIfInBounds_toArray, List.set_cons_zero, List.set_cons_succ]
                refine wpAnyH_takeB (i := 2) (v := ?vyL3_2) rfl (by kernel_rfl) (fun _ _ _ h => h) rfl ?yL3_2 hSx ?_
                case yL3_2 => (intro w' hSw; (try dsimp only at hSw); go_split_ands; go_simp; try with_reducible rfl)
                try simp only [Act.put, List.getElem_toArray, List.getElem_cons_succ, List.getElem_cons_zero, List.setIfInBounds_toArray, List.set_cons_zero, List.set_cons_succ]
                refine wpAnyH_takeB (i := 3) (v := ?vyL3_3) rfl (by kernel_rfl) (fun _ _ _ h => h) rfl ?yL3_3 hSx ?_
                case yL3_3 => (intro w' hSw; (try dsimp only at hSw); go_split_ands; go_simp; try with_reducible rfl)
                try simp only [Act.put, List.getElem_toArray, List.getElem_cons_succ, List.getElem_cons_zero, List.setIfInBounds_toArray, List.set_cons_zero, List.set_cons_succ]
                refine wpAnyH_takeB (i := 6) (v := ?vyL3_6) rfl (by kernel_rfl) (fun _ _ _ h => h) rfl ?yL3_6 hSx ?_
                case yL3_6 => (intro w' hSw; (try dsimp only at hSw); go_split_ands; go_simp; try with_reducible rfl)
                try simp only [Act.put, List.getElem_toArray, List.getElem_cons_succ, List.getElem_cons_zero, List.setIfInBounds_toArray, List.set_cons_zero, List.set_cons_succ]
                refine wpAnyH_takeB (i := 7) (v := ?vyL3_7) rfl (by kernel_rfl) (fun _ _ _ h => h) rfl ?yL3_7 hSx ?_
                case yL3_7 => (intro w' hSw; (try dsimp only at hSw); go_split_ands; go_simp; try with_reducible rfl)
                try simp only [Act.put, List.getElem_toArray, List.getElem_cons_succ, List.getElem_cons_zero, List.setIfInBounds_toArray, List.set_cons_zero, List.set_cons_succ]
                refine wpAnyH_takeB (i := 8) (v := ?vyL3_8) rfl (by kernel_rfl) (fun _ _ _ h => h) rfl ?yL3_8 hSx ?_
                case yL3_8 => (intro w' hSw; (try dsimp only at hSw); go_split_ands; go_simp; try with_reducible rfl)
                try simp only [Act.put, List.getElem_toArray, List.getElem_cons_succ, List.getElem_cons_zero, List.setIfInBounds_toArray, List.set_cons_zero, List.set_cons_succ]
                refine' wpAnyH_one (i := 4) ?taeL3_4 ?tbeL3_4 ?tceL3_4 ?tdeL3_4
                case tbeL3_4 => rfl
                case taeL3_4 => kernel_rfl
                case tceL3_4 => rfl
                intro K hK
                go_simp
                refine hK.out _ _ (HSC.out _ G1 ((Fr.drew _ _).trans (Fr.alloc _ _ _))) (fun hSx => ?_)
                clear hK K
                try simp only [Act.put, List.getElem_toArray, List.getElem_cons_succ, List.getElem_cons_zero, List.setIfInBounds_toArray, List.set_cons_zero, List.set_cons_succ]
                refine' wpAnyH_one (i := 5) ?taeL3_5 ?tbeL3_5 ?tceL3_5 ?tdeL3_5
                case tbeL3_5 => rfl
                case taeL3_5 => kernel_rfl
                case tceL3_5 => rfl
                intro K hK
                go_simp
                refine HC0.out.mono ?_
                intro e w7 hop
                have HOP := Lib.hid (hop.pre' ((Fr.drew G1 w6).trans (Fr.alloc _ _ _)))
                obtain ⟨rfl, _⟩ := hop.thenE
                clear hop
                try dsimp only
                refine hK.out _ _ (by obtain ⟨_, G7, _, s2⟩ := HOP.out; exact HSC.out w7 G7 s2) (fun hSx => ?_)
                clear hK K
                try simp only [Act.put, List.getElem_toArray, List.getElem_cons_succ, List.getElem_cons_zero, List.setIfInBounds_toArray, List.set_cons_zero, List.set_cons_succ]
                refine wpAnyH_takeB (i := 9) (v := ?vyL3_9) rfl (by kernel_rfl) (fun _ _ _ h => h) rfl ?yL3_9 hSx ?_
                case yL3_9 => (intro w' hSw; (try dsimp only at hSw); go_split_ands; go_simp; try with_reducible rfl)
                try simp only [Act.put, List.getElem_toArray, List.getElem_cons_succ, List.getElem_cons_zero, List.setIfInBounds_toArray, List.set_cons_zero, List.set_cons_succ]
                first | (refine wpAnyH_takeB (i := 10) (v := ?vyL3_10) rfl (by kernel_rfl) (fun _ _ _ h => h) rfl ?yL3_10 hSx ?_; case yL3_10 => (intro w' hSw; (try dsimp only at hSw); go_split_ands; go_simp; try with_reducible rfl)) | (refine wpAnyH_skipB (i := 10) rfl (by kernel_rfl) (fun _ _ _ h => h) rfl hSx ?_)
                try simp only [Act.put, List.getElem_toArray, List.getElem_cons_succ, List.getElem_cons_zero, List.setIfInBounds_toArray, List.set_cons_zero, List.set_cons_succ]
                first | (refine wpAnyH_takeB (i := 11) (v := ?vyL3_11) rfl (by kernel_rfl) (fun _ _ _ h => h) rfl ?yL3_11 hSx ?_; case yL3_11 => (intro w' hSw; (try dsimp only at hSw); go_split_ands; go_simp; try with_reducible rfl)) | (refine wpAnyH_skipB (i := 11) rfl (by kernel_rfl) (fun _ _ _ h => h) rfl hSx ?_)
                try simp only [Act.put, List.getElem_toArray, List.getElem_cons_succ, List.getElem_cons_zero, List.setIfInBounds_toArray, List.set_cons_zero, List.set_cons_succ]
                first | (refine wpAnyH_takeB (i := 12) (v := ?vyL3_12) rfl (by kernel_rfl) (fun _ _ _ h => h) rfl ?yL3_12 hSx ?_; case yL3_12 => (intro w' hSw; (try dsimp only at hSw); go_split_ands; go_simp; try with_reducible rfl)) | (refine wpAnyH_skipB (i := 12) rfl (by kernel_rfl) (fun _ _ _ h => h) rfl hSx ?_)
                try simp only [Act.put, List.getElem_toArray, List.getElem_cons_succ, List.getElem_cons_zero, List.setIfInBounds_toArray, List.set_cons_zero, List.set_cons_succ]
                refine wpAnyH_takeB (i := 13) (v := ?vyL3_13) rfl (by kernel_rfl) (fun _ _ _ h => h) rfl ?yL3_13 hSx ?_
                case yL3_13 => (intro w' hSw; (try dsimp only at hSw); go_split_ands; go_simp; try with_reducible rfl)
                try simp only [Act.put, List.getElem_toArray, List.getElem_cons_succ, List.getElem_cons_zero, List.setIfInBounds_toArray, List.set_cons_zero, List.set_cons_succ]
                refine wpAnyH_takeB (i := 14) (v := ?vyL3_14) rfl (by kernel_rfl) (fun _ _ _ h => h) rfl ?yL3_14 hSx ?_
                case yL3_14 => (intro w' hSw; (try dsimp only at hSw); go_split_ands; go_simp; try with_reducible rfl)
                try simp only [Act.put, List.getElem_toArray, List.getElem_cons_succ, List.getElem_cons_zero, List.setIfInBounds_toArray, List.set_cons_zero, List.set_cons_succ]
                first | (refine wpAnyH_takeB (i := 15) (v := ?vyL3_15) rfl (by kernel_rfl) (fun _ _ _ h => h) rfl ?yL3_15 hSx ?_; case yL3_15 => (intro w' hSw; (try dsimp only at hSw); go_split_ands; go_simp; try with_reducible rfl)) | (refine wpAnyH_skipB (i := 15) rfl (by kernel_rfl) (fun _ _ _ h => h) rfl hSx ?_)
                try simp only [Act.put, List.getElem_toArray, List.getElem_cons_succ, List.getElem_cons_zero, List.setIfInBounds_toArray, List.set_cons_zero, List.set_cons_succ]
                first | (refine wpAnyH_takeB (i := 16) (v := ?vyL3_16) rfl (by kernel_rfl) (fun _ _ _ h => h) rfl ?yL3_16 hSx ?_; case yL3_16 => (intro w' hSw; (try dsimp only at hSw); go_split_ands; go_simp; try with_reducible rfl)) | (refine wpAnyH_skipB (i := 16) rfl (by kernel_rfl) (fun _ _ _ h => h) rfl hSx ?_)
                try simp only [Act.put, List.getElem_toArray, List.getElem_cons_succ, List.getElem_cons_zero, List.setIfInBounds_toArray, List.set_cons_zero, List.set_cons_succ]
                first | (refine wpAnyH_takeB (i := 17) (v := ?vyL3_17) rfl (by kernel_rfl) (fun _ _ _ h => h) rfl ?yL3_17 hSx ?_; case yL3_17 => (intro w' hSw; (try dsimp only at hSw); go_split_ands; go_simp; try with_reducible rfl)) | (refine wpAnyH_skipB (i := 17) rfl (by kernel_rfl) (fun _ _ _ h => h) rfl hSx ?_)
                try simp only [Act.put, List.getElem_toArray, List.getElem_cons_succ, List.getElem_cons_zero, List.setIfInBounds_toArray, List.set_cons_zero, List.set_cons_succ]
                refine wpAnyH_takeB (i := 18) (v := ?vyL3_18) rfl (by kernel_rfl) (fun _ _ _ h => h) rfl ?yL3_18 hSx ?_
                case yL3_18 => (intro w' hSw; (try dsimp only at hSw); go_split_ands; go_simp; try with_reducible rfl)
                try simp only [Act.put, List.getElem_toArray, List.getElem_cons_succ, List.getElem_cons_zero, List.setIfInBounds_toArray, List.set_cons_zero, List.set_cons_succ]
                refine wpAnyH_takeB (i := 19) (v := ?vyL3_19) rfl (by kernel_rfl) (fun _ _ _ h => h) rfl ?yL3_19 hSx ?_
                case yL3_19 => (intro w' hSw; (try dsimp only at hSw); go_split_ands; go_simp; try with_reducible rfl)
                try simp only [Act.put, List.getElem_toArray, List.getElem_cons_succ, List.getElem_cons_zero, List.setIfInBounds_toArray, List.set_cons_zero, List.set_cons_succ]
                refine wpAnyH_takeB (i := 20) (v := ?vyL3_20) rfl (by kernel_rfl) (fun _ _ _ h => h) rfl ?yL3_20 hSx ?_
                case yL3_20 => (intro w' hSw; (try dsimp only at hSw); go_split_ands; go_simp; try with_reducible rfl)
                try simp only [Act.put, List.getElem_toArray, List.getElem_cons_succ, List.getElem_cons_zero, List.setIfInBounds_toArray, List.set_cons_zero, List.set_cons_succ]
                refine wpAnyH_done (by kernel_rfl) ?_ _
                obtain ⟨_, G7, r1, r2⟩ := HOP.out
                have HL7 : Hid (Law W w7 G7 r.2 ∧ EsS W w7 G7 (.slice ea n ec) es ∧ G7.h = G.h) := ⟨HL6.out.1.op r1 r2 HANS.out.wf, HL6.out.2.1.op r2, r2.h.trans HL6.out.2.2⟩
                have HR7 : Hid (L.length ≤ r.2.length ∧ r.2.length ≤ L.length + 3 ∧ r.1 < 2 * (r.2.length + 1)) := ⟨HANS.out.le, HANS.out.lenle, HANS.out.own⟩
                clear r1 r2 HOP
                have HNT := Lib.hid (Not_any r.1 w7 (by have := HR7.out; have := HLL.out; omega))
                have HL8 := Lib.hid (HL7.out.1.after (w' := w7.alloc (.cells #[.int .i64 (r.1 : Int), .int .i64 (neg r.1 : Int)] 3)) ((Below.refl _ _).alloc (Nat.le_refl _) _))
                have hA2 : ArgI (w7.alloc (.cells #[.int .i64 (r.1 : Int), .int .i64 (neg r.1 : Int)] 3)) (some ⟨w7.heap.size, 0, none⟩) 2 (fun j => (([r.1, neg r.1].getD j 0 : Nat) : Int)) := by
                  refine Or.inr ⟨w7.heap.size, 0, rfl, by simp, fun j hj => ?_⟩
                  rw [Nat.zero_add]
                  simp only [World.cell?, heap_alloc_new]
                  match j, hj with | 0, _ => rfl | 1, _ => rfl
                have hEV2 := Eval_any HL8.out.rep HL8.out.wf ma mn mc M (HA.out.2.2.below HL8.out.below) (by omega) (some ⟨w7.heap.size, 0, none⟩) 2 2 _ hA2 (by omega) (fun j hj => by
                  have h := HR7.out; have h2 := HLL.out; have h3 := neg_lt h.2.2
                  match j, hj with
                  | 0, _ => show ((r.1 : Nat) : Int) ≤ _; omega
                  | 1, _ => show ((neg r.1 : Nat) : Int) ≤ _; omega) (by have := HR7.out; have := HLL.out; omega)
                rw [HL7.out.2.2] at hEV2
                have HEV2 := Lib.hid hEV2
                clear hA2 hEV2
                go_wp2_with fail
                refine HNT.out.mono ?_
                rintro e w' ⟨rfl, rfl⟩
                go_wp2_with fail
                refine HEV2.out.mono ?_
                rintro e w8 ⟨vb2, rfl, hvb2, hrow2, hb8⟩
                have f0 : w8.cell? ⟨vb2, 0, none⟩ = some (.bool v2) := by
                  rw [hrow2.cell (i := 0) (by omega)]
                  show some (Value.bool (val (mdl M mn) r.2 (own r.2 ((r.1 : Nat) : Int)))) = _
                  rw [own_nat HR7.out.2.2, HWT.out]
                have f1 : w8.cell? ⟨vb2, 1, none⟩ = some (.bool nv) := by
                  rw [hrow2.cell (i := 1) (by omega)]
                  show some (Value.bool (val (mdl M mn) r.2 (own r.2 ((neg r.1 : Nat) : Int)))) = _
                  rw [own_nat (neg_lt HR7.out.2.2), val_neg, HWT.out]; rw [HNV.out]
                have HB8 : Hid (Below w7.heap.size w7 w8) := ((Below.refl _ _).alloc (Nat.le_refl _) _ : Below w7.heap.size w7 (w7.alloc (.cells #[.int .i64 (r.1 : Int), .int .i64 (neg r.1 : Int)] 3))).trans (hb8.mono (by simp))
                have HO8 : Hid (w8.ownsRow W.heap.size 3 1 (.slice ea n ec) n (es.map encN)) := by have := (HL7.out.2.1.after HB8.out).1; rw [← HN0.out] at this; exact this
                have hbs8 : W.heap.size ≤ w8.heap.size := Nat.le_trans HL7.out.1.below.size HB8.out.size
                clear hvb2 hrow2 hb8 HEV2 HSC
                go_wp2_with (at_builtin; refine wpList_append_lies _ rfl _ _ 31 rfl W.heap.size 3 ii _ 1 8 Try.underlying31 hi hz0 hz1 hz2 rfl (by decide) _ _ _ rfl (HO8.out.alloc _) ⟨w8.heap.size, 0, none⟩ 1 1 [.int .i64 (r.1 : Int)] rfl rfl (World.news_of_block (cs := #[.int .i64 (r.1 : Int)]) (t := 3) (fr := (0, 0)) (heap_alloc_new w8 _)) (by simp [Value.oneCell']) (by decide) (by unfold maxLen; omega) (by omega) (by simp; omega) (w8.heap.size + 1) (by simp) ?_; intro g cap w9 hown9 hgrow9 hat9 hlt9; refine Hid.out ?_)
                refine Lib.hid ?_
                have HEND : Hid (TruthI W G.h (i + 1) (.slice (some ⟨g, 0, none⟩) (n + 1) cap) w9) := by
                  have hp := (HL7.out.2.1.after HB8.out).push (e := r.1) (HL7.out.1.after HB8.out) (.cells #[.int .i64 (r.1 : Int)] 3) hgrow9 hat9 (by rw [← HN0.out]; exact hown9)
                  obtain ⟨G9, g9, k1, k2⟩ := hp
                  rw [← HN0.out] at k2
                  refine ⟨G9, r.2, es ++ [r.1], g9.trans HL7.out.2.2, k1, k2, by rw [List.length_append, HES.out.1]; rfl, by have := HR7.out; have := HES.out.2.1; omega, fun j hj => ?_⟩
                  rw [getD_snoc]
                  split
                  · rename_i e; have := HES.out.2.2 j e; have := HR7.out; omega
                  · split
                    · exact HR7.out.2.2
                    · have := HR7.out; omega
                clear hown9 hgrow9 hat9 hlt9
                go_wp2_with fail
                go_roundw
                case rel => exact ⟨i + 1, by go_num, by omega, HEND⟩
                case measure => simp [intOf]; omega
        · have kf0 : (kk == 0) = false := by simpa using kk0
          clear kk0
          by_cases kk1 : kk = 1
          · subst kk1
            cases v0 with
            | false =>
              as_aux_lemma =>
                have HANS := Lib.hid ((andE_ans HL6.out.1.wf HOW.out.1 HOW.out.2.1).more (k' := 3) (by omega))
                have HWT : Hid (val (mdl M mn) (andE L x y).2 (andE L x y).1 = false) := by
                  have hv0 := HV.out.1
                  have hv1 := HV.out.2.1
                  have hv2 := HV.out.2.2
                  show val (mdl M mn) (andE L x y).2 (andE L x y).1 = false
                  rw [HANS.out.val]
                  simp [← hv0, ← hv1, ← hv2]
                generalize hr : andE L x y = r at *
                clear hr
                go_wp2_with fail
                refine wp_region_H (S := (fun w' => w'.cell? ⟨vb, 0, none⟩ = some (.bool false) ∧ w'.cell? ⟨vb, 1, none⟩ = some (.bool v1) ∧ w'.cell? ⟨vb, 2, none⟩ = some (.bool v2))) 14 (by kernel_rfl) ((HSC.out _ G1 (Fr.drew _ _))) (fun hSx => ?_)
                refine wpAnyH_takeB (i := 0) (v := ?vyL4_0) rfl (by kernel_rfl) (fun _ _ _ h => h) rfl ?yL4_0 hSx ?_
                case yL4_0 => (intro w' hSw; (try dsimp only at hSw); go_split_ands; go_simp; try with_reducible rfl)
                try simp only [Act.put, List.getElem_toArray, List.getElem_cons_succ, List.getElem_cons_zero, List.setIfInBounds_toArray, List.set_cons_zero, List.set_cons_succ]
                refine wpAnyH_takeB (i := 1) (v := ?vyL4_1) rfl (by kernel_rfl) (fun _ _ _ h => h) rfl ?yL4_1 hSx ?_
                case yL4_1 => (intro w' hSw; (try dsimp only at hSw); go_split_ands; go_simp; try with_reducible rfl)
                try simp only [Act.put, List.getElem_toArray, List.getElem_cons_succ, List.getElem_cons_zero, List.setIfInBounds_toArray, List.set_cons_zero, List.set_cons_succ]
                refine wpAnyH_takeB (i := 2) (v := ?vyL4_2) rfl (by kernel_rfl) (fun _ _ _ h => h) rfl ?yL4_2 hSx ?_
                case yL4_2 => (intro w' hSw; (try dsimp only at hSw); go_split_ands; go_simp; try with_reducible rfl)
                try simp only [Act.put, List.getElem_toArray, List.getElem_cons_succ, List.getElem_cons_zero, List.setIfInBounds_toArray, List.set_cons_zero, List.set_cons_succ]
                refine wpAnyH_takeB (i := 4) (v := ?vyL4_4) rfl (by kernel_rfl) (fun _ _ _ h => h) rfl ?yL4_4 hSx ?_
                case yL4_4 => (intro w' hSw; (try dsimp only at hSw); go_split_ands; go_simp; try with_reducible rfl)
                try simp only [Act.put, List.getElem_toArray, List.getElem_cons_succ, List.getElem_cons_zero, List.setIfInBounds_toArray, List.set_cons_zero, List.set_cons_succ]
                refine wpAnyH_takeB (i := 5) (v := ?vyL4_5) rfl (by kernel_rfl) (fun _ _ _ h => h) rfl ?yL4_5 hSx ?_
                case yL4_5 => (intro w' hSw; (try dsimp only at hSw); go_split_ands; go_simp; try with_reducible rfl)
                try simp only [Act.put, List.getElem_toArray, List.getElem_cons_succ, List.getElem_cons_zero, List.setIfInBounds_toArray, List.set_cons_zero, List.set_cons_succ]
                refine wpAnyH_takeB (i := 6) (v := ?vyL4_6) rfl (by kernel_rfl) (fun _ _ _ h => h) rfl ?yL4_6 hSx ?_
                case yL4_6 => (intro w' hSw; (try dsimp only at hSw); go_split_ands; go_simp; try with_reducible rfl)
                try simp only [Act.put, List.getElem_toArray, List.getElem_cons_succ, List.getElem_cons_zero, List.setIfInBounds_toArray, List.set_cons_zero, List.set_cons_succ]
                refine' wpAnyH_one (i := 3) ?taeL4_3 ?tbeL4_3 ?tceL4_3 ?tdeL4_3
                case tbeL4_3 => rfl
                case taeL4_3 => kernel_rfl
                case tceL4_3 => rfl
                intro K hK
                go_simp
                refine HC1.out.mono ?_
                intro e w7 hop
                have HOP := Lib.hid (hop.pre' (Fr.drew G1 w6))
                obtain ⟨rfl, _⟩ := hop.thenE
                clear hop
                try dsimp only
                refine hK.out _ _ (by obtain ⟨_, G7, _, s2⟩ := HOP.out; exact HSC.out w7 G7 s2) (fun hSx => ?_)
                clear hK K
                try simp only [Act.put, List.getElem_toArray, List.getElem_cons_succ, List.getElem_cons_zero, List.setIfInBounds_toArray, List.set_cons_zero, List.set_cons_succ]
                refine wpAnyH_takeB (i := 7) (v := ?vyL4_7) rfl (by kernel_rfl) (fun _ _ _ h => h) rfl ?yL4_7 hSx ?_
                case yL4_7 => (intro w' hSw; (try dsimp only at hSw); go_split_ands; go_simp; try with_reducible rfl)
                try simp only [Act.put, List.getElem_toArray, List.getElem_cons_succ, List.getElem_cons_zero, List.setIfInBounds_toArray, List.set_cons_zero, List.set_cons_succ]
                first | (refine wpAnyH_takeB (i := 8) (v := ?vyL4_8) rfl (by kernel_rfl) (fun _ _ _ h => h) rfl ?yL4_8 hSx ?_; case yL4_8 => (intro w' hSw; (try dsimp only at hSw); go_split_ands; go_simp; try with_reducible rfl)) | (refine wpAnyH_skipB (i := 8) rfl (by kernel_rfl) (fun _ _ _ h => h) rfl hSx ?_)
                try simp only [Act.put, List.getElem_toArray, List.getElem_cons_succ, List.getElem_cons_zero, List.setIfInBounds_toArray, List.set_cons_zero, List.set_cons_succ]
                first | (refine wpAnyH_takeB (i := 9) (v := ?vyL4_9) rfl (by kernel_rfl) (fun _ _ _ h => h) rfl ?yL4_9 hSx ?_; case yL4_9 => (intro w' hSw; (try dsimp only at hSw); go_split_ands; go_simp; try with_reducible rfl)) | (refine wpAnyH_skipB (i := 9) rfl (by kernel_rfl) (fun _ _ _ h => h) rfl hSx ?_)
                try simp only [Act.put, List.getElem_toArray, List.getElem_cons_succ, List.getElem_cons_zero, List.setIfInBounds_toArray, List.set_cons_zero, List.set_cons_succ]
                first | (refine wpAnyH_takeB (i := 10) (v := ?vyL4_10) rfl (by kernel_rfl) (fun _ _ _ h => h) rfl ?yL4_10 hSx ?_; case yL4_10 => (intro w' hSw; (try dsimp only at hSw); go_split_ands; go_simp; try with_reducible rfl)) | (refine wpAnyH_skipB (i := 10) rfl (by kernel_rfl) (fun _ _ _ h => h) rfl hSx ?_)
                try simp only [Act.put, List.getElem_toArray, List.getElem_cons_succ, List.getElem_cons_zero, List.setIfInBounds_toArray, List.set_cons_zero, List.set_cons_succ]
                refine wpAnyH_takeB (i := 11) (v := ?vyL4_11) rfl (by kernel_rfl) (fun _ _ _ h => h) rfl ?yL4_11 hSx ?_
                case yL4_11 => (intro w' hSw; (try dsimp only at hSw); go_split_ands; go_simp; try with_reducible rfl)
                try simp only [Act.put, List.getElem_toArray, List.getElem_cons_succ, List.getElem_cons_zero, List.setIfInBounds_toArray, List.set_cons_zero, List.set_cons_succ]
                refine wpAnyH_takeB (i := 12) (v := ?vyL4_12) rfl (by kernel_rfl) (fun _ _ _ h => h) rfl ?yL4_12 hSx ?_
                case yL4_12 => (intro w' hSw; (try dsimp only at hSw); go_split_ands; go_simp; try with_reducible rfl)
                try simp only [Act.put, List.getElem_toArray, List.getElem_cons_succ, List.getElem_cons_zero, List.setIfInBounds_toArray, List.set_cons_zero, List.set_cons_succ]
                refine wpAnyH_takeB (i := 13) (v := ?vyL4_13) rfl (by kernel_rfl) (fun _ _ _ h => h) rfl ?yL4_13 hSx ?_
                case yL4_13 => (intro w' hSw; (try dsimp only at hSw); go_split_ands; go_simp; try with_reducible rfl)
                try simp only [Act.put, List.getElem_toArray, List.getElem_cons_succ, List.getElem_cons_zero, List.setIfInBounds_toArray, List.set_cons_zero, List.set_cons_succ]
                refine wpAnyH_done (by kernel_rfl) ?_ _
                obtain ⟨_, G7, r1, r2⟩ := HOP.out
                have HL7 : Hid (Law W w7 G7 r.2 ∧ EsS W w7 G7 (.slice ea n ec) es ∧ G7.h = G.h) := ⟨HL6.out.1.op r1 r2 HANS.out.wf, HL6.out.2.1.op r2, r2.h.trans HL6.out.2.2⟩
                have HR7 : Hid (L.length ≤ r.2.length ∧ r.2.length ≤ L.length + 3 ∧ r.1 < 2 * (r.2.length + 1)) := ⟨HANS.out.le, HANS.out.lenle, HANS.out.own⟩
                clear r1 r2 HOP
                have HNT := Lib.hid (Not_any r.1 w7 (by have := HR7.out; have := HLL.out; omega))
                have HL8 := Lib.hid (HL7.out.1.after (w' := w7.alloc (.cells #[.int .i64 (r.1 : Int), .int .i64 (neg r.1 : Int)] 3)) ((Below.refl _ _).alloc (Nat.le_refl _) _))
                have hA2 : ArgI (w7.alloc (.cells #[.int .i64 (r.1 : Int), .int .i64 (neg r.1 : Int)] 3)) (some ⟨w7.heap.size, 0, none⟩) 2 (fun j => (([r.1, neg r.1].getD j 0 : Nat) : Int)) := by
                  refine Or.inr ⟨w7.heap.size, 0, rfl, by simp, fun j hj => ?_⟩
                  rw [Nat.zero_add]
                  simp only [World.cell?, heap_alloc_new]
                  match j, hj with | 0, _ => rfl | 1, _ => rfl
                have hEV2 := Eval_any HL8.out.rep HL8.out.wf ma mn mc M (HA.out.2.2.below HL8.out.below) (by omega) (some ⟨w7.heap.size, 0, none⟩) 2 2 _ hA2 (by omega) (fun j hj => by
                  have h := HR7.out; have h2 := HLL.out; have h3 := neg_lt h.2.2
                  match j, hj with
                  | 0, _ => show ((r.1 : Nat) : Int) ≤ _; omega
                  | 1, _ => show ((neg r.1 : Nat) : Int) ≤ _; omega) (by have := HR7.out; have := HLL.out; omega)
                rw [HL7.out.2.2] at hEV2
                have HEV2 := Lib.hid hEV2
                clear hA2 hEV2
                go_wp2_with fail
                refine HNT.out.mono ?_
                rintro e w' ⟨rfl, rfl⟩
                go_wp2_with fail
                refine HEV2.out.mono ?_
                rintro e w8 ⟨vb2, rfl, hvb2, hrow2, hb8⟩
                have f0 : w8.cell? ⟨vb2, 0, none⟩ = some (.bool false) := by
                  rw [hrow2.cell (i := 0) (by omega)]
                  show some (Value.bool (val (mdl M mn) r.2 (own r.2 ((r.1 : Nat) : Int)))) = _
                  rw [own_nat HR7.out.2.2, HWT.out]
                have f1 : w8.cell? ⟨vb2, 1, none⟩ = some (.bool true) := by
                  rw [hrow2.cell (i := 1) (by omega)]
                  show some (Value.bool (val (mdl M mn) r.2 (own r.2 ((neg r.1 : Nat) : Int)))) = _
                  rw [own_nat (neg_lt HR7.out.2.2), val_neg, HWT.out]; rfl
                have HB8 : Hid (Below w7.heap.size w7 w8) := ((Below.refl _ _).alloc (Nat.le_refl _) _ : Below w7.heap.size w7 (w7.alloc (.cells #[.int .i64 (r.1 : Int), .int .i64 (neg r.1 : Int)] 3))).trans (hb8.mono (by simp))
                have HO8 : Hid (w8.ownsRow W.heap.size 3 1 (.slice ea n ec) n (es.map encN)) := by have := (HL7.out.2.1.after HB8.out).1; rw [← HN0.out] at this; exact this
                have hbs8 : W.heap.size ≤ w8.heap.size := Nat.le_trans HL7.out.1.below.size HB8.out.size
                clear hvb2 hrow2 hb8 HEV2 HSC
                go_wp2_with (at_builtin; refine wpList_append_lies _ rfl _ _ 31 rfl W.heap.size 3 ii _ 1 8 Try.underlying31 hi hz0 hz1 hz2 rfl (by decide) _ _ _ rfl (HO8.out.alloc _) ⟨w8.heap.size, 0, none⟩ 1 1 [.int .i64 (r.1 : Int)] rfl rfl (World.news_of_block (cs := #[.int .i64 (r.1 : Int)]) (t := 3) (fr := (0, 0)) (heap_alloc_new w8 _)) (by simp [Value.oneCell']) (by decide) (by unfold maxLen; omega) (by omega) (by simp; omega) (w8.heap.size + 1) (by simp) ?_; intro g cap w9 hown9 hgrow9 hat9 hlt9; refine Hid.out ?_)
                refine Lib.hid ?_
                have HEND : Hid (TruthI W G.h (i + 1) (.slice (some ⟨g, 0, none⟩) (n + 1) cap) w9) := by
                  have hp := (HL7.out.2.1.after HB8.out).push (e := r.1) (HL7.out.1.after HB8.out) (.cells #[.int .i64 (r.1 : Int)] 3) hgrow9 hat9 (by rw [← HN0.out]; exact hown9)
                  obtain ⟨G9, g9, k1, k2⟩ := hp
                  rw [← HN0.out] at k2
                  refine ⟨G9, r.2, es ++ [r.1], g9.trans HL7.out.2.2, k1, k2, by rw [List.length_append, HES.out.1]; rfl, by have := HR7.out; have := HES.out.2.1; omega, fun j hj => ?_⟩
                  rw [getD_snoc]
                  split
                  · rename_i e; have := HES.out.2.2 j e; have := HR7.out; omega
                  · split
                    · exact HR7.out.2.2
                    · have := HR7.out; omega
                clear hown9 hgrow9 hat9 hlt9
                go_wp2_with fail
                go_roundw
                case rel => exact ⟨i + 1, by go_num, by omega, HEND⟩
                case measure => simp [intOf]; omega
            | true =>
              as_aux_lemma =>
                obtain ⟨nv, hnv⟩ : ∃ nv, nv = !v1 := ⟨_, rfl⟩
                have hq1 : (nv == v1) = false := by rw [hnv]; cases v1 <;> rfl
                have HNV := Lib.hid hnv
                clear hnv
                have HANS := Lib.hid ((andE_ans HL6.out.1.wf HOW.out.1 HOW.out.2.1).more (k' := 3) (by omega))
                have HWT : Hid (val (mdl M mn) (andE L x y).2 (andE L x y).1 = v1) := by
                  have hv0 := HV.out.1
                  have hv1 := HV.out.2.1
                  have hv2 := HV.out.2.2
                  show val (mdl M mn) (andE L x y).2 (andE L x y).1 = v1
                  rw [HANS.out.val]
                  simp [← hv0, ← hv1, ← hv2]
                generalize hr : andE L x y = r at *
                clear hr
                go_wp2_with fail
                refine wp_region_H (S := (fun w' => w'.cell? ⟨vb, 0, none⟩ = some (.bool true) ∧ w'.cell? ⟨vb, 1, none⟩ = some (.bool v1) ∧ w'.cell? ⟨vb, 2, none⟩ = some (.bool v2))) 14 (by kernel_rfl) ((HSC.out _ G1 (Fr.drew _ _))) (fun hSx => ?_)
                refine wpAnyH_takeB (i := 0) (v := ?vyL5_0) rfl (by kernel_rfl) (fun _ _ _ h => h) rfl ?yL5_0 hSx ?_
                case yL5_0 => (intro w' hSw; (try dsimp only at hSw); go_split_ands; go_simp; try with_reducible rfl)
                try simp only [Act.put, List.getElem_toArray, List.getElem_cons_succ, List.getElem_cons_zero, List.setIfInBounds_toArray, List.set_cons_zero, List.set_cons_succ]
                refine wpAnyH_takeB (i := 1) (v := ?vyL5_1) rfl (by kernel_rfl) (fun _ _ _ h => h) rfl ?yL5_1 hSx ?_
                case yL5_1 => (intro w' hSw; (try dsimp only at hSw); go_split_ands; go_simp; try with_reducible rfl)
                try simp only [Act.put, List.getElem_toArray, List.getElem_cons_succ, List.getElem_cons_zero, List.setIfInBounds_toArray, List.set_cons_zero, List.set_cons_succ]
                refine wpAnyH_takeB (i := 2) (v := ?vyL5_2) rfl (by kernel_rfl) (fun _ _ _ h => h) rfl ?yL5_2 hSx ?_
                case yL5_2 => (intro w' hSw; (try dsimp only at hSw); go_split_ands; go_simp; try with_reducible rfl)
                try simp only [Act.put, List.getElem_toArray, List.getElem_cons_succ, List.getElem_cons_zero, List.setIfInBounds_toArray, List.set_cons_zero, List.set_cons_succ]
                refine wpAnyH_takeB (i := 4) (v := ?vyL5_4) rfl (by kernel_rfl) (fun _ _ _ h => h) rfl ?yL5_4 hSx ?_
                case yL5_4 => (intro w' hSw; (try dsimp only at hSw); go_split_ands; go_simp; try with_reducible rfl)
                try simp only [Act.put, List.getElem_toArray, List.getElem_cons_succ, List.getElem_cons_zero, List.setIfInBounds_toArray, List.set_cons_zero, List.set_cons_succ]
                refine wpAnyH_takeB (i := 5) (v := ?vyL5_5) rfl (by kernel_rfl) (fun _ _ _ h => h) rfl ?yL5_5 hSx ?_
                case yL5_5 => (intro w' hSw; (try dsimp only at hSw); go_split_ands; go_simp; try with_reducible rfl)
                try simp only [Act.put, List.getElem_toArray, List.getElem_cons_succ, List.getElem_cons_zero, List.setIfInBounds_toArray, List.set_cons_zero, List.set_cons_succ]
                refine wpAnyH_takeB (i := 6) (v := ?vyL5_6) rfl (by kernel_rfl) (fun _ _ _ h => h) rfl ?yL5_6 hSx ?_
                case yL5_6 => (intro w' hSw; (try dsimp only at hSw); go_split_ands; go_simp; try with_reducible rfl)
                try simp only [Act.put, List.getElem_toArray, List.getElem_cons_succ, List.getElem_cons_zero, List.setIfInBounds_toArray, List.set_cons_zero, List.set_cons_succ]
                refine' wpAnyH_one (i := 3) ?taeL5_3 ?tbeL5_3 ?tceL5_3 ?tdeL5_3
                case tbeL5_3 => rfl
                case taeL5_3 => kernel_rfl
                case tceL5_3 => rfl
                intro K hK
                go_simp
                refine HC1.out.mono ?_
                intro e w7 hop
                have HOP := Lib.hid (hop.pre' (Fr.drew G1 w6))
                obtain ⟨rfl, _⟩ := hop.thenE
                clear hop
                try dsimp only
                refine hK.out _ _ (by obtain ⟨_, G7, _, s2⟩ := HOP.out; exact HSC.out w7 G7 s2) (fun hSx => ?_)
                clear hK K
                try simp only [Act.put, List.getElem_toArray, List.getElem_cons_succ, List.getElem_cons_zero, List.setIfInBounds_toArray, List.set_cons_zero, List.set_cons_succ]
                refine wpAnyH_takeB (i := 7) (v := ?vyL5_7) rfl (by kernel_rfl) (fun _ _ _ h => h) rfl ?yL5_7 hSx ?_
                case yL5_7 => (intro w' hSw; (try dsimp only at hSw); go_split_ands; go_simp; try with_reducible rfl)
                try simp only [Act.put, List.getElem_toArray, List.getElem_cons_succ, List.getElem_cons_zero, List.setIfInBounds_toArray, List.set_cons_zero, List.set_cons_succ]
                first | (refine wpAnyH_takeB (i := 8) (v := ?vyL5_8) rfl (by kernel_rfl) (fun _ _ _ h => h) rfl ?yL5_8 hSx ?_; case yL5_8 => (intro w' hSw; (try dsimp only at hSw); go_split_ands; go_simp; try with_reducible rfl)) | (refine wpAnyH_skipB (i := 8) rfl (by kernel_rfl) (fun _ _ _ h => h) rfl hSx ?_)
                try simp only [Act.put, List.getElem_toArray, List.getElem_cons_succ, List.getElem_cons_zero, List.setIfInBounds_toArray, List.set_cons_zero, List.set_cons_succ]
                first | (refine wpAnyH_takeB (i := 9) (v := ?vyL5_9) rfl (by kernel_rfl) (fun _ _ _ h => h) rfl ?yL5_9 hSx ?_; case yL5_9 => (intro w' hSw; (try dsimp only at hSw); go_split_ands; go_simp; try with_reducible rfl)) | (refine wpAnyH_skipB (i := 9) rfl (by kernel_rfl) (fun _ _ _ h => h) rfl hSx ?_)
                try simp only [Act.put, List.getElem_toArray, List.getElem_cons_succ, List.getElem_cons_zero, List.setIfInBounds_toArray, List.set_cons_zero, List.set_cons_succ]
                first | (refine wpAnyH_takeB (i := 10) (v := ?vyL5_10) rfl (by kernel_rfl) (fun _ _ _ h => h) rfl ?yL5_10 hSx ?_; case yL5_10 => (intro w' hSw; (try dsimp only at hSw); go_split_ands; go_simp; try with_reducible rfl)) | (refine wpAnyH_skipB (i := 10) rfl (by kernel_rfl) (fun _ _ _ h => h) rfl hSx ?_)
                try simp only [Act.put, List.getElem_toArray, List.getElem_cons_succ, List.getElem_cons_zero, List.setIfInBounds_toArray, List.set_cons_zero, List.set_cons_succ]
                refine wpAnyH_takeB (i := 11) (v := ?vyL5_11) rfl (by kernel_rfl) (fun _ _ _ h => h) rfl ?yL5_11 hSx ?_
                case yL5_11 => (intro w' hSw; (try dsimp only at hSw); go_split_ands; go_simp; try with_reducible rfl)
                try simp only [Act.put, List.getElem_toArray, List.getElem_cons_succ, List.getElem_cons_zero, List.setIfInBounds_toArray, List.set_cons_zero, List.set_cons_succ]
                refine wpAnyH_takeB (i := 12) (v := ?vyL5_12) rfl (by kernel_rfl) (fun _ _ _ h => h) rfl ?yL5_12 hSx ?_
                case yL5_12 => (intro w' hSw; (try dsimp only at hSw); go_split_ands; go_simp; try with_reducible rfl)
                try simp only [Act.put, List.getElem_toArray, List.getElem_cons_succ, List.getElem_cons_zero, List.setIfInBounds_toArray, List.set_cons_zero, List.set_cons_succ]
                refine wpAnyH_takeB (i := 13) (v := ?vyL5_13) rfl (by kernel_rfl) (fun _ _ _ h => h) rfl ?yL5_13 hSx ?_
                case yL5_13 => (intro w' hSw; (try dsimp only at hSw); go_split_ands; go_simp; try with_reducible rfl)
                try simp only [Act.put, List.getElem_toArray, List.getElem_cons_succ, List.getElem_cons_zero, List.setIfInBounds_toArray, List.set_cons_zero, List.set_cons_succ]
                refine wpAnyH_done (by kernel_rfl) ?_ _
                obtain ⟨_, G7, r1, r2⟩ := HOP.out
                have HL7 : Hid (Law W w7 G7 r.2 ∧ EsS W w7 G7 (.slice ea n ec) es ∧ G7.h = G.h) := ⟨HL6.out.1.op r1 r2 HANS.out.wf, HL6.out.2.1.op r2, r2.h.trans HL6.out.2.2⟩
                have HR7 : Hid (L.length ≤ r.2.length ∧ r.2.length ≤ L.length + 3 ∧ r.1 < 2 * (r.2.length + 1)) := ⟨HANS.out.le, HANS.out.lenle, HANS.out.own⟩
                clear r1 r2 HOP
                have HNT := Lib.hid (Not_any r.1 w7 (by have := HR7.out; have := HLL.out; omega))
                have HL8 := Lib.hid (HL7.out.1.after (w' := w7.alloc (.cells #[.int .i64 (r.1 : Int), .int .i64 (neg r.1 : Int)] 3)) ((Below.refl _ _).alloc (Nat.le_refl _) _))
                have hA2 : ArgI (w7.alloc (.cells #[.int .i64 (r.1 : Int), .int .i64 (neg r.1 : Int)] 3)) (some ⟨w7.heap.size, 0, none⟩) 2 (fun j => (([r.1, neg r.1].getD j 0 : Nat) : Int)) := by
                  refine Or.inr ⟨w7.heap.size, 0, rfl, by simp, fun j hj => ?_⟩
                  rw [Nat.zero_add]
                  simp only [World.cell?, heap_alloc_new]
                  match j, hj with | 0, _ => rfl | 1, _ => rfl
                have hEV2 := Eval_any HL8.out.rep HL8.out.wf ma mn mc M (HA.out.2.2.below HL8.out.below) (by omega) (some ⟨w7.heap.size, 0, none⟩) 2 2 _ hA2 (by omega) (fun j hj => by
                  have h := HR7.out; have h2 := HLL.out; have h3 := neg_lt h.2.2
                  match j, hj with
                  | 0, _ => show ((r.1 : Nat) : Int) ≤ _; omega
                  | 1, _ => show ((neg r.1 : Nat) : Int) ≤ _; omega) (by have := HR7.out; have := HLL.out; omega)
                rw [HL7.out.2.2] at hEV2
                have HEV2 := Lib.hid hEV2
                clear hA2 hEV2
                go_wp2_with fail
                refine HNT.out.mono ?_
                rintro e w' ⟨rfl, rfl⟩
                go_wp2_with fail
                refine HEV2.out.mono ?_
                rintro e w8 ⟨vb2, rfl, hvb2, hrow2, hb8⟩
                have f0 : w8.cell? ⟨vb2, 0, none⟩ = some (.bool v1) := by
                  rw [hrow2.cell (i := 0) (by omega)]
                  show some (Value.bool (val (mdl M mn) r.2 (own r.2 ((r.1 : Nat) : Int)))) = _
                  rw [own_nat HR7.out.2.2, HWT.out]
                have f1 : w8.cell? ⟨vb2, 1, none⟩ = some (.bool nv) := by
                  rw [hrow2.cell (i := 1) (by omega)]
                  show some (Value.bool (val (mdl M mn) r.2 (own r.2 ((neg r.1 : Nat) : Int)))) = _
                  rw [own_nat (neg_lt HR7.out.2.2), val_neg, HWT.out]; rw [HNV.out]
                have HB8 : Hid (Below w7.heap.size w7 w8) := ((Below.refl _ _).alloc (Nat.le_refl _) _ : Below w7.heap.size w7 (w7.alloc (.cells #[.int .i64 (r.1 : Int), .int .i64 (neg r.1 : Int)] 3))).trans (hb8.mono (by simp))
                have HO8 : Hid (w8.ownsRow W.heap.size 3 1 (.slice ea n ec) n (es.map encN)) := by have := (HL7.out.2.1.after HB8.out).1; rw [← HN0.out] at this; exact this
                have hbs8 : W.heap.size ≤ w8.heap.size := Nat.le_trans HL7.out.1.below.size HB8.out.size
                clear hvb2 hrow2 hb8 HEV2 HSC
                go_wp2_with (at_builtin; refine wpList_append_lies _ rfl _ _ 31 rfl W.heap.size 3 ii _ 1 8 Try.underlying31 hi hz0 hz1 hz2 rfl (by decide) _ _ _ rfl (HO8.out.alloc _) ⟨w8.heap.size, 0, none⟩ 1 1 [.int .i64 (r.1 : Int)] rfl rfl (World.news_of_block (cs := #[.int .i64 (r.1 : Int)]) (t := 3) (fr := (0, 0)) (heap_alloc_new w8 _)) (by simp [Value.oneCell']) (by decide) (by unfold maxLen; omega) (by omega) (by simp; omega) (w8.heap.size + 1) (by simp) ?_; intro g cap w9 hown9 hgrow9 hat9 hlt9; refine Hid.out ?_)
                refine Lib.hid ?_
                have HEND : Hid (TruthI W G.h (i + 1) (.slice (some ⟨g, 0, none⟩) (n + 1) cap) w9) := by
                  have hp := (HL7.out.2.1.after HB8.out).push (e := r.1) (HL7.out.1.after HB8.out) (.cells #[.int .i64 (r.1 : Int)] 3) hgrow9 hat9 (by rw [← HN0.out]; exact hown9)
                  obtain ⟨G9, g9, k1, k2⟩ := hp
                  rw [← HN0.out] at k2
                  refine ⟨G9, r.2, es ++ [r.1], g9.trans HL7.out.2.2, k1, k2, by rw [List.length_append, HES.out.1]; rfl, by have := HR7.out; have := HES.out.2.1; omega, fun j hj => ?_⟩
                  rw [getD_snoc]
                  split
                  · rename_i e; have := HES.out.2.2 j e; have := HR7.out; omega
                  · split
                    · exact HR7.out.2.2
                    · have := HR7.out; omega
                clear hown9 hgrow9 hat9 hlt9
                go_wp2_with fail
                go_roundw
                case rel => exact ⟨i + 1, by go_num, by omega, HEND⟩
                case measure => simp [intOf]; omega
          · have kf1 : (kk == 1) = false := by simpa using kk1
            clear kk1
            by_cases kk2 : kk = 2
            · subst kk2
              cases v0 with
              | false =>
                as_aux_lemma =>
                  obtain ⟨nv, hnv⟩ : ∃ nv, nv = !v1 := ⟨_, rfl⟩
                  have hq1 : (nv == v1) = false := by rw [hnv]; cases v1 <;> rfl
                  have HNV := Lib.hid hnv
                  clear hnv
                  have HANS := Lib.hid ((orE_ans HL6.out.1.wf HOW.out.1 HOW.out.2.1).more (k' := 3) (by omega))
                  have HWT : Hid (val (mdl M mn) (orE L x y).2 (orE L x y).1 = v1) := by
                    have hv0 := HV.out.1
                    have hv1 := HV.out.2.1
                    have hv2 := HV.out.2.2
                    show val (mdl M mn) (orE L x y).2 (orE L x y).1 = v1
                    rw [HANS.out.val]
                    simp [← hv0, ← hv1, ← hv2]
                  generalize hr : orE L x y = r at *
                  clear hr
                  go_wp2_with fail
                  refine wp_region_H (S := (fun w' => w'.cell? ⟨vb, 0, none⟩ = some (.bool false) ∧ w'.cell? ⟨vb, 1, none⟩ = some (.bool v1) ∧ w'.cell? ⟨vb, 2, none⟩ = some (.bool v2))) 14 (by kernel_rfl) ((HSC.out _ G1 (Fr.drew _ _))) (fun hSx => ?_)
                  refine wpAnyH_takeB (i := 0) (v := ?vyL6_0) rfl (by kernel_rfl) (fun _ _ _ h => h) rfl ?yL6_0 hSx ?_
                  case yL6_0 => (intro w' hSw; (try dsimp only at hSw); go_split_ands; go_simp; try with_reducible rfl)
                  try simp only [Act.put, List.getElem_toArray, List.getElem_cons_succ, List.getElem_cons_zero, List.setIfInBounds_toArray, List.set_cons_zero, List.set_cons_succ]
                  refine wpAnyH_takeB (i := 1) (v := ?vyL6_1) rfl (by kernel_rfl) (fun _ _ _ h => h) rfl ?yL6_1 hSx ?_
                  case yL6_1 => (intro w' hSw; (try dsimp only at hSw); go_split_ands; go_simp; try with_reducible rfl)
                  try simp only [Act.put, List.getElem_toArray, List.getElem_cons_succ, List.getElem_cons_zero, List.setIfInBounds_toArray, List.set_cons_zero, List.set_cons_succ]
                  refine wpAnyH_takeB (i := 2) (v := ?vyL6_2) rfl (by kernel_rfl) (fun _ _ _ h => h) rfl ?yL6_2 hSx ?_
                  case yL6_2 => (intro w' hSw; (try dsimp only at hSw); go_split_ands; go_simp; try with_reducible rfl)
                  try simp only [Act.put, List.getElem_toArray, List.getElem_cons_succ, List.getElem_cons_zero, List.setIfInBounds_toArray, List.set_cons_zero, List.set_cons_succ]
                  refine wpAnyH_takeB (i := 4) (v := ?vyL6_4) rfl (by kernel_rfl) (fun _ _ _ h => h) rfl ?yL6_4 hSx ?_
                  case yL6_4 => (intro w' hSw; (try dsimp only at hSw); go_split_ands; go_simp; try with_reducible rfl)
                  try simp only [Act.put, List.getElem_toArray, List.getElem_cons_succ, List.getElem_cons_zero, List.setIfInBounds_toArray, List.set_cons_zero, List.set_cons_succ]
                  refine wpAnyH_takeB (i := 5) (v := ?vyL6_5) rfl (by kernel_rfl) (fun _ _ _ h => h) rfl ?yL6_5 hSx ?_
                  case yL6_5 => (intro w' hSw; (try dsimp only at hSw); go_split_ands; go_simp; try with_reducible rfl)
                  try simp only [Act.put, List.getElem_toArray, List.getElem_cons_succ, List.getElem_cons_zero, List.setIfInBounds_toArray, List.set_cons_zero, List.set_cons_succ]
                  refine wpAnyH_takeB (i := 6) (v := ?vyL6_6) rfl (by kernel_rfl) (fun _ _ _ h => h) rfl ?yL6_6 hSx ?_
                  case yL6_6 => (intro w' hSw; (try dsimp only at hSw); go_split_ands; go_simp; try with_reducible rfl)
                  try simp only [Act.put, List.getElem_toArray, List.getElem_cons_succ, List.getElem_cons_zero, List.setIfInBounds_toArray, List.set_cons_zero, List.set_cons_succ]
                  refine' wpAnyH_one (i := 3) ?taeL6_3 ?tbeL6_3 ?tceL6_3 ?tdeL6_3
                  case tbeL6_3 => rfl
                  case taeL6_3 => kernel_rfl
                  case tceL6_3 => rfl
                  intro K hK
                  go_simp
                  refine HC2.out.mono ?_
                  intro e w7 hop
                  have HOP := Lib.hid (hop.pre' (Fr.drew G1 w6))
                  obtain ⟨rfl, _⟩ := hop.thenE
                  clear hop
                  try dsimp only
                  refine hK.out _ _ (by obtain ⟨_, G7, _, s2⟩ := HOP.out; exact HSC.out w7 G7 s2) (fun hSx => ?_)
                  clear hK K
                  try simp only [Act.put, List.getElem_toArray, List.getElem_cons_succ, List.getElem_cons_zero, List.setIfInBounds_toArray, List.set_cons_zero, List.set_cons_succ]
                  refine wpAnyH_takeB (i := 7) (v := ?vyL6_7) rfl (by kernel_rfl) (fun _ _ _ h => h) rfl ?yL6_7 hSx ?_
                  case yL6_7 => (intro w' hSw; (try dsimp only at hSw); go_split_ands; go_simp; try with_reducible rfl)
                  try simp only [Act.put, List.getElem_toArray, List.getElem_cons_succ, List.getElem_cons_zero, List.setIfInBounds_toArray, List.set_cons_zero, List.set_cons_succ]
                  first | (refine wpAnyH_takeB (i := 8) (v := ?vyL6_8) rfl (by kernel_rfl) (fun _ _ _ h => h) rfl ?yL6_8 hSx ?_; case yL6_8 => (intro w' hSw; (try dsimp only at hSw); go_split_ands; go_simp; try with_reducible rfl)) | (refine wpAnyH_skipB (i := 8) rfl (by kernel_rfl) (fun _ _ _ h => h) rfl hSx ?_)
                  try simp only [Act.put, List.getElem_toArray, List.getElem_cons_succ, List.getElem_cons_zero, List.setIfInBounds_toArray, List.set_cons_zero, List.set_cons_succ]
                  first | (refine wpAnyH_takeB (i := 9) (v := ?vyL6_9) rfl (by kernel_rfl) (fun _ _ _ h => h) rfl ?yL6_9 hSx ?_; case yL6_9 => (intro w' hSw; (try dsimp only at hSw); go_split_ands; go_simp; try with_reducible rfl)) | (refine wpAnyH_skipB (i := 9) rfl (by kernel_rfl) (fun _ _ _ h => h) rfl hSx ?_)
                  try simp only [Act.put, List.getElem_toArray, List.getElem_cons_succ, List.getElem_cons_zero, List.setIfInBounds_toArray, List.set_cons_zero, List.set_cons_succ]
                  first | (refine wpAnyH_takeB (i := 10) (v := ?vyL6_10) rfl (by kernel_rfl) (fun _ _ _ h => h) rfl ?yL6_10 hSx ?_; case yL6_10 => (intro w' hSw; (try dsimp only at hSw); go_split_ands; go_simp; try with_reducible rfl)) | (refine wpAnyH_skipB (i := 10) rfl (by kernel_rfl) (fun _ _ _ h => h) rfl hSx ?_)
                  try simp only [Act.put, List.getElem_toArray, List.getElem_cons_succ, List.getElem_cons_zero, List.setIfInBounds_toArray, List.set_cons_zero, List.set_cons_succ]
                  refine wpAnyH_takeB (i := 11) (v := ?vyL6_11) rfl (by kernel_rfl) (fun _ _ _ h => h) rfl ?yL6_11 hSx ?_
                  case yL6_11 => (intro w' hSw; (try dsimp only at hSw); go_split_ands; go_simp; try with_reducible rfl)
                  try simp only [Act.put, List.getElem_toArray, List.getElem_cons_succ, List.getElem_cons_zero, List.setIfInBounds_toArray, List.set_cons_zero, List.set_cons_succ]
                  refine wpAnyH_takeB (i := 12) (v := ?vyL6_12) rfl (by kernel_rfl) (fun _ _ _ h => h) rfl ?yL6_12 hSx ?_
                  case yL6_12 => (intro w' hSw; (try dsimp only at hSw); go_split_ands; go_simp; try with_reducible rfl)
                  try simp only [Act.put, List.getElem_toArray, List.getElem_cons_succ, List.getElem_cons_zero, List.setIfInBounds_toArray, List.set_cons_zero, List.set_cons_succ]
                  refine wpAnyH_takeB (i := 13) (v := ?vyL6_13) rfl (by kernel_rfl) (fun _ _ _ h => h) rfl ?yL6_13 hSx ?_
                  case yL6_13 => (intro w' hSw; (try dsimp only at hSw); go_split_ands; go_simp; try with_reducible rfl)
                  try simp only [Act.put, List.getElem_toArray, List.getElem_cons_succ, List.getElem_cons_zero, List.setIfInBounds_toArray, List.set_cons_zero, List.set_cons_succ]
                  refine wpAnyH_done (by kernel_rfl) ?_ _
                  obtain ⟨_, G7, r1, r2⟩ := HOP.out
                  have HL7 : Hid (Law W w7 G7 r.2 ∧ EsS W w7 G7 (.slice ea n ec) es ∧ G7.h = G.h) := ⟨HL6.out.1.op r1 r2 HANS.out.wf, HL6.out.2.1.op r2, r2.h.trans HL6.out.2.2⟩
                  have HR7 : Hid (L.length ≤ r.2.length ∧ r.2.length ≤ L.length + 3 ∧ r.1 < 2 * (r.2.length + 1)) := ⟨HANS.out.le, HANS.out.lenle, HANS.out.own⟩
                  clear r1 r2 HOP
                  have HNT := Lib.hid (Not_any r.1 w7 (by have := HR7.out; have := HLL.out; omega))
                  have HL8 := Lib.hid (HL7.out.1.after (w' := w7.alloc (.cells #[.int .i64 (r.1 : Int), .int .i64 (neg r.1 : Int)] 3)) ((Below.refl _ _).alloc (Nat.le_refl _) _))
                  have hA2 : ArgI (w7.alloc (.cells #[.int .i64 (r.1 : Int), .int .i64 (neg r.1 : Int)] 3)) (some ⟨w7.heap.size, 0, none⟩) 2 (fun j => (([r.1, neg r.1].getD j 0 : Nat) : Int)) := by
                    refine Or.inr ⟨w7.heap.size, 0, rfl, by simp, fun j hj => ?_⟩
                    rw [Nat.zero_add]
                    simp only [World.cell?, heap_alloc_new]
                    match j, hj with | 0, _ => rfl | 1, _ => rfl
                  have hEV2 := Eval_any HL8.out.rep HL8.out.wf ma mn mc M (HA.out.2.2.below HL8.out.below) (by omega) (some ⟨w7.heap.size, 0, none⟩) 2 2 _ hA2 (by omega) (fun j hj => by
                    have h := HR7.out; have h2 := HLL.out; have h3 := neg_lt h.2.2
                    match j, hj with
                    | 0, _ => show ((r.1 : Nat) : Int) ≤ _; omega
                    | 1, _ => show ((neg r.1 : Nat) : Int) ≤ _; omega) (by have := HR7.out; have := HLL.out; omega)
                  rw [HL7.out.2.2] at hEV2
                  have HEV2 := Lib.hid hEV2
                  clear hA2 hEV2
                  go_wp2_with fail
                  refine HNT.out.mono ?_
                  rintro e w' ⟨rfl, rfl⟩
                  go_wp2_with fail
                  refine HEV2.out.mono ?_
                  rintro e w8 ⟨vb2, rfl, hvb2, hrow2, hb8⟩
                  have f0 : w8.cell? ⟨vb2, 0, none⟩ = some (.bool v1) := by
                    rw [hrow2.cell (i := 0) (by omega)]
                    show some (Value.bool (val (mdl M mn) r.2 (own r.2 ((r.1 : Nat) : Int)))) = _
                    rw [own_nat HR7.out.2.2, HWT.out]
                  have f1 : w8.cell? ⟨vb2, 1, none⟩ = some (.bool nv) := by
                    rw [hrow2.cell (i := 1) (by omega)]
                    show some (Value.bool (val (mdl M mn) r.2 (own r.2 ((neg r.1 : Nat) : Int)))) = _
                    rw [own_nat (neg_lt HR7.out.2.2), val_neg, HWT.out]; rw [HNV.out]
                  have HB8 : Hid (Below w7.heap.size w7 w8) := ((Below.refl _ _).alloc (Nat.le_refl _) _ : Below w7.heap.size w7 (w7.alloc (.cells #[.int .i64 (r.1 : Int), .int .i64 (neg r.1 : Int)] 3))).trans (hb8.mono (by simp))
                  have HO8 : Hid (w8.ownsRow W.heap.size 3 1 (.slice ea n ec) n (es.map encN)) := by have := (HL7.out.2.1.after HB8.out).1; rw [← HN0.out] at this; exact this
                  have hbs8 : W.heap.size ≤ w8.heap.size := Nat.le_trans HL7.out.1.below.size HB8.out.size
                  clear hvb2 hrow2 hb8 HEV2 HSC
                  go_wp2_with (at_builtin; refine wpList_append_lies _ rfl _ _ 31 rfl W.heap.size 3 ii _ 1 8 Try.underlying31 hi hz0 hz1 hz2 rfl (by decide) _ _ _ rfl (HO8.out.alloc _) ⟨w8.heap.size, 0, none⟩ 1 1 [.int .i64 (r.1 : Int)] rfl rfl (World.news_of_block (cs := #[.int .i64 (r.1 : Int)]) (t := 3) (fr := (0, 0)) (heap_alloc_new w8 _)) (by simp [Value.oneCell']) (by decide) (by unfold maxLen; omega) (by omega) (by simp; omega) (w8.heap.size + 1) (by simp) ?_; intro g cap w9 hown9 hgrow9 hat9 hlt9; refine Hid.out ?_)
                  refine Lib.hid ?_
                  have HEND : Hid (TruthI W G.h (i + 1) (.slice (some ⟨g, 0, none⟩) (n + 1) cap) w9) := by
                    have hp := (HL7.out.2.1.after HB8.out).push (e := r.1) (HL7.out.1.after HB8.out) (.cells #[.int .i64 (r.1 : Int)] 3) hgrow9 hat9 (by rw [← HN0.out]; exact hown9)
                    obtain ⟨G9, g9, k1, k2⟩ := hp
                    rw [← HN0.out] at k2
                    refine ⟨G9, r.2, es ++ [r.1], g9.trans HL7.out.2.2, k1, k2, by rw [List.length_append, HES.out.1]; rfl, by have := HR7.out; have := HES.out.2.1; omega, fun j hj => ?_⟩
                    rw [getD_snoc]
                    split
                    · rename_i e; have := HES.out.2.2 j e; have := HR7.out; omega
                    · split
                      · exact HR7.out.2.2
                      · have := HR7.out; omega
                  clear hown9 hgrow9 hat9 hlt9
                  go_wp2_with fail
                  go_roundw
                  case rel => exact ⟨i + 1, by go_num, by omega, HEND⟩
                  case measure => simp [intOf]; omega
              | true =>
                as_aux_lemma =>
                  have HANS := Lib.hid ((orE_ans HL6.out.1.wf HOW.out.1 HOW.out.2.1).more (k' := 3) (by omega))
                  have HWT : Hid (val (mdl M mn) (orE L x y).2 (orE L x y).1 = true) := by
                    have hv0 := HV.out.1
                    have hv1 := HV.out.2.1
                    have hv2 := HV.out.2.2
                    show val (mdl M mn) (orE L x y).2 (orE L x y).1 = true
                    rw [HANS.out.val]
                    simp [← hv0, ← hv1, ← hv2]
                  generalize hr : orE L x y = r at *
                  clear hr
                  go_wp2_with fail
                  refine wp_region_H (S := (fun w' => w'.cell? ⟨vb, 0, none⟩ = some (.bool true) ∧ w'.cell? ⟨vb, 1, none⟩ = some (.bool v1) ∧ w'.cell? ⟨vb, 2, none⟩ = some (.bool v2))) 14 (by kernel_rfl) ((HSC.out _ G1 (Fr.drew _ _))) (fun hSx => ?_)
                  refine wpAnyH_takeB (i := 0) (v := ?vyL7_0) rfl (by kernel_rfl) (fun _ _ _ h => h) rfl ?yL7_0 hSx ?_
                  case yL7_0 => (intro w' hSw; (try dsimp only at hSw); go_split_ands; go_simp; try with_reducible rfl)
                  try simp only [Act.put, List.getElem_toArray, List.getElem_cons_succ, List.getElem_cons_zero, List.setIfInBounds_toArray, List.set_cons_zero, List.set_cons_succ]
                  refine wpAnyH_takeB (i := 1) (v := ?vyL7_1) rfl (by kernel_rfl) (fun _ _ _ h => h) rfl ?yL7_1 hSx ?_
                  case yL7_1 => (intro w' hSw; (try dsimp only at hSw); go_split_ands; go_simp; try with_reducible rfl)
                  try simp only [Act.put, List.getElem_toArray, List.getElem_cons_succ, List.getElem_cons_zero, List.setIfInBounds_toArray, List.set_cons_zero, List.set_cons_succ]
                  refine wpAnyH_takeB (i := 2) (v := ?vyL7_2) rfl (by kernel_rfl) (fun _ _ _ h => h) rfl ?yL7_2 hSx ?_
                  case yL7_2 => (intro w' hSw; (try dsimp only at hSw); go_split_ands; go_simp; try with_reducible rfl)
                  try simp only [Act.put, List.getElem_toArray, List.getElem_cons_succ, List.getElem_cons_zero, List.setIfInBounds_toArray, List.set_cons_zero, List.set_cons_succ]
                  refine wpAnyH_takeB (i := 4) (v := ?vyL7_4) rfl (by kernel_rfl) (fun _ _ _ h => h) rfl ?yL7_4 hSx ?_
                  case yL7_4 => (intro w' hSw; (try dsimp only at hSw); go_split_ands; go_simp; try with_reducible rfl)
                  try simp only [Act.put, List.getElem_toArray, List.getElem_cons_succ, List.getElem_cons_zero, List.setIfInBounds_toArray, List.set_cons_zero, List.set_cons_succ]
                  refine wpAnyH_takeB (i := 5) (v := ?vyL7_5) rfl (by kernel_rfl) (fun _ _ _ h => h) rfl ?yL7_5 hSx ?_
                  case yL7_5 => (intro w' hSw; (try dsimp only at hSw); go_split_ands; go_simp; try with_reducible rfl)
                  try simp only [Act.put, List.getElem_toArray, List.getElem_cons_succ, List.getElem_cons_zero, List.setIfInBounds_toArray, List.set_cons_zero, List.set_cons_succ]
                  refine wpAnyH_takeB (i := 6) (v := ?vyL7_6) rfl (by kernel_rfl) (fun _ _ _ h => h) rfl ?yL7_6 hSx ?_
                  case yL7_6 => (intro w' hSw; (try dsimp only at hSw); go_split_ands; go_simp; try with_reducible rfl)
                  try simp only [Act.put, List.getElem_toArray, List.getElem_cons_succ, List.getElem_cons_zero, List.setIfInBounds_toArray, List.set_cons_zero, List.set_cons_succ]
                  refine' wpAnyH_one (i := 3) ?taeL7_3 ?tbeL7_3 ?tceL7_3 ?tdeL7_3
                  case tbeL7_3 => rfl
                  case taeL7_3 => kernel_rfl
                  case tceL7_3 => rfl
                  intro K hK
                  go_simp
                  refine HC2.out.mono ?_
                  intro e w7 hop
                  have HOP := Lib.hid (hop.pre' (Fr.drew G1 w6))
                  obtain ⟨rfl, _⟩ := hop.thenE
                  clear hop
                  try dsimp only
                  refine hK.out _ _ (by obtain ⟨_, G7, _, s2⟩ := HOP.out; exact HSC.out w7 G7 s2) (fun hSx => ?_)
                  clear hK K
                  try simp only [Act.put, List.getElem_toArray, List.getElem_cons_succ, List.getElem_cons_zero, List.setIfInBounds_toArray, List.set_cons_zero, List.set_cons_succ]
                  refine wpAnyH_takeB (i := 7) (v := ?vyL7_7) rfl (by kernel_rfl) (fun _ _ _ h => h) rfl ?yL7_7 hSx ?_
                  case yL7_7 => (intro w' hSw; (try dsimp only at hSw); go_split_ands; go_simp; try with_reducible rfl)
                  try simp only [Act.put, List.getElem_toArray, List.getElem_cons_succ, List.getElem_cons_zero, List.setIfInBounds_toArray, List.set_cons_zero, List.set_cons_succ]
                  first | (refine wpAnyH_takeB (i := 8) (v := ?vyL7_8) rfl (by kernel_rfl) (fun _ _ _ h => h) rfl ?yL7_8 hSx ?_; case yL7_8 => (intro w' hSw; (try dsimp only at hSw); go_split_ands; go_simp; try with_reducible rfl)) | (refine wpAnyH_skipB (i := 8) rfl (by kernel_rfl) (fun _ _ _ h => h) rfl hSx ?_)
                  try simp only [Act.put, List.getElem_toArray, List.getElem_cons_succ, List.getElem_cons_zero, List.setIfInBounds_toArray, List.set_cons_zero, List.set_cons_succ]
                  first | (refine wpAnyH_takeB (i := 9) (v := ?vyL7_9) rfl (by kernel_rfl) (fun _ _ _ h => h) rfl ?yL7_9 hSx ?_; case yL7_9 => (intro w' hSw; (try dsimp only at hSw); go_split_ands; go_simp; try with_reducible rfl)) | (refine wpAnyH_skipB (i := 9) rfl (by kernel_rfl) (fun _ _ _ h => h) rfl hSx ?_)
                  try simp only [Act.put, List.getElem_toArray, List.getElem_cons_succ, List.getElem_cons_zero, List.setIfInBounds_toArray, List.set_cons_zero, List.set_cons_succ]
                  first | (refine wpAnyH_takeB (i := 10) (v := ?vyL7_10) rfl (by kernel_rfl) (fun _ _ _ h => h) rfl ?yL7_10 hSx ?_; case yL7_10 => (intro w' hSw; (try dsimp only at hSw); go_split_ands; go_simp; try with_reducible rfl)) | (refine wpAnyH_skipB (i := 10) rfl (by kernel_rfl) (fun _ _ _ h => h) rfl hSx ?_)
                  try simp only [Act.put, List.getElem_toArray, List.getElem_cons_succ, List.getElem_cons_zero, List.setIfInBounds_toArray, List.set_cons_zero, List.set_cons_succ]
                  refine wpAnyH_takeB (i := 11) (v := ?vyL7_11) rfl (by kernel_rfl) (fun _ _ _ h => h) rfl ?yL7_11 hSx ?_
                  case yL7_11 => (intro w' hSw; (try dsimp only at hSw); go_split_ands; go_simp; try with_reducible rfl)
                  try simp only [Act.put, List.getElem_toArray, List.getElem_cons_succ, List.getElem_cons_zero, List.setIfInBounds_toArray, List.set_cons_zero, List.set_cons_succ]
                  refine wpAnyH_takeB (i := 12) (v := ?vyL7_12) rfl (by kernel_rfl) (fun _ _ _ h => h) rfl ?yL7_12 hSx ?_
                  case yL7_12 => (intro w' hSw; (try dsimp only at hSw); go_split_ands; go_simp; try with_reducible rfl)
                  try simp only [Act.put, List.getElem_toArray, List.getElem_cons_succ, List.getElem_cons_zero, List.setIfInBounds_toArray, List.set_cons_zero, List.set_cons_succ]
                  refine wpAnyH_takeB (i := 13) (v := ?vyL7_13) rfl (by kernel_rfl) (fun _ _ _ h => h) rfl ?yL7_13 hSx ?_
                  case yL7_13 => (intro w' hSw; (try dsimp only at hSw); go_split_ands; go_simp; try with_reducible rfl)
                  try simp only [Act.put, List.getElem_toArray, List.getElem_cons_succ, List.getElem_cons_zero, List.setIfInBounds_toArray, List.set_cons_zero, List.set_cons_succ]
                  refine wpAnyH_done (by kernel_rfl) ?_ _
                  obtain ⟨_, G7, r1, r2⟩ := HOP.out
                  have HL7 : Hid (Law W w7 G7 r.2 ∧ EsS W w7 G7 (.slice ea n ec) es ∧ G7.h = G.h) := ⟨HL6.out.1.op r1 r2 HANS.out.wf, HL6.out.2.1.op r2, r2.h.trans HL6.out.2.2⟩
                  have HR7 : Hid (L.length ≤ r.2.length ∧ r.2.length ≤ L.length + 3 ∧ r.1 < 2 * (r.2.length + 1)) := ⟨HANS.out.le, HANS.out.lenle, HANS.out.own⟩
                  clear r1 r2 HOP
                  have HNT := Lib.hid (Not_any r.1 w7 (by have := HR7.out; have := HLL.out; omega))
                  have HL8 := Lib.hid (HL7.out.1.after (w' := w7.alloc (.cells #[.int .i64 (r.1 : Int), .int .i64 (neg r.1 : Int)] 3)) ((Below.refl _ _).alloc (Nat.le_refl _) _))
                  have hA2 : ArgI (w7.alloc (.cells #[.int .i64 (r.1 : Int), .int .i64 (neg r.1 : Int)] 3)) (some ⟨w7.heap.size, 0, none⟩) 2 (fun j => (([r.1, neg r.1].getD j 0 : Nat) : Int)) := by
                    refine Or.inr ⟨w7.heap.size, 0, rfl, by simp, fun j hj => ?_⟩
                    rw [Nat.zero_add]
                    simp only [World.cell?, heap_alloc_new]
                    match j, hj with | 0, _ => rfl | 1, _ => rfl
                  have hEV2 := Eval_any HL8.out.rep HL8.out.wf ma mn mc M (HA.out.2.2.below HL8.out.below) (by omega) (some ⟨w7.heap.size, 0, none⟩) 2 2 _ hA2 (by omega) (fun j hj => by
                    have h := HR7.out; have h2 := HLL.out; have h3 := neg_lt h.2.2
                    match j, hj with
                    | 0, _ => show ((r.1 : Nat) : Int) ≤ _; omega
                    | 1, _ => show ((neg r.1 : Nat) : Int) ≤ _; omega) (by have := HR7.out; have := HLL.out; omega)
                  rw [HL7.out.2.2] at hEV2
                  have HEV2 := Lib.hid hEV2
                  clear hA2 hEV2
                  go_wp2_with fail
                  refine HNT.out.mono ?_
                  rintro e w' ⟨rfl, rfl⟩
                  go_wp2_with fail
                  refine HEV2.out.mono ?_
                  rintro e w8 ⟨vb2, rfl, hvb2, hrow2, hb8⟩
                  have f0 : w8.cell? ⟨vb2, 0, none⟩ = some (.bool true) := by
                    rw [hrow2.cell (i := 0) (by omega)]
                    show some (Value.bool (val (mdl M mn) r.2 (own r.2 ((r.1 : Nat) : Int)))) = _
                    rw [own_nat HR7.out.2.2, HWT.out]
                  have f1 : w8.cell? ⟨vb2, 1, none⟩ = some (.bool false) := by
                    rw [hrow2.cell (i := 1) (by omega)]
                    show some (Value.bool (val (mdl M mn) r.2 (own r.2 ((neg r.1 : Nat) : Int)))) = _
                    rw [own_nat (neg_lt HR7.out.2.2), val_neg, HWT.out]; rfl
                  have HB8 : Hid (Below w7.heap.size w7 w8) := ((Below.refl _ _).alloc (Nat.le_refl _) _ : Below w7.heap.size w7 (w7.alloc (.cells #[.int .i64 (r.1 : Int), .int .i64 (neg r.1 : Int)] 3))).trans (hb8.mono (by simp))
                  have HO8 : Hid (w8.ownsRow W.heap.size 3 1 (.slice ea n ec) n (es.map encN)) := by have := (HL7.out.2.1.after HB8.out).1; rw [← HN0.out] at this; exact this
                  have hbs8 : W.heap.size ≤ w8.heap.size := Nat.le_trans HL7.out.1.below.size HB8.out.size
                  clear hvb2 hrow2 hb8 HEV2 HSC
                  go_wp2_with (at_builtin; refine wpList_append_lies _ rfl _ _ 31 rfl W.heap.size 3 ii _ 1 8 Try.underlying31 hi hz0 hz1 hz2 rfl (by decide) _ _ _ rfl (HO8.out.alloc _) ⟨w8.heap.size, 0, none⟩ 1 1 [.int .i64 (r.1 : Int)] rfl rfl (World.news_of_block (cs := #[.int .i64 (r.1 : Int)]) (t := 3) (fr := (0, 0)) (heap_alloc_new w8 _)) (by simp [Value.oneCell']) (by decide) (by unfold maxLen; omega) (by omega) (by simp; omega) (w8.heap.size + 1) (by simp) ?_; intro g cap w9 hown9 hgrow9 hat9 hlt9; refine Hid.out ?_)
                  refine Lib.hid ?_
                  have HEND : Hid (TruthI W G.h (i + 1) (.slice (some ⟨g, 0, none⟩) (n + 1) cap) w9) := by
                    have hp := (HL7.out.2.1.after HB8.out).push (e := r.1) (HL7.out.1.after HB8.out) (.cells #[.int .i64 (r.1 : Int)] 3) hgrow9 hat9 (by rw [← HN0.out]; exact hown9)
                    obtain ⟨G9, g9, k1, k2⟩ := hp
                    rw [← HN0.out] at k2
                    refine ⟨G9, r.2, es ++ [r.1], g9.trans HL7.out.2.2, k1, k2, by rw [List.length_append, HES.out.1]; rfl, by have := HR7.out; have := HES.out.2.1; omega, fun j hj => ?_⟩
                    rw [getD_snoc]
                    split
                    · rename_i e; have := HES.out.2.2 j e; have := HR7.out; omega
                    · split
                      · exact HR7.out.2.2
                      · have := HR7.out; omega
                  clear hown9 hgrow9 hat9 hlt9
                  go_wp2_with fail
                  go_roundw
                  case rel => exact ⟨i + 1, by go_num, by omega, HEND⟩
                  case measure => simp [intOf]; omega
            · have kf2 : (kk == 2) = false := by simpa using kk2
              clear kk2
              by_cases kk3 : kk = 3
              · subst kk3
                cases v0 with
                | false =>
                  cases v1 with
                  | false =>
                    as_aux_lemma =>
                      have HANS := Lib.hid (xorE_ans HL6.out.1.wf HOW.out.1 HOW.out.2.1)
                      have HWT : Hid (val (mdl M mn) (xorE L x y).2 (xorE L x y).1 = false) := by
                        have hv0 := HV.out.1
                        have hv1 := HV.out.2.1
                        have hv2 := HV.out.2.2
                        show val (mdl M mn) (xorE L x y).2 (xorE L x y).1 = false
                        rw [HANS.out.val]
                        simp [← hv0, ← hv1, ← hv2]
                      generalize hr : xorE L x y = r at *
                      clear hr
                      go_wp2_with fail
                      refine wp_region_H (S := (fun w' => w'.cell? ⟨vb, 0, none⟩ = some (.bool false) ∧ w'.cell? ⟨vb, 1, none⟩ = some (.bool false) ∧ w'.cell? ⟨vb, 2, none⟩ = some (.bool v2))) 13 (by kernel_rfl) ((HSC.out _ G1 (Fr.drew _ _))) (fun hSx => ?_)
                      refine wpAnyH_takeB (i := 0) (v := ?vyL8_0) rfl (by kernel_rfl) (fun _ _ _ h => h) rfl ?yL8_0 hSx ?_
                      case yL8_0 => (intro w' hSw; (try dsimp only at hSw); go_split_ands; go_simp; try with_reducible rfl)
                      try simp only [Act.put, List.getElem_toArray, List.getElem_cons_succ, List.getElem_cons_zero, List.setIfInBounds_toArray, List.set_cons_zero, List.set_cons_succ]
                      refine wpAnyH_takeB (i := 1) (v := ?vyL8_1) rfl (by kernel_rfl) (fun _ _ _ h => h) rfl ?yL8_1 hSx ?_
                      case yL8_1 => (intro w' hSw; (try dsimp only at hSw); go_split_ands; go_simp; try with_reducible rfl)
                      try simp only [Act.put, List.getElem_toArray, List.getElem_cons_succ, List.getElem_cons_zero, List.setIfInBounds_toArray, List.set_cons_zero, List.set_cons_succ]
                      refine wpAnyH_takeB (i := 2) (v := ?vyL8_2) rfl (by kernel_rfl) (fun _ _ _ h => h) rfl ?yL8_2 hSx ?_
                      case yL8_2 => (intro w' hSw; (try dsimp only at hSw); go_split_ands; go_simp; try with_reducible rfl)
                      try simp only [Act.put, List.getElem_toArray, List.getElem_cons_succ, List.getElem_cons_zero, List.setIfInBounds_toArray, List.set_cons_zero, List.set_cons_succ]
                      refine wpAnyH_takeB (i := 4) (v := ?vyL8_4) rfl (by kernel_rfl) (fun _ _ _ h => h) rfl ?yL8_4 hSx ?_
                      case yL8_4 => (intro w' hSw; (try dsimp only at hSw); go_split_ands; go_simp; try with_reducible rfl)
                      try simp only [Act.put, List.getElem_toArray, List.getElem_cons_succ, List.getElem_cons_zero, List.setIfInBounds_toArray, List.set_cons_zero, List.set_cons_succ]
                      refine wpAnyH_takeB (i := 5) (v := ?vyL8_5) rfl (by kernel_rfl) (fun _ _ _ h => h) rfl ?yL8_5 hSx ?_
                      case yL8_5 => (intro w' hSw; (try dsimp only at hSw); go_split_ands; go_simp; try with_reducible rfl)
                      try simp only [Act.put, List.getElem_toArray, List.getElem_cons_succ, List.getElem_cons_zero, List.setIfInBounds_toArray, List.set_cons_zero, List.set_cons_succ]
                      refine wpAnyH_takeB (i := 6) (v := ?vyL8_6) rfl (by kernel_rfl) (fun _ _ _ h => h) rfl ?yL8_6 hSx ?_
                      case yL8_6 => (intro w' hSw; (try dsimp only at hSw); go_split_ands; go_simp; try with_reducible rfl)
                      try simp only [Act.put, List.getElem_toArray, List.getElem_cons_succ, List.getElem_cons_zero, List.setIfInBounds_toArray, List.set_cons_zero, List.set_cons_succ]
                      refine wpAnyH_takeB (i := 7) (v := ?vyL8_7) rfl (by kernel_rfl) (fun _ _ _ h => h) rfl ?yL8_7 hSx ?_
                      case yL8_7 => (intro w' hSw; (try dsimp only at hSw); go_split_ands; go_simp; try with_reducible rfl)
                      try simp only [Act.put, List.getElem_toArray, List.getElem_cons_succ, List.getElem_cons_zero, List.setIfInBounds_toArray, List.set_cons_zero, List.set_cons_succ]
                      refine wpAnyH_takeB (i := 8) (v := ?vyL8_8) rfl (by kernel_rfl) (fun _ _ _ h => h) rfl ?yL8_8 hSx ?_
                      case yL8_8 => (intro w' hSw; (try dsimp only at hSw); go_split_ands; go_simp; try with_reducible rfl)
                      try simp only [Act.put, List.getElem_toArray, List.getElem_cons_succ, List.getElem_cons_zero, List.setIfInBounds_toArray, List.set_cons_zero, List.set_cons_succ]
                      refine wpAnyH_takeB (i := 9) (v := ?vyL8_9) rfl (by kernel_rfl) (fun _ _ _ h => h) rfl ?yL8_9 hSx ?_
                      case yL8_9 => (intro w' hSw; (try dsimp only at hSw); go_split_ands; go_simp; try with_reducible rfl)
                      try simp only [Act.put, List.getElem_toArray, List.getElem_cons_succ, List.getElem_cons_zero, List.setIfInBounds_toArray, List.set_cons_zero, List.set_cons_succ]
                      refine wpAnyH_takeB (i := 10) (v := ?vyL8_10) rfl (by kernel_rfl) (fun _ _ _ h => h) rfl ?yL8_10 hSx ?_
                      case yL8_10 => (intro w' hSw; (try dsimp only at hSw); go_split_ands; go_simp; try with_reducible rfl)
                      try simp only [Act.put, List.getElem_toArray, List.getElem_cons_succ, List.getElem_cons_zero, List.setIfInBounds_toArray, List.set_cons_zero, List.set_cons_succ]
                      refine' wpAnyH_one (i := 3) ?taeL8_3 ?tbeL8_3 ?tceL8_3 ?tdeL8_3
                      case tbeL8_3 => rfl
                      case taeL8_3 => kernel_rfl
                      case tceL8_3 => rfl
                      intro K hK
                      go_simp
                      refine HC3.out.mono ?_
                      intro e w7 hop
                      have HOP := Lib.hid (hop.pre' (Fr.drew G1 w6))
                      obtain ⟨rfl, _⟩ := hop.thenE
                      clear hop
                      try dsimp only
                      refine hK.out _ _ (by obtain ⟨_, G7, _, s2⟩ := HOP.out; exact HSC.out w7 G7 s2) (fun hSx => ?_)
                      clear hK K
                      try simp only [Act.put, List.getElem_toArray, List.getElem_cons_succ, List.getElem_cons_zero, List.setIfInBounds_toArray, List.set_cons_zero, List.set_cons_succ]
                      refine wpAnyH_takeB (i := 11) (v := ?vyL8_11) rfl (by kernel_rfl) (fun _ _ _ h => h) rfl ?yL8_11 hSx ?_
                      case yL8_11 => (intro w' hSw; (try dsimp only at hSw); go_split_ands; go_simp; try with_reducible rfl)
                      try simp only [Act.put, List.getElem_toArray, List.getElem_cons_succ, List.getElem_cons_zero, List.setIfInBounds_toArray, List.set_cons_zero, List.set_cons_succ]
                      refine wpAnyH_takeB (i := 12) (v := ?vyL8_12) rfl (by kernel_rfl) (fun _ _ _ h => h) rfl ?yL8_12 hSx ?_
                      case yL8_12 => (intro w' hSw; (try dsimp only at hSw); go_split_ands; go_simp; try with_reducible rfl)
                      try simp only [Act.put, List.getElem_toArray, List.getElem_cons_succ, List.getElem_cons_zero, List.setIfInBounds_toArray, List.set_cons_zero, List.set_cons_succ]
                      refine wpAnyH_done (by kernel_rfl) ?_ _
                      obtain ⟨_, G7, r1, r2⟩ := HOP.out
                      have HL7 : Hid (Law W w7 G7 r.2 ∧ EsS W w7 G7 (.slice ea n ec) es ∧ G7.h = G.h) := ⟨HL6.out.1.op r1 r2 HANS.out.wf, HL6.out.2.1.op r2, r2.h.trans HL6.out.2.2⟩
                      have HR7 : Hid (L.length ≤ r.2.length ∧ r.2.length ≤ L.length + 3 ∧ r.1 < 2 * (r.2.length + 1)) := ⟨HANS.out.le, HANS.out.lenle, HANS.out.own⟩
                      clear r1 r2 HOP
                      have HNT := Lib.hid (Not_any r.1 w7 (by have := HR7.out; have := HLL.out; omega))
                      have HL8 := Lib.hid (HL7.out.1.after (w' := w7.alloc (.cells #[.int .i64 (r.1 : Int), .int .i64 (neg r.1 : Int)] 3)) ((Below.refl _ _).alloc (Nat.le_refl _) _))
                      have hA2 : ArgI (w7.alloc (.cells #[.int .i64 (r.1 : Int), .int .i64 (neg r.1 : Int)] 3)) (some ⟨w7.heap.size, 0, none⟩) 2 (fun j => (([r.1, neg r.1].getD j 0 : Nat) : Int)) := by
                        refine Or.inr ⟨w7.heap.size, 0, rfl, by simp, fun j hj => ?_⟩
                        rw [Nat.zero_add]
                        simp only [World.cell?, heap_alloc_new]
                        match j, hj with | 0, _ => rfl | 1, _ => rfl
                      have hEV2 := Eval_any HL8.out.rep HL8.out.wf ma mn mc M (HA.out.2.2.below HL8.out.below) (by omega) (some ⟨w7.heap.size, 0, none⟩) 2 2 _ hA2 (by omega) (fun j hj => by
                        have h := HR7.out; have h2 := HLL.out; have h3 := neg_lt h.2.2
                        match j, hj with
                        | 0, _ => show ((r.1 : Nat) : Int) ≤ _; omega
                        | 1, _ => show ((neg r.1 : Nat) : Int) ≤ _; omega) (by have := HR7.out; have := HLL.out; omega)
                      rw [HL7.out.2.2] at hEV2
                      have HEV2 := Lib.hid hEV2
                      clear hA2 hEV2
                      go_wp2_with fail
                      refine HNT.out.mono ?_
                      rintro e w' ⟨rfl, rfl⟩
                      go_wp2_with fail
                      refine HEV2.out.mono ?_
                      rintro e w8 ⟨vb2, rfl, hvb2, hrow2, hb8⟩
                      have f0 : w8.cell? ⟨vb2, 0, none⟩ = some (.bool false) := by
                        rw [hrow2.cell (i := 0) (by omega)]
                        show some (Value.bool (val (mdl M mn) r.2 (own r.2 ((r.1 : Nat) : Int)))) = _
                        rw [own_nat HR7.out.2.2, HWT.out]
                      have f1 : w8.cell? ⟨vb2, 1, none⟩ = some (.bool true) := by
                        rw [hrow2.cell (i := 1) (by omega)]
                        show some (Value.bool (val (mdl M mn) r.2 (own r.2 ((neg r.1 : Nat) : Int)))) = _
                        rw [own_nat (neg_lt HR7.out.2.2), val_neg, HWT.out]; rfl
                      have HB8 : Hid (Below w7.heap.size w7 w8) := ((Below.refl _ _).alloc (Nat.le_refl _) _ : Below w7.heap.size w7 (w7.alloc (.cells #[.int .i64 (r.1 : Int), .int .i64 (neg r.1 : Int)] 3))).trans (hb8.mono (by simp))
                      have HO8 : Hid (w8.ownsRow W.heap.size 3 1 (.slice ea n ec) n (es.map encN)) := by have := (HL7.out.2.1.after HB8.out).1; rw [← HN0.out] at this; exact this
                      have hbs8 : W.heap.size ≤ w8.heap.size := Nat.le_trans HL7.out.1.below.size HB8.out.size
                      clear hvb2 hrow2 hb8 HEV2 HSC
                      go_wp2_with (at_builtin; refine wpList_append_lies _ rfl _ _ 31 rfl W.heap.size 3 ii _ 1 8 Try.underlying31 hi hz0 hz1 hz2 rfl (by decide) _ _ _ rfl (HO8.out.alloc _) ⟨w8.heap.size, 0, none⟩ 1 1 [.int .i64 (r.1 : Int)] rfl rfl (World.news_of_block (cs := #[.int .i64 (r.1 : Int)]) (t := 3) (fr := (0, 0)) (heap_alloc_new w8 _)) (by simp [Value.oneCell']) (by decide) (by unfold maxLen; omega) (by omega) (by simp; omega) (w8.heap.size + 1) (by simp) ?_; intro g cap w9 hown9 hgrow9 hat9 hlt9; refine Hid.out ?_)
                      refine Lib.hid ?_
                      have HEND : Hid (TruthI W G.h (i + 1) (.slice (some ⟨g, 0, none⟩) (n + 1) cap) w9) := by
                        have hp := (HL7.out.2.1.after HB8.out).push (e := r.1) (HL7.out.1.after HB8.out) (.cells #[.int .i64 (r.1 : Int)] 3) hgrow9 hat9 (by rw [← HN0.out]; exact hown9)
                        obtain ⟨G9, g9, k1, k2⟩ := hp
                        rw [← HN0.out] at k2
                        refine ⟨G9, r.2, es ++ [r.1], g9.trans HL7.out.2.2, k1, k2, by rw [List.length_append, HES.out.1]; rfl, by have := HR7.out; have := HES.out.2.1; omega, fun j hj => ?_⟩
                        rw [getD_snoc]
                        split
                        · rename_i e; have := HES.out.2.2 j e; have := HR7.out; omega
                        · split
                          · exact HR7.out.2.2
                          · have := HR7.out; omega
                      clear hown9 hgrow9 hat9 hlt9
                      go_wp2_with fail
                      go_roundw
                      case rel => exact ⟨i + 1, by go_num, by omega, HEND⟩
                      case measure => simp [intOf]; omega
                  | true =>
                    as_aux_lemma =>
                      have HANS := Lib.hid (xorE_ans HL6.out.1.wf HOW.out.1 HOW.out.2.1)
                      have HWT : Hid (val (mdl M mn) (xorE L x y).2 (xorE L x y).1 = true) := by
                        have hv0 := HV.out.1
                        have hv1 := HV.out.2.1
                        have hv2 := HV.out.2.2
                        show val (mdl M mn) (xorE L x y).2 (xorE L x y).1 = true
                        rw [HANS.out.val]
                        simp [← hv0, ← hv1, ← hv2]
                      generalize hr : xorE L x y = r at *
                      clear hr
                      go_wp2_with fail
                      refine wp_region_H (S := (fun w' => w'.cell? ⟨vb, 0, none⟩ = some (.bool false) ∧ w'.cell? ⟨vb, 1, none⟩ = some (.bool true) ∧ w'.cell? ⟨vb, 2, none⟩ = some (.bool v2))) 13 (by kernel_rfl) ((HSC.out _ G1 (Fr.drew _ _))) (fun hSx => ?_)
                      refine wpAnyH_takeB (i := 0) (v := ?vyL9_0) rfl (by kernel_rfl) (fun _ _ _ h => h) rfl ?yL9_0 hSx ?_
                      case yL9_0 => (intro w' hSw; (try dsimp only at hSw); go_split_ands; go_simp; try with_reducible rfl)
                      try simp only [Act.put, List.getElem_toArray, List.getElem_cons_succ, List.getElem_cons_zero, List.setIfInBounds_toArray, List.set_cons_zero, List.set_cons_succ]
                      refine wpAnyH_takeB (i := 1) (v := ?vyL9_1) rfl (by kernel_rfl) (fun _ _ _ h => h) rfl ?yL9_1 hSx ?_
                      case yL9_1 => (intro w' hSw; (try dsimp only at hSw); go_split_ands; go_simp; try with_reducible rfl)
                      try simp only [Act.put, List.getElem_toArray, List.getElem_cons_succ, List.getElem_cons_zero, List.setIfInBounds_toArray, List.set_cons_zero, List.set_cons_succ]
                      refine wpAnyH_takeB (i := 2) (v := ?vyL9_2) rfl (by kernel_rfl) (fun _ _ _ h => h) rfl ?yL9_2 hSx ?_
                      case yL9_2 => (intro w' hSw; (try dsimp only at hSw); go_split_ands; go_simp; try with_reducible rfl)
                      try simp only [Act.put, List.getElem_toArray, List.getElem_cons_succ, List.getElem_cons_zero, List.setIfInBounds_toArray, List.set_cons_zero, List.set_cons_succ]
                      refine wpAnyH_takeB (i := 4) (v := ?vyL9_4) rfl (by kernel_rfl) (fun _ _ _ h => h) rfl ?yL9_4 hSx ?_
                      case yL9_4 => (intro w' hSw; (try dsimp only at hSw); go_split_ands; go_simp; try with_reducible rfl)
                      try simp only [Act.put, List.getElem_toArray, List.getElem_cons_succ, List.getElem_cons_zero, List.setIfInBounds_toArray, List.set_cons_zero, List.set_cons_succ]
                      refine wpAnyH_takeB (i := 5) (v := ?vyL9_5) rfl (by kernel_rfl) (fun _ _ _ h => h) rfl ?yL9_5 hSx ?_
                      case yL9_5 => (intro w' hSw; (try dsimp only at hSw); go_split_ands; go_simp; try with_reducible rfl)
                      try simp only [Act.put, List.getElem_toArray, List.getElem_cons_succ, List.getElem_cons_zero, List.setIfInBounds_toArray, List.set_cons_zero, List.set_cons_succ]
                      refine wpAnyH_takeB (i := 6) (v := ?vyL9_6) rfl (by kernel_rfl) (fun _ _ _ h => h) rfl ?yL9_6 hSx ?_
                      case yL9_6 => (intro w' hSw; (try dsimp only at hSw); go_split_ands; go_simp; try with_reducible rfl)
                      try simp only [Act.put, List.getElem_toArray, List.getElem_cons_succ, List.getElem_cons_zero, List.setIfInBounds_toArray, List.set_cons_zero, List.set_cons_succ]
                      refine wpAnyH_takeB (i := 7) (v := ?vyL9_7) rfl (by kernel_rfl) (fun _ _ _ h => h) rfl ?yL9_7 hSx ?_
                      case yL9_7 => (intro w' hSw; (try dsimp only at hSw); go_split_ands; go_simp; try with_reducible rfl)
                      try simp only [Act.put, List.getElem_toArray, List.getElem_cons_succ, List.getElem_cons_zero, List.setIfInBounds_toArray, List.set_cons_zero, List.set_cons_succ]
                      refine wpAnyH_takeB (i := 8) (v := ?vyL9_8) rfl (by kernel_rfl) (fun _ _ _ h => h) rfl ?yL9_8 hSx ?_
                      case yL9_8 => (intro w' hSw; (try dsimp only at hSw); go_split_ands; go_simp; try with_reducible rfl)
                      try simp only [Act.put, List.getElem_toArray, List.getElem_cons_succ, List.getElem_cons_zero, List.setIfInBounds_toArray, List.set_cons_zero, List.set_cons_succ]
                      refine wpAnyH_takeB (i := 9) (v := ?vyL9_9) rfl (by kernel_rfl) (fun _ _ _ h => h) rfl ?yL9_9 hSx ?_
                      case yL9_9 => (intro w' hSw; (try dsimp only at hSw); go_split_ands; go_simp; try with_reducible rfl)
                      try simp only [Act.put, List.getElem_toArray, List.getElem_cons_succ, List.getElem_cons_zero, List.setIfInBounds_toArray, List.set_cons_zero, List.set_cons_succ]
                      refine wpAnyH_takeB (i := 10) (v := ?vyL9_10) rfl (by kernel_rfl) (fun _ _ _ h => h) rfl ?yL9_10 hSx ?_
                      case yL9_10 => (intro w' hSw; (try dsimp only at hSw); go_split_ands; go_simp; try with_reducible rfl)
                      try simp only [Act.put, List.getElem_toArray, List.getElem_cons_succ, List.getElem_cons_zero, List.setIfInBounds_toArray, List.set_cons_zero, List.set_cons_succ]
                      refine' wpAnyH_one (i := 3) ?taeL9_3 ?tbeL9_3 ?tceL9_3 ?tdeL9_3
                      case tbeL9_3 => rfl
                      case taeL9_3 => kernel_rfl
                      case tceL9_3 => rfl
                      intro K hK
                      go_simp
                      refine HC3.out.mono ?_
                      intro e w7 hop
                      have HOP := Lib.hid (hop.pre' (Fr.drew G1 w6))
                      obtain ⟨rfl, _⟩ := hop.thenE
                      clear hop
                      try dsimp only
                      refine hK.out _ _ (by obtain ⟨_, G7, _, s2⟩ := HOP.out; exact HSC.out w7 G7 s2) (fun hSx => ?_)
                      clear hK K
                      try simp only [Act.put, List.getElem_toArray, List.getElem_cons_succ, List.getElem_cons_zero, List.setIfInBounds_toArray, List.set_cons_zero, List.set_cons_succ]
                      refine wpAnyH_takeB (i := 11) (v := ?vyL9_11) rfl (by kernel_rfl) (fun _ _ _ h => h) rfl ?yL9_11 hSx ?_
                      case yL9_11 => (intro w' hSw; (try dsimp only at hSw); go_split_ands; go_simp; try with_reducible rfl)
                      try simp only [Act.put, List.getElem_toArray, List.getElem_cons_succ, List.getElem_cons_zero, List.setIfInBounds_toArray, List.set_cons_zero, List.set_cons_succ]
                      refine wpAnyH_takeB (i := 12) (v := ?vyL9_12) rfl (by kernel_rfl) (fun _ _ _ h => h) rfl ?yL9_12 hSx ?_
                      case yL9_12 => (intro w' hSw; (try dsimp only at hSw); go_split_ands; go_simp; try with_reducible rfl)
                      try simp only [Act.put, List.getElem_toArray, List.getElem_cons_succ, List.getElem_cons_zero, List.setIfInBounds_toArray, List.set_cons_zero, List.set_cons_succ]
                      refine wpAnyH_done (by kernel_rfl) ?_ _
                      obtain ⟨_, G7, r1, r2⟩ := HOP.out
                      have HL7 : Hid (Law W w7 G7 r.2 ∧ EsS W w7 G7 (.slice ea n ec) es ∧ G7.h = G.h) := ⟨HL6.out.1.op r1 r2 HANS.out.wf, HL6.out.2.1.op r2, r2.h.trans HL6.out.2.2⟩
                      have HR7 : Hid (L.length ≤ r.2.length ∧ r.2.length ≤ L.length + 3 ∧ r.1 < 2 * (r.2.length + 1)) := ⟨HANS.out.le, HANS.out.lenle, HANS.out.own⟩
                      clear r1 r2 HOP
                      have HNT := Lib.hid (Not_any r.1 w7 (by have := HR7.out; have := HLL.out; omega))
                      have HL8 := Lib.hid (HL7.out.1.after (w' := w7.alloc (.cells #[.int .i64 (r.1 : Int), .int .i64 (neg r.1 : Int)] 3)) ((Below.refl _ _).alloc (Nat.le_refl _) _))
                      have hA2 : ArgI (w7.alloc (.cells #[.int .i64 (r.1 : Int), .int .i64 (neg r.1 : Int)] 3)) (some ⟨w7.heap.size, 0, none⟩) 2 (fun j => (([r.1, neg r.1].getD j 0 : Nat) : Int)) := by
                        refine Or.inr ⟨w7.heap.size, 0, rfl, by simp, fun j hj => ?_⟩
                        rw [Nat.zero_add]
                        simp only [World.cell?, heap_alloc_new]
                        match j, hj with | 0, _ => rfl | 1, _ => rfl
                      have hEV2 := Eval_any HL8.out.rep HL8.out.wf ma mn mc M (HA.out.2.2.below HL8.out.below) (by omega) (some ⟨w7.heap.size, 0, none⟩) 2 2 _ hA2 (by omega) (fun j hj => by
                        have h := HR7.out; have h2 := HLL.out; have h3 := neg_lt h.2.2
                        match j, hj with
                        | 0, _ => show ((r.1 : Nat) : Int) ≤ _; omega
                        | 1, _ => show ((neg r.1 : Nat) : Int) ≤ _; omega) (by have := HR7.out; have := HLL.out; omega)
                      rw [HL7.out.2.2] at hEV2
                      have HEV2 := Lib.hid hEV2
                      clear hA2 hEV2
                      go_wp2_with fail
                      refine HNT.out.mono ?_
                      rintro e w' ⟨rfl, rfl⟩
                      go_wp2_with fail
                      refine HEV2.out.mono ?_
                      rintro e w8 ⟨vb2, rfl, hvb2, hrow2, hb8⟩
                      have f0 : w8.cell? ⟨vb2, 0, none⟩ = some (.bool true) := by
                        rw [hrow2.cell (i := 0) (by omega)]
                        show some (Value.bool (val (mdl M mn) r.2 (own r.2 ((r.1 : Nat) : Int)))) = _
                        rw [own_nat HR7.out.2.2, HWT.out]
                      have f1 : w8.cell? ⟨vb2, 1, none⟩ = some (.bool false) := by
                        rw [hrow2.cell (i := 1) (by omega)]
                        show some (Value.bool (val (mdl M mn) r.2 (own r.2 ((neg r.1 : Nat) : Int)))) = _
                        rw [own_nat (neg_lt HR7.out.2.2), val_neg, HWT.out]; rfl
                      have HB8 : Hid (Below w7.heap.size w7 w8) := ((Below.refl _ _).alloc (Nat.le_refl _) _ : Below w7.heap.size w7 (w7.alloc (.cells #[.int .i64 (r.1 : Int), .int .i64 (neg r.1 : Int)] 3))).trans (hb8.mono (by simp))
                      have HO8 : Hid (w8.ownsRow W.heap.size 3 1 (.slice ea n ec) n (es.map encN)) := by have := (HL7.out.2.1.after HB8.out).1; rw [← HN0.out] at this; exact this
                      have hbs8 : W.heap.size ≤ w8.heap.size := Nat.le_trans HL7.out.1.below.size HB8.out.size
                      clear hvb2 hrow2 hb8 HEV2 HSC
                      go_wp2_with (at_builtin; refine wpList_append_lies _ rfl _ _ 31 rfl W.heap.size 3 ii _ 1 8 Try.underlying31 hi hz0 hz1 hz2 rfl (by decide) _ _ _ rfl (HO8.out.alloc _) ⟨w8.heap.size, 0, none⟩ 1 1 [.int .i64 (r.1 : Int)] rfl rfl (World.news_of_block (cs := #[.int .i64 (r.1 : Int)]) (t := 3) (fr := (0, 0)) (heap_alloc_new w8 _)) (by simp [Value.oneCell']) (by decide) (by unfold maxLen; omega) (by omega) (by simp; omega) (w8.heap.size + 1) (by simp) ?_; intro g cap w9 hown9 hgrow9 hat9 hlt9; refine Hid.out ?_)
                      refine Lib.hid ?_
                      have HEND : Hid (TruthI W G.h (i + 1) (.slice (some ⟨g, 0, none⟩) (n + 1) cap) w9) := by
                        have hp := (HL7.out.2.1.after HB8.out).push (e := r.1) (HL7.out.1.after HB8.out) (.cells #[.int .i64 (r.1 : Int)] 3) hgrow9 hat9 (by rw [← HN0.out]; exact hown9)
                        obtain ⟨G9, g9, k1, k2⟩ := hp
                        rw [← HN0.out] at k2
                        refine ⟨G9, r.2, es ++ [r.1], g9.trans HL7.out.2.2, k1, k2, by rw [List.length_append, HES.out.1]; rfl, by have := HR7.out; have := HES.out.2.1; omega, fun j hj => ?_⟩
                        rw [getD_snoc]
                        split
                        · rename_i e; have := HES.out.2.2 j e; have := HR7.out; omega
                        · split
                          · exact HR7.out.2.2
                          · have := HR7.out; omega
                      clear hown9 hgrow9 hat9 hlt9
                      go_wp2_with fail
                      go_roundw
                      case rel => exact ⟨i + 1, by go_num, by omega, HEND⟩
                      case measure => simp [intOf]; omega
                | true =>
                  cases v1 with
                  | false =>
                    as_aux_lemma =>
                      have HANS := Lib.hid (xorE_ans HL6.out.1.wf HOW.out.1 HOW.out.2.1)
                      have HWT : Hid (val (mdl M mn) (xorE L x y).2 (xorE L x y).1 = true) := by
                        have hv0 := HV.out.1
                        have hv1 := HV.out.2.1
                        have hv2 := HV.out.2.2
                        show val (mdl M mn) (xorE L x y).2 (xorE L x y).1 = true
                        rw [HANS.out.val]
                        simp [← hv0, ← hv1, ← hv2]
                      generalize hr : xorE L x y = r at *
                      clear hr
                      go_wp2_with fail
                      refine wp_region_H (S := (fun w' => w'.cell? ⟨vb, 0, none⟩ = some (.bool true) ∧ w'.cell? ⟨vb, 1, none⟩ = some (.bool false) ∧ w'.cell? ⟨vb, 2, none⟩ = some (.bool v2))) 13 (by kernel_rfl) ((HSC.out _ G1 (Fr.drew _ _))) (fun hSx => ?_)
                      refine wpAnyH_takeB (i := 0) (v := ?vyL10_0) rfl (by kernel_rfl) (fun _ _ _ h => h) rfl ?yL10_0 hSx ?_
                      case yL10_0 => (intro w' hSw; (try dsimp only at hSw); go_split_ands; go_simp; try with_reducible rfl)
                      try simp only [Act.put, List.getElem_toArray, List.getElem_cons_succ, List.getElem_cons_zero, List.setIfInBounds_toArray, List.set_cons_zero, List.set_cons_succ]
                      refine wpAnyH_takeB (i := 1) (v := ?vyL10_1) rfl (by kernel_rfl) (fun _ _ _ h => h) rfl ?yL10_1 hSx ?_
                      case yL10_1 => (intro w' hSw; (try dsimp only at hSw); go_split_ands; go_simp; try with_reducible rfl)
                      try simp only [Act.put, List.getElem_toArray, List.getElem_cons_succ, List.getElem_cons_zero, List.setIfInBounds_toArray, List.set_cons_zero, List.set_cons_succ]
                      refine wpAnyH_takeB (i := 2) (v := ?vyL10_2) rfl (by kernel_rfl) (fun _ _ _ h => h) rfl ?yL10_2 hSx ?_
                      case yL10_2 => (intro w' hSw; (try dsimp only at hSw); go_split_ands; go_simp; try with_reducible rfl)
                      try simp only [Act.put, List.getElem_toArray, List.getElem_cons_succ, List.getElem_cons_zero, List.setIfInBounds_toArray, List.set_cons_zero, List.set_cons_succ]
                      refine wpAnyH_takeB (i := 4) (v := ?vyL10_4) rfl (by kernel_rfl) (fun _ _ _ h => h) rfl ?yL10_4 hSx ?_
                      case yL10_4 => (intro w' hSw; (try dsimp only at hSw); go_split_ands; go_simp; try with_reducible rfl)
                      try simp only [Act.put, List.getElem_toArray, List.getElem_cons_succ, List.getElem_cons_zero, List.setIfInBounds_toArray, List.set_cons_zero, List.set_cons_succ]
                      refine wpAnyH_takeB (i := 5) (v := ?vyL10_5) rfl (by kernel_rfl) (fun _ _ _ h => h) rfl ?yL10_5 hSx ?_
                      case yL10_5 => (intro w' hSw; (try dsimp only at hSw); go_split_ands; go_simp; try with_reducible rfl)
                      try simp only [Act.put, List.getElem_toArray, List.getElem_cons_succ, List.getElem_cons_zero, List.setIfInBounds_toArray, List.set_cons_zero, List.set_cons_succ]
                      refine wpAnyH_takeB (i := 6) (v := ?vyL10_6) rfl (by kernel_rfl) (fun _ _ _ h => h) rfl ?yL10_6 hSx ?_
                      case yL10_6 => (intro w' hSw; (try dsimp only at hSw); go_split_ands; go_simp; try with_reducible rfl)
                      try simp only [Act.put, List.getElem_toArray, List.getElem_cons_succ, List.getElem_cons_zero, List.setIfInBounds_toArray, List.set_cons_zero, List.set_cons_succ]
                      refine wpAnyH_takeB (i := 7) (v := ?vyL10_7) rfl (by kernel_rfl) (fun _ _ _ h => h) rfl ?yL10_7 hSx ?_
                      case yL10_7 => (intro w' hSw; (try dsimp only at hSw); go_split_ands; go_simp; try with_reducible rfl)
                      try simp only [Act.put, List.getElem_toArray, List.getElem_cons_succ, List.getElem_cons_zero, List.setIfInBounds_toArray, List.set_cons_zero, List.set_cons_succ]
                      refine wpAnyH_takeB (i := 8) (v := ?vyL10_8) rfl (by kernel_rfl) (fun _ _ _ h => h) rfl ?yL10_8 hSx ?_
                      case yL10_8 => (intro w' hSw; (try dsimp only at hSw); go_split_ands; go_simp; try with_reducible rfl)
                      try simp only [Act.put, List.getElem_toArray, List.getElem_cons_succ, List.getElem_cons_zero, List.setIfInBounds_toArray, List.set_cons_zero, List.set_cons_succ]
                      refine wpAnyH_takeB (i := 9) (v := ?vyL10_9) rfl (by kernel_rfl) (fun _ _ _ h => h) rfl ?yL10_9 hSx ?_
                      case yL10_9 => (intro w' hSw; (try dsimp only at hSw); go_split_ands; go_simp; try with_reducible rfl)
                      try simp only [Act.put, List.getElem_toArray, List.getElem_cons_succ, List.getElem_cons_zero, List.setIfInBounds_toArray, List.set_cons_zero, List.set_cons_succ]
                      refine wpAnyH_takeB (i := 10) (v := ?vyL10_10) rfl (by kernel_rfl) (fun _ _ _ h => h) rfl ?yL10_10 hSx ?_
                      case yL10_10 => (intro w' hSw; (try dsimp only at hSw); go_split_ands; go_simp; try with_reducible rfl)
                      try simp only [Act.put, List.getElem_toArray, List.getElem_cons_succ, List.getElem_cons_zero, List.setIfInBounds_toArray, List.set_cons_zero, List.set_cons_succ]
                      refine' wpAnyH_one (i := 3) ?taeL10_3 ?tbeL10_3 ?tceL10_3 ?tdeL10_3
                      case tbeL10_3 => rfl
                      case taeL10_3 => kernel_rfl
                      case tceL10_3 => rfl
                      intro K hK
                      go_simp
                      refine HC3.out.mono ?_
                      intro e w7 hop
                      have HOP := Lib.hid (hop.pre' (Fr.drew G1 w6))
                      obtain ⟨rfl, _⟩ := hop.thenE
                      clear hop
                      try dsimp only
                      refine hK.out _ _ (by obtain ⟨_, G7, _, s2⟩ := HOP.out; exact HSC.out w7 G7 s2) (fun hSx => ?_)
                      clear hK K
                      try simp only [Act.put, List.getElem_toArray, List.getElem_cons_succ, List.getElem_cons_zero, List.setIfInBounds_toArray, List.set_cons_zero, List.set_cons_succ]
                      refine wpAnyH_takeB (i := 11) (v := ?vyL10_11) rfl (by kernel_rfl) (fun _ _ _ h => h) rfl ?yL10_11 hSx ?_
                      case yL10_11 => (intro w' hSw; (try dsimp only at hSw); go_split_ands; go_simp; try with_reducible rfl)
                      try simp only [Act.put, List.getElem_toArray, List.getElem_cons_succ, List.getElem_cons_zero, List.setIfInBounds_toArray, List.set_cons_zero, List.set_cons_succ]
                      refine wpAnyH_takeB (i := 12) (v := ?vyL10_12) rfl (by kernel_rfl) (fun _ _ _ h => h) rfl ?yL10_12 hSx ?_
                      case yL10_12 => (intro w' hSw; (try dsimp only at hSw); go_split_ands; go_simp; try with_reducible rfl)
                      try simp only [Act.put, List.getElem_toArray, List.getElem_cons_succ, List.getElem_cons_zero, List.setIfInBounds_toArray, List.set_cons_zero, List.set_cons_succ]
                      refine wpAnyH_done (by kernel_rfl) ?_ _
                      obtain ⟨_, G7, r1, r2⟩ := HOP.out
                      have HL7 : Hid (Law W w7 G7 r.2 ∧ EsS W w7 G7 (.slice ea n ec) es ∧ G7.h = G.h) := ⟨HL6.out.1.op r1 r2 HANS.out.wf, HL6.out.2.1.op r2, r2.h.trans HL6.out.2.2⟩
                      have HR7 : Hid (L.length ≤ r.2.length ∧ r.2.length ≤ L.length + 3 ∧ r.1 < 2 * (r.2.length + 1)) := ⟨HANS.out.le, HANS.out.lenle, HANS.out.own⟩
                      clear r1 r2 HOP
                      have HNT := Lib.hid (Not_any r.1 w7 (by have := HR7.out; have := HLL.out; omega))
                      have HL8 := Lib.hid (HL7.out.1.after (w' := w7.alloc (.cells #[.int .i64 (r.1 : Int), .int .i64 (neg r.1 : Int)] 3)) ((Below.refl _ _).alloc (Nat.le_refl _) _))
                      have hA2 : ArgI (w7.alloc (.cells #[.int .i64 (r.1 : Int), .int .i64 (neg r.1 : Int)] 3)) (some ⟨w7.heap.size, 0, none⟩) 2 (fun j => (([r.1, neg r.1].getD j 0 : Nat) : Int)) := by
                        refine Or.inr ⟨w7.heap.size, 0, rfl, by simp, fun j hj => ?_⟩
                        rw [Nat.zero_add]
                        simp only [World.cell?, heap_alloc_new]
                        match j, hj with | 0, _ => rfl | 1, _ => rfl
                      have hEV2 := Eval_any HL8.out.rep HL8.out.wf ma mn mc M (HA.out.2.2.below HL8.out.below) (by omega) (some ⟨w7.heap.size, 0, none⟩) 2 2 _ hA2 (by omega) (fun j hj => by
                        have h := HR7.out; have h2 := HLL.out; have h3 := neg_lt h.2.2
                        match j, hj with
                        | 0, _ => show ((r.1 : Nat) : Int) ≤ _; omega
                        | 1, _ => show ((neg r.1 : Nat) : Int) ≤ _; omega) (by have := HR7.out; have := HLL.out; omega)
                      rw [HL7.out.2.2] at hEV2
                      have HEV2 := Lib.hid hEV2
                      clear hA2 hEV2
                      go_wp2_with fail
                      refine HNT.out.mono ?_
                      rintro e w' ⟨rfl, rfl⟩
                      go_wp2_with fail
                      refine HEV2.out.mono ?_
                      rintro e w8 ⟨vb2, rfl, hvb2, hrow2, hb8⟩
                      have f0 : w8.cell? ⟨vb2, 0, none⟩ = some (.bool true) := by
                        rw [hrow2.cell (i := 0) (by omega)]
                        show some (Value.bool (val (mdl M mn) r.2 (own r.2 ((r.1 : Nat) : Int)))) = _
                        rw [own_nat HR7.out.2.2, HWT.out]
                      have f1 : w8.cell? ⟨vb2, 1, none⟩ = some (.bool false) := by
                        rw [hrow2.cell (i := 1) (by omega)]
                        show some (Value.bool (val (mdl M mn) r.2 (own r.2 ((neg r.1 : Nat) : Int)))) = _
                        rw [own_nat (neg_lt HR7.out.2.2), val_neg, HWT.out]; rfl
                      have HB8 : Hid (Below w7.heap.size w7 w8) := ((Below.refl _ _).alloc (Nat.le_refl _) _ : Below w7.heap.size w7 (w7.alloc (.cells #[.int .i64 (r.1 : Int), .int .i64 (neg r.1 : Int)] 3))).trans (hb8.mono (by simp))
                      have HO8 : Hid (w8.ownsRow W.heap.size 3 1 (.slice ea n ec) n (es.map encN)) := by have := (HL7.out.2.1.after HB8.out).1; rw [← HN0.out] at this; exact this
                      have hbs8 : W.heap.size ≤ w8.heap.size := Nat.le_trans HL7.out.1.below.size HB8.out.size
                      clear hvb2 hrow2 hb8 HEV2 HSC
                      go_wp2_with (at_builtin; refine wpList_append_lies _ rfl _ _ 31 rfl W.heap.size 3 ii _ 1 8 Try.underlying31 hi hz0 hz1 hz2 rfl (by decide) _ _ _ rfl (HO8.out.alloc _) ⟨w8.heap.size, 0, none⟩ 1 1 [.int .i64 (r.1 : Int)] rfl rfl (World.news_of_block (cs := #[.int .i64 (r.1 : Int)]) (t := 3) (fr := (0, 0)) (heap_alloc_new w8 _)) (by simp [Value.oneCell']) (by decide) (by unfold maxLen; omega) (by omega) (by simp; omega) (w8.heap.size + 1) (by simp) ?_; intro g cap w9 hown9 hgrow9 hat9 hlt9; refine Hid.out ?_)
                      refine Lib.hid ?_
                      have HEND : Hid (TruthI W G.h (i + 1) (.slice (some ⟨g, 0, none⟩) (n + 1) cap) w9) := by
                        have hp := (HL7.out.2.1.after HB8.out).push (e := r.1) (HL7.out.1.after HB8.out) (.cells #[.int .i64 (r.1 : Int)] 3) hgrow9 hat9 (by rw [← HN0.out]; exact hown9)
                        obtain ⟨G9, g9, k1, k2⟩ := hp
                        rw [← HN0.out] at k2
                        refine ⟨G9, r.2, es ++ [r.1], g9.trans HL7.out.2.2, k1, k2, by rw [List.length_append, HES.out.1]; rfl, by have := HR7.out; have := HES.out.2.1; omega, fun j hj => ?_⟩
                        rw [getD_snoc]
                        split
                        · rename_i e; have := HES.out.2.2 j e; have := HR7.out; omega
                        · split
                          · exact HR7.out.2.2
                          · have := HR7.out; omega
                      clear hown9 hgrow9 hat9 hlt9
                      go_wp2_with fail
                      go_roundw
                      case rel => exact ⟨i + 1, by go_num, by omega, HEND⟩
                      case measure => simp [intOf]; omega
                  | true =>
                    as_aux_lemma =>
                      have HANS := Lib.hid (xorE_ans HL6.out.1.wf HOW.out.1 HOW.out.2.1)
                      have HWT : Hid (val (mdl M mn) (xorE L x y).2 (xorE L x y).1 = false) := by
                        have hv0 := HV.out.1
                        have hv1 := HV.out.2.1
                        have hv2 := HV.out.2.2
                        show val (mdl M mn) (xorE L x y).2 (xorE L x y).1 = false
                        rw [HANS.out.val]
                        simp [← hv0, ← hv1, ← hv2]
                      generalize hr : xorE L x y = r at *
                      clear hr
                      go_wp2_with fail
                      refine wp_region_H (S := (fun w' => w'.cell? ⟨vb, 0, none⟩ = some (.bool true) ∧ w'.cell? ⟨vb, 1, none⟩ = some (.bool true) ∧ w'.cell? ⟨vb, 2, none⟩ = some (.bool v2))) 13 (by kernel_rfl) ((HSC.out _ G1 (Fr.drew _ _))) (fun hSx => ?_)
                      refine wpAnyH_takeB (i := 0) (v := ?vyL11_0) rfl (by kernel_rfl) (fun _ _ _ h => h) rfl ?yL11_0 hSx ?_
                      case yL11_0 => (intro w' hSw; (try dsimp only at hSw); go_split_ands; go_simp; try with_reducible rfl)
                      try simp only [Act.put, List.getElem_toArray, List.getElem_cons_succ, List.getElem_cons_zero, List.setIfInBounds_toArray, List.set_cons_zero, List.set_cons_succ]
                      refine wpAnyH_takeB (i := 1) (v := ?vyL11_1) rfl (by kernel_rfl) (fun _ _ _ h => h) rfl ?yL11_1 hSx ?_
                      case yL11_1 => (intro w' hSw; (try dsimp only at hSw); go_split_ands; go_simp; try with_reducible rfl)
                      try simp only [Act.put, List.getElem_toArray, List.getElem_cons_succ, List.getElem_cons_zero, List.setIfInBounds_toArray, List.set_cons_zero, List.set_cons_succ]
                      refine wpAnyH_takeB (i := 2) (v := ?vyL11_2) rfl (by kernel_rfl) (fun _ _ _ h => h) rfl ?yL11_2 hSx ?_
                      case yL11_2 => (intro w' hSw; (try dsimp only at hSw); go_split_ands; go_simp; try with_reducible rfl)
                      try simp only [Act.put, List.getElem_toArray, List.getElem_cons_succ, List.getElem_cons_zero, List.setIfInBounds_toArray, List.set_cons_zero, List.set_cons_succ]
                      refine wpAnyH_takeB (i := 4) (v := ?vyL11_4) rfl (by kernel_rfl) (fun _ _ _ h => h) rfl ?yL11_4 hSx ?_
                      case yL11_4 => (intro w' hSw; (try dsimp only at hSw); go_split_ands; go_simp; try with_reducible rfl)
                      try simp only [Act.put, List.getElem_toArray, List.getElem_cons_succ, List.getElem_cons_zero, List.setIfInBounds_toArray, List.set_cons_zero, List.set_cons_succ]
                      refine wpAnyH_takeB (i := 5) (v := ?vyL11_5) rfl (by kernel_rfl) (fun _ _ _ h => h) rfl ?yL11_5 hSx ?_
                      case yL11_5 => (intro w' hSw; (try dsimp only at hSw); go_split_ands; go_simp; try with_reducible rfl)
                      try simp only [Act.put, List.getElem_toArray, List.getElem_cons_succ, List.getElem_cons_zero, List.setIfInBounds_toArray, List.set_cons_zero, List.set_cons_succ]
                      refine wpAnyH_takeB (i := 6) (v := ?vyL11_6) rfl (by kernel_rfl) (fun _ _ _ h => h) rfl ?yL11_6 hSx ?_
                      case yL11_6 => (intro w' hSw; (try dsimp only at hSw); go_split_ands; go_simp; try with_reducible rfl)
                      try simp only [Act.put, List.getElem_toArray, List.getElem_cons_succ, List.getElem_cons_zero, List.setIfInBounds_toArray, List.set_cons_zero, List.set_cons_succ]
                      refine wpAnyH_takeB (i := 7) (v := ?vyL11_7) rfl (by kernel_rfl) (fun _ _ _ h => h) rfl ?yL11_7 hSx ?_
                      case yL11_7 => (intro w' hSw; (try dsimp only at hSw); go_split_ands; go_simp; try with_reducible rfl)
                      try simp only [Act.put, List.getElem_toArray, List.getElem_cons_succ, List.getElem_cons_zero, List.setIfInBounds_toArray, List.set_cons_zero, List.set_cons_succ]
                      refine wpAnyH_takeB (i := 8) (v := ?vyL11_8) rfl (by kernel_rfl) (fun _ _ _ h => h) rfl ?yL11_8 hSx ?_
                      case yL11_8 => (intro w' hSw; (try dsimp only at hSw); go_split_ands; go_simp; try with_reducible rfl)
                      try simp only [Act.put, List.getElem_toArray, List.getElem_cons_succ, List.getElem_cons_zero, List.setIfInBounds_toArray, List.set_cons_zero, List.set_cons_succ]
                      refine wpAnyH_takeB (i := 9) (v := ?vyL11_9) rfl (by kernel_rfl) (fun _ _ _ h => h) rfl ?yL11_9 hSx ?_
                      case yL11_9 => (intro w' hSw; (try dsimp only at hSw); go_split_ands; go_simp; try with_reducible rfl)
                      try simp only [Act.put, List.getElem_toArray, List.getElem_cons_succ, List.getElem_cons_zero, List.setIfInBounds_toArray, List.set_cons_zero, List.set_cons_succ]
                      refine wpAnyH_takeB (i := 10) (v := ?vyL11_10) rfl (by kernel_rfl) (fun _ _ _ h => h) rfl ?yL11_10 hSx ?_
                      case yL11_10 => (intro w' hSw; (try dsimp only at hSw); go_split_ands; go_simp; try with_reducible rfl)
                      try simp only [Act.put, List.getElem_toArray, List.getElem_cons_succ, List.getElem_cons_zero, List.setIfInBounds_toArray, List.set_cons_zero, List.set_cons_succ]
                      refine' wpAnyH_one (i := 3) ?taeL11_3 ?tbeL11_3 ?tceL11_3 ?tdeL11_3
                      case tbeL11_3 => rfl
                      case taeL11_3 => kernel_rfl
                      case tceL11_3 => rfl
                      intro K hK
                      go_simp
                      refine HC3.out.mono ?_
                      intro e w7 hop
                      have HOP := Lib.hid (hop.pre' (Fr.drew G1 w6))
                      obtain ⟨rfl, _⟩ := hop.thenE
                      clear hop
                      try dsimp only
                      refine hK.out _ _ (by obtain ⟨_, G7, _, s2⟩ := HOP.out; exact HSC.out w7 G7 s2) (fun hSx => ?_)
                      clear hK K
                      try simp only [Act.put, List.getElem_toArray, List.getElem_cons_succ, List.getElem_cons_zero, List.setIfInBounds_toArray, List.set_cons_zero, List.set_cons_succ]
                      refine wpAnyH_takeB (i := 11) (v := ?vyL11_11) rfl (by kernel_rfl) (fun _ _ _ h => h) rfl ?yL11_11 hSx ?_
                      case yL11_11 => (intro w' hSw; (try dsimp only at hSw); go_split_ands; go_simp; try with_reducible rfl)
                      try simp only [Act.put, List.getElem_toArray, List.getElem_cons_succ, List.getElem_cons_zero, List.setIfInBounds_toArray, List.set_cons_zero, List.set_cons_succ]
                      refine wpAnyH_takeB (i := 12) (v := ?vyL11_12) rfl (by kernel_rfl) (fun _ _ _ h => h) rfl ?yL11_12 hSx ?_
                      case yL11_12 => (intro w' hSw; (try dsimp only at hSw); go_split_ands; go_simp; try with_reducible rfl)
                      try simp only [Act.put, List.getElem_toArray, List.getElem_cons_succ, List.getElem_cons_zero, List.setIfInBounds_toArray, List.set_cons_zero, List.set_cons_succ]
                      refine wpAnyH_done (by kernel_rfl) ?_ _
                      obtain ⟨_, G7, r1, r2⟩ := HOP.out
                      have HL7 : Hid (Law W w7 G7 r.2 ∧ EsS W w7 G7 (.slice ea n ec) es ∧ G7.h = G.h) := ⟨HL6.out.1.op r1 r2 HANS.out.wf, HL6.out.2.1.op r2, r2.h.trans HL6.out.2.2⟩
                      have HR7 : Hid (L.length ≤ r.2.length ∧ r.2.length ≤ L.length + 3 ∧ r.1 < 2 * (r.2.length + 1)) := ⟨HANS.out.le, HANS.out.lenle, HANS.out.own⟩
                      clear r1 r2 HOP
                      have HNT := Lib.hid (Not_any r.1 w7 (by have := HR7.out; have := HLL.out; omega))
                      have HL8 := Lib.hid (HL7.out.1.after (w' := w7.alloc (.cells #[.int .i64 (r.1 : Int), .int .i64 (neg r.1 : Int)] 3)) ((Below.refl _ _).alloc (Nat.le_refl _) _))
                      have hA2 : ArgI (w7.alloc (.cells #[.int .i64 (r.1 : Int), .int .i64 (neg r.1 : Int)] 3)) (some ⟨w7.heap.size, 0, none⟩) 2 (fun j => (([r.1, neg r.1].getD j 0 : Nat) : Int)) := by
                        refine Or.inr ⟨w7.heap.size, 0, rfl, by simp, fun j hj => ?_⟩
                        rw [Nat.zero_add]
                        simp only [World.cell?, heap_alloc_new]
                        match j, hj with | 0, _ => rfl | 1, _ => rfl
                      have hEV2 := Eval_any HL8.out.rep HL8.out.wf ma mn mc M (HA.out.2.2.below HL8.out.below) (by omega) (some ⟨w7.heap.size, 0, none⟩) 2 2 _ hA2 (by omega) (fun j hj => by
                        have h := HR7.out; have h2 := HLL.out; have h3 := neg_lt h.2.2
                        match j, hj with
                        | 0, _ => show ((r.1 : Nat) : Int) ≤ _; omega
                        | 1, _ => show ((neg r.1 : Nat) : Int) ≤ _; omega) (by have := HR7.out; have := HLL.out; omega)
                      rw [HL7.out.2.2] at hEV2
                      have HEV2 := Lib.hid hEV2
                      clear hA2 hEV2
                      go_wp2_with fail
                      refine HNT.out.mono ?_
                      rintro e w' ⟨rfl, rfl⟩
                      go_wp2_with fail
                      refine HEV2.out.mono ?_
                      rintro e w8 ⟨vb2, rfl, hvb2, hrow2, hb8⟩
                      have f0 : w8.cell? ⟨vb2, 0, none⟩ = some (.bool false) := by
                        rw [hrow2.cell (i := 0) (by omega)]
                        show some (Value.bool (val (mdl M mn) r.2 (own r.2 ((r.1 : Nat) : Int)))) = _
                        rw [own_nat HR7.out.2.2, HWT.out]
                      have f1 : w8.cell? ⟨vb2, 1, none⟩ = some (.bool true) := by
                        rw [hrow2.cell (i := 1) (by omega)]
                        show some (Value.bool (val (mdl M mn) r.2 (own r.2 ((neg r.1 : Nat) : Int)))) = _
                        rw [own_nat (neg_lt HR7.out.2.2), val_neg, HWT.out]; rfl
                      have HB8 : Hid (Below w7.heap.size w7 w8) := ((Below.refl _ _).alloc (Nat.le_refl _) _ : Below w7.heap.size w7 (w7.alloc (.cells #[.int .i64 (r.1 : Int), .int .i64 (neg r.1 : Int)] 3))).trans (hb8.mono (by simp))
                      have HO8 : Hid (w8.ownsRow W.heap.size 3 1 (.slice ea n ec) n (es.map encN)) := by have := (HL7.out.2.1.after HB8.out).1; rw [← HN0.out] at this; exact this
                      have hbs8 : W.heap.size ≤ w8.heap.size := Nat.le_trans HL7.out.1.below.size HB8.out.size
                      clear hvb2 hrow2 hb8 HEV2 HSC
                      go_wp2_with (at_builtin; refine wpList_append_lies _ rfl _ _ 31 rfl W.heap.size 3 ii _ 1 8 Try.underlying31 hi hz0 hz1 hz2 rfl (by decide) _ _ _ rfl (HO8.out.alloc _) ⟨w8.heap.size, 0, none⟩ 1 1 [.int .i64 (r.1 : Int)] rfl rfl (World.news_of_block (cs := #[.int .i64 (r.1 : Int)]) (t := 3) (fr := (0, 0)) (heap_alloc_new w8 _)) (by simp [Value.oneCell']) (by decide) (by unfold maxLen; omega) (by omega) (by simp; omega) (w8.heap.size + 1) (by simp) ?_; intro g cap w9 hown9 hgrow9 hat9 hlt9; refine Hid.out ?_)
                      refine Lib.hid ?_
                      have HEND : Hid (TruthI W G.h (i + 1) (.slice (some ⟨g, 0, none⟩) (n + 1) cap) w9) := by
                        have hp := (HL7.out.2.1.after HB8.out).push (e := r.1) (HL7.out.1.after HB8.out) (.cells #[.int .i64 (r.1 : Int)] 3) hgrow9 hat9 (by rw [← HN0.out]; exact hown9)
                        obtain ⟨G9, g9, k1, k2⟩ := hp
                        rw [← HN0.out] at k2
                        refine ⟨G9, r.2, es ++ [r.1], g9.trans HL7.out.2.2, k1, k2, by rw [List.length_append, HES.out.1]; rfl, by have := HR7.out; have := HES.out.2.1; omega, fun j hj => ?_⟩
                        rw [getD_snoc]
                        split
                        · rename_i e; have := HES.out.2.2 j e; have := HR7.out; omega
                        · split
                          · exact HR7.out.2.2
                          · have := HR7.out; omega
                      clear hown9 hgrow9 hat9 hlt9
                      go_wp2_with fail
                      go_roundw
                      case rel => exact ⟨i + 1, by go_num, by omega, HEND⟩
                      case measure => simp [intOf]; omega
              · have kf3 : (kk == 3) = false := by simpa using kk3
                clear kk3
                by_cases kk4 : kk = 4
                · subst kk4
                  cases v2 with
                  | false =>
                    as_aux_lemma =>
                      obtain ⟨nv, hnv⟩ : ∃ nv, nv = !v1 := ⟨_, rfl⟩
                      have hq1 : (nv == v1) = false := by rw [hnv]; cases v1 <;> rfl
                      have HNV := Lib.hid hnv
                      clear hnv
                      have HANS := Lib.hid (muxE_ans HL6.out.1.wf HOW.out.2.2.1 HOW.out.1 HOW.out.2.1)
                      have HWT : Hid (val (mdl M mn) (muxE L z x y).2 (muxE L z x y).1 = v1) := by
                        have hv0 := HV.out.1
                        have hv1 := HV.out.2.1
                        have hv2 := HV.out.2.2
                        show val (mdl M mn) (muxE L z x y).2 (muxE L z x y).1 = v1
                        rw [HANS.out.val]
                        simp [← hv0, ← hv1, ← hv2]
                      generalize hr : muxE L z x y = r at *
                      clear hr
                      go_wp2_with fail
                      refine wp_region_H (S := (fun w' => w'.cell? ⟨vb, 0, none⟩ = some (.bool v0) ∧ w'.cell? ⟨vb, 1, none⟩ = some (.bool v1) ∧ w'.cell? ⟨vb, 2, none⟩ = some (.bool false))) 26 (by kernel_rfl) ((HSC.out _ G1 (Fr.drew _ _))) (fun hSx => ?_)
                      refine wpAnyH_takeB (i := 0) (v := ?vyL12_0) rfl (by kernel_rfl) (fun _ _ _ h => h) rfl ?yL12_0 hSx ?_
                      case yL12_0 => (intro w' hSw; (try dsimp only at hSw); go_split_ands; go_simp; try with_reducible rfl)
                      try simp only [Act.put, List.getElem_toArray, List.getElem_cons_succ, List.getElem_cons_zero, List.setIfInBounds_toArray, List.set_cons_zero, List.set_cons_succ]
                      refine wpAnyH_takeB (i := 1) (v := ?vyL12_1) rfl (by kernel_rfl) (fun _ _ _ h => h) rfl ?yL12_1 hSx ?_
                      case yL12_1 => (intro w' hSw; (try dsimp only at hSw); go_split_ands; go_simp; try with_reducible rfl)
                      try simp only [Act.put, List.getElem_toArray, List.getElem_cons_succ, List.getElem_cons_zero, List.setIfInBounds_toArray, List.set_cons_zero, List.set_cons_succ]
                      refine wpAnyH_takeB (i := 2) (v := ?vyL12_2) rfl (by kernel_rfl) (fun _ _ _ h => h) rfl ?yL12_2 hSx ?_
                      case yL12_2 => (intro w' hSw; (try dsimp only at hSw); go_split_ands; go_simp; try with_reducible rfl)
                      try simp only [Act.put, List.getElem_toArray, List.getElem_cons_succ, List.getElem_cons_zero, List.setIfInBounds_toArray, List.set_cons_zero, List.set_cons_succ]
                      refine wpAnyH_takeB (i := 3) (v := ?vyL12_3) rfl (by kernel_rfl) (fun _ _ _ h => h) rfl ?yL12_3 hSx ?_
                      case yL12_3 => (intro w' hSw; (try dsimp only at hSw); go_split_ands; go_simp; try with_reducible rfl)
                      try simp only [Act.put, List.getElem_toArray, List.getElem_cons_succ, List.getElem_cons_zero, List.setIfInBounds_toArray, List.set_cons_zero, List.set_cons_succ]
                      refine wpAnyH_takeB (i := 5) (v := ?vyL12_5) rfl (by kernel_rfl) (fun _ _ _ h => h) rfl ?yL12_5 hSx ?_
                      case yL12_5 => (intro w' hSw; (try dsimp only at hSw); go_split_ands; go_simp; try with_reducible rfl)
                      try simp only [Act.put, List.getElem_toArray, List.getElem_cons_succ, List.getElem_cons_zero, List.setIfInBounds_toArray, List.set_cons_zero, List.set_cons_succ]
                      refine wpAnyH_takeB (i := 6) (v := ?vyL12_6) rfl (by kernel_rfl) (fun _ _ _ h => h) rfl ?yL12_6 hSx ?_
                      case yL12_6 => (intro w' hSw; (try dsimp only at hSw); go_split_ands; go_simp; try with_reducible rfl)
                      try simp only [Act.put, List.getElem_toArray, List.getElem_cons_succ, List.getElem_cons_zero, List.setIfInBounds_toArray, List.set_cons_zero, List.set_cons_succ]
                      refine wpAnyH_takeB (i := 7) (v := ?vyL12_7) rfl (by kernel_rfl) (fun _ _ _ h => h) rfl ?yL12_7 hSx ?_
                      case yL12_7 => (intro w' hSw; (try dsimp only at hSw); go_split_ands; go_simp; try with_reducible rfl)
                      try simp only [Act.put, List.getElem_toArray, List.getElem_cons_succ, List.getElem_cons_zero, List.setIfInBounds_toArray, List.set_cons_zero, List.set_cons_succ]
                      refine' wpAnyH_one (i := 4) ?taeL12_4 ?tbeL12_4 ?tceL12_4 ?tdeL12_4
                      case tbeL12_4 => rfl
                      case taeL12_4 => kernel_rfl
                      case tceL12_4 => rfl
                      intro K hK
                      go_simp
                      refine HC4.out.mono ?_
                      intro e w7 hop
                      have HOP := Lib.hid (hop.pre' (Fr.drew G1 w6))
                      obtain ⟨rfl, _⟩ := hop.thenE
                      clear hop
                      try dsimp only
                      refine hK.out _ _ (by obtain ⟨_, G7, _, s2⟩ := HOP.out; exact HSC.out w7 G7 s2) (fun hSx => ?_)
                      clear hK K
                      try simp only [Act.put, List.getElem_toArray, List.getElem_cons_succ, List.getElem_cons_zero, List.setIfInBounds_toArray, List.set_cons_zero, List.set_cons_succ]
                      refine wpAnyH_takeB (i := 8) (v := ?vyL12_8) rfl (by kernel_rfl) (fun _ _ _ h => h) rfl ?yL12_8 hSx ?_
                      case yL12_8 => (intro w' hSw; (try dsimp only at hSw); go_split_ands; go_simp; try with_reducible rfl)
                      try simp only [Act.put, List.getElem_toArray, List.getElem_cons_succ, List.getElem_cons_zero, List.setIfInBounds_toArray, List.set_cons_zero, List.set_cons_succ]
                      first | (refine wpAnyH_takeB (i := 9) (v := ?vyL12_9) rfl (by kernel_rfl) (fun _ _ _ h => h) rfl ?yL12_9 hSx ?_; case yL12_9 => (intro w' hSw; (try dsimp only at hSw); go_split_ands; go_simp; try with_reducible rfl)) | (refine wpAnyH_skipB (i := 9) rfl (by kernel_rfl) (fun _ _ _ h => h) rfl hSx ?_)
                      try simp only [Act.put, List.getElem_toArray, List.getElem_cons_succ, List.getElem_cons_zero, List.setIfInBounds_toArray, List.set_cons_zero, List.set_cons_succ]
                      first | (refine wpAnyH_takeB (i := 10) (v := ?vyL12_10) rfl (by kernel_rfl) (fun _ _ _ h => h) rfl ?yL12_10 hSx ?_; case yL12_10 => (intro w' hSw; (try dsimp only at hSw); go_split_ands; go_simp; try with_reducible rfl)) | (refine wpAnyH_skipB (i := 10) rfl (by kernel_rfl) (fun _ _ _ h => h) rfl hSx ?_)
                      try simp only [Act.put, List.getElem_toArray, List.getElem_cons_succ, List.getElem_cons_zero, List.setIfInBounds_toArray, List.set_cons_zero, List.set_cons_succ]
                      first | (refine wpAnyH_takeB (i := 11) (v := ?vyL12_11) rfl (by kernel_rfl) (fun _ _ _ h => h) rfl ?yL12_11 hSx ?_; case yL12_11 => (intro w' hSw; (try dsimp only at hSw); go_split_ands; go_simp; try with_reducible rfl)) | (refine wpAnyH_skipB (i := 11) rfl (by kernel_rfl) (fun _ _ _ h => h) rfl hSx ?_)
                      try simp only [Act.put, List.getElem_toArray, List.getElem_cons_succ, List.getElem_cons_zero, List.setIfInBounds_toArray, List.set_cons_zero, List.set_cons_succ]
                      refine wpAnyH_takeB (i := 12) (v := ?vyL12_12) rfl (by kernel_rfl) (fun _ _ _ h => h) rfl ?yL12_12 hSx ?_
                      case yL12_12 => (intro w' hSw; (try dsimp only at hSw); go_split_ands; go_simp; try with_reducible rfl)
                      try simp only [Act.put, List.getElem_toArray, List.getElem_cons_succ, List.getElem_cons_zero, List.setIfInBounds_toArray, List.set_cons_zero, List.set_cons_succ]
                      refine wpAnyH_takeB (i := 13) (v := ?vyL12_13) rfl (by kernel_rfl) (fun _ _ _ h => h) rfl ?yL12_13 hSx ?_
                      case yL12_13 => (intro w' hSw; (try dsimp only at hSw); go_split_ands; go_simp; try with_reducible rfl)
                      try simp only [Act.put, List.getElem_toArray, List.getElem_cons_succ, List.getElem_cons_zero, List.setIfInBounds_toArray, List.set_cons_zero, List.set_cons_succ]
                      first | (refine wpAnyH_takeB (i := 14) (v := ?vyL12_14) rfl (by kernel_rfl) (fun _ _ _ h => h) rfl ?yL12_14 hSx ?_; case yL12_14 => (intro w' hSw; (try dsimp only at hSw); go_split_ands; go_simp; try with_reducible rfl)) | (refine wpAnyH_skipB (i := 14) rfl (by kernel_rfl) (fun _ _ _ h => h) rfl hSx ?_)
                      try simp only [Act.put, List.getElem_toArray, List.getElem_cons_succ, List.getElem_cons_zero, List.setIfInBounds_toArray, List.set_cons_zero, List.set_cons_succ]
                      first | (refine wpAnyH_takeB (i := 15) (v := ?vyL12_15) rfl (by kernel_rfl) (fun _ _ _ h => h) rfl ?yL12_15 hSx ?_; case yL12_15 => (intro w' hSw; (try dsimp only at hSw); go_split_ands; go_simp; try with_reducible rfl)) | (refine wpAnyH_skipB (i := 15) rfl (by kernel_rfl) (fun _ _ _ h => h) rfl hSx ?_)
                      try simp only [Act.put, List.getElem_toArray, List.getElem_cons_succ, List.getElem_cons_zero, List.setIfInBounds_toArray, List.set_cons_zero, List.set_cons_succ]
                      first | (refine wpAnyH_takeB (i := 16) (v := ?vyL12_16) rfl (by kernel_rfl) (fun _ _ _ h => h) rfl ?yL12_16 hSx ?_; case yL12_16 => (intro w' hSw; (try dsimp only at hSw); go_split_ands; go_simp; try with_reducible rfl)) | (refine wpAnyH_skipB (i := 16) rfl (by kernel_rfl) (fun _ _ _ h => h) rfl hSx ?_)
                      try simp only [Act.put, List.getElem_toArray, List.getElem_cons_succ, List.getElem_cons_zero, List.setIfInBounds_toArray, List.set_cons_zero, List.set_cons_succ]
                      first | (refine wpAnyH_takeB (i := 17) (v := ?vyL12_17) rfl (by kernel_rfl) (fun _ _ _ h => h) rfl ?yL12_17 hSx ?_; case yL12_17 => (intro w' hSw; (try dsimp only at hSw); go_split_ands; go_simp; try with_reducible rfl)) | (refine wpAnyH_skipB (i := 17) rfl (by kernel_rfl) (fun _ _ _ h => h) rfl hSx ?_)
                      try simp only [Act.put, List.getElem_toArray, List.getElem_cons_succ, List.getElem_cons_zero, List.setIfInBounds_toArray, List.set_cons_zero, List.set_cons_succ]
                      first | (refine wpAnyH_takeB (i := 18) (v := ?vyL12_18) rfl (by kernel_rfl) (fun _ _ _ h => h) rfl ?yL12_18 hSx ?_; case yL12_18 => (intro w' hSw; (try dsimp only at hSw); go_split_ands; go_simp; try with_reducible rfl)) | (refine wpAnyH_skipB (i := 18) rfl (by kernel_rfl) (fun _ _ _ h => h) rfl hSx ?_)
                      try simp only [Act.put, List.getElem_toArray, List.getElem_cons_succ, List.getElem_cons_zero, List.setIfInBounds_toArray, List.set_cons_zero, List.set_cons_succ]
                      first | (refine wpAnyH_takeB (i := 19) (v := ?vyL12_19) rfl (by kernel_rfl) (fun _ _ _ h => h) rfl ?yL12_19 hSx ?_; case yL12_19 => (intro w' hSw; (try dsimp only at hSw); go_split_ands; go_simp; try with_reducible rfl)) | (refine wpAnyH_skipB (i := 19) rfl (by kernel_rfl) (fun _ _ _ h => h) rfl hSx ?_)
                      try simp only [Act.put, List.getElem_toArray, List.getElem_cons_succ, List.getElem_cons_zero, List.setIfInBounds_toArray, List.set_cons_zero, List.set_cons_succ]
                      first | (refine wpAnyH_takeB (i := 20) (v := ?vyL12_20) rfl (by kernel_rfl) (fun _ _ _ h => h) rfl ?yL12_20 hSx ?_; case yL12_20 => (intro w' hSw; (try dsimp only at hSw); go_split_ands; go_simp; try with_reducible rfl)) | (refine wpAnyH_skipB (i := 20) rfl (by kernel_rfl) (fun _ _ _ h => h) rfl hSx ?_)
                      try simp only [Act.put, List.getElem_toArray, List.getElem_cons_succ, List.getElem_cons_zero, List.setIfInBounds_toArray, List.set_cons_zero, List.set_cons_succ]
                      first | (refine wpAnyH_takeB (i := 21) (v := ?vyL12_21) rfl (by kernel_rfl) (fun _ _ _ h => h) rfl ?yL12_21 hSx ?_; case yL12_21 => (intro w' hSw; (try dsimp only at hSw); go_split_ands; go_simp; try with_reducible rfl)) | (refine wpAnyH_skipB (i := 21) rfl (by kernel_rfl) (fun _ _ _ h => h) rfl hSx ?_)
                      try simp only [Act.put, List.getElem_toArray, List.getElem_cons_succ, List.getElem_cons_zero, List.setIfInBounds_toArray, List.set_cons_zero, List.set_cons_succ]
                      first | (refine wpAnyH_takeB (i := 22) (v := ?vyL12_22) rfl (by kernel_rfl) (fun _ _ _ h => h) rfl ?yL12_22 hSx ?_; case yL12_22 => (intro w' hSw; (try dsimp only at hSw); go_split_ands; go_simp; try with_reducible rfl)) | (refine wpAnyH_skipB (i := 22) rfl (by kernel_rfl) (fun _ _ _ h => h) rfl hSx ?_)
                      try simp only [Act.put, List.getElem_toArray, List.getElem_cons_succ, List.getElem_cons_zero, List.setIfInBounds_toArray, List.set_cons_zero, List.set_cons_succ]
                      refine wpAnyH_takeB (i := 23) (v := ?vyL12_23) rfl (by kernel_rfl) (fun _ _ _ h => h) rfl ?yL12_23 hSx ?_
                      case yL12_23 => (intro w' hSw; (try dsimp only at hSw); go_split_ands; go_simp; try with_reducible rfl)
                      try simp only [Act.put, List.getElem_toArray, List.getElem_cons_succ, List.getElem_cons_zero, List.setIfInBounds_toArray, List.set_cons_zero, List.set_cons_succ]
                      refine wpAnyH_takeB (i := 24) (v := ?vyL12_24) rfl (by kernel_rfl) (fun _ _ _ h => h) rfl ?yL12_24 hSx ?_
                      case yL12_24 => (intro w' hSw; (try dsimp only at hSw); go_split_ands; go_simp; try with_reducible rfl)
                      try simp only [Act.put, List.getElem_toArray, List.getElem_cons_succ, List.getElem_cons_zero, List.setIfInBounds_toArray, List.set_cons_zero, List.set_cons_succ]
                      refine wpAnyH_takeB (i := 25) (v := ?vyL12_25) rfl (by kernel_rfl) (fun _ _ _ h => h) rfl ?yL12_25 hSx ?_
                      case yL12_25 => (intro w' hSw; (try dsimp only at hSw); go_split_ands; go_simp; try with_reducible rfl)
                      try simp only [Act.put, List.getElem_toArray, List.getElem_cons_succ, List.getElem_cons_zero, List.setIfInBounds_toArray, List.set_cons_zero, List.set_cons_succ]
                      refine wpAnyH_done (by kernel_rfl) ?_ _
                      obtain ⟨_, G7, r1, r2⟩ := HOP.out
                      have HL7 : Hid (Law W w7 G7 r.2 ∧ EsS W w7 G7 (.slice ea n ec) es ∧ G7.h = G.h) := ⟨HL6.out.1.op r1 r2 HANS.out.wf, HL6.out.2.1.op r2, r2.h.trans HL6.out.2.2⟩
                      have HR7 : Hid (L.length ≤ r.2.length ∧ r.2.length ≤ L.length + 3 ∧ r.1 < 2 * (r.2.length + 1)) := ⟨HANS.out.le, HANS.out.lenle, HANS.out.own⟩
                      clear r1 r2 HOP
                      have HNT := Lib.hid (Not_any r.1 w7 (by have := HR7.out; have := HLL.out; omega))
                      have HL8 := Lib.hid (HL7.out.1.after (w' := w7.alloc (.cells #[.int .i64 (r.1 : Int), .int .i64 (neg r.1 : Int)] 3)) ((Below.refl _ _).alloc (Nat.le_refl _) _))
                      have hA2 : ArgI (w7.alloc (.cells #[.int .i64 (r.1 : Int), .int .i64 (neg r.1 : Int)] 3)) (some ⟨w7.heap.size, 0, none⟩) 2 (fun j => (([r.1, neg r.1].getD j 0 : Nat) : Int)) := by
                        refine Or.inr ⟨w7.heap.size, 0, rfl, by simp, fun j hj => ?_⟩
                        rw [Nat.zero_add]
                        simp only [World.cell?, heap_alloc_new]
                        match j, hj with | 0, _ => rfl | 1, _ => rfl
                      have hEV2 := Eval_any HL8.out.rep HL8.out.wf ma mn mc M (HA.out.2.2.below HL8.out.below) (by omega) (some ⟨w7.heap.size, 0, none⟩) 2 2 _ hA2 (by omega) (fun j hj => by
                        have h := HR7.out; have h2 := HLL.out; have h3 := neg_lt h.2.2
                        match j, hj with
                        | 0, _ => show ((r.1 : Nat) : Int) ≤ _; omega
                        | 1, _ => show ((neg r.1 : Nat) : Int) ≤ _; omega) (by have := HR7.out; have := HLL.out; omega)
                      rw [HL7.out.2.2] at hEV2
                      have HEV2 := Lib.hid hEV2
                      clear hA2 hEV2
                      go_wp2_with fail
                      refine HNT.out.mono ?_
                      rintro e w' ⟨rfl, rfl⟩
                      go_wp2_with fail
                      refine HEV2.out.mono ?_
                      rintro e w8 ⟨vb2, rfl, hvb2, hrow2, hb8⟩
                      have f0 : w8.cell? ⟨vb2, 0, none⟩ = some (.bool v1) := by
                        rw [hrow2.cell (i := 0) (by omega)]
                        show some (Value.bool (val (mdl M mn) r.2 (own r.2 ((r.1 : Nat) : Int)))) = _
                        rw [own_nat HR7.out.2.2, HWT.out]
                      have f1 : w8.cell? ⟨vb2, 1, none⟩ = some (.bool nv) := by
                        rw [hrow2.cell (i := 1) (by omega)]
                        show some (Value.bool (val (mdl M mn) r.2 (own r.2 ((neg r.1 : Nat) : Int)))) = _
                        rw [own_nat (neg_lt HR7.out.2.2), val_neg, HWT.out]; rw [HNV.out]
                      have HB8 : Hid (Below w7.heap.size w7 w8) := ((Below.refl _ _).alloc (Nat.le_refl _) _ : Below w7.heap.size w7 (w7.alloc (.cells #[.int .i64 (r.1 : Int), .int .i64 (neg r.1 : Int)] 3))).trans (hb8.mono (by simp))
                      have HO8 : Hid (w8.ownsRow W.heap.size 3 1 (.slice ea n ec) n (es.map encN)) := by have := (HL7.out.2.1.after HB8.out).1; rw [← HN0.out] at this; exact this
                      have hbs8 : W.heap.size ≤ w8.heap.size := Nat.le_trans HL7.out.1.below.size HB8.out.size
                      clear hvb2 hrow2 hb8 HEV2 HSC
                      go_wp2_with (at_builtin; refine wpList_append_lies _ rfl _ _ 31 rfl W.heap.size 3 ii _ 1 8 Try.underlying31 hi hz0 hz1 hz2 rfl (by decide) _ _ _ rfl (HO8.out.alloc _) ⟨w8.heap.size, 0, none⟩ 1 1 [.int .i64 (r.1 : Int)] rfl rfl (World.news_of_block (cs := #[.int .i64 (r.1 : Int)]) (t := 3) (fr := (0, 0)) (heap_alloc_new w8 _)) (by simp [Value.oneCell']) (by decide) (by unfold maxLen; omega) (by omega) (by simp; omega) (w8.heap.size + 1) (by simp) ?_; intro g cap w9 hown9 hgrow9 hat9 hlt9; refine Hid.out ?_)
                      refine Lib.hid ?_
                      have HEND : Hid (TruthI W G.h (i + 1) (.slice (some ⟨g, 0, none⟩) (n + 1) cap) w9) := by
                        have hp := (HL7.out.2.1.after HB8.out).push (e := r.1) (HL7.out.1.after HB8.out) (.cells #[.int .i64 (r.1 : Int)] 3) hgrow9 hat9 (by rw [← HN0.out]; exact hown9)
                        obtain ⟨G9, g9, k1, k2⟩ := hp
                        rw [← HN0.out] at k2
                        refine ⟨G9, r.2, es ++ [r.1], g9.trans HL7.out.2.2, k1, k2, by rw [List.length_append, HES.out.1]; rfl, by have := HR7.out; have := HES.out.2.1; omega, fun j hj => ?_⟩
                        rw [getD_snoc]
                        split
                        · rename_i e; have := HES.out.2.2 j e; have := HR7.out; omega
                        · split
                          · exact HR7.out.2.2
                          · have := HR7.out; omega
                      clear hown9 hgrow9 hat9 hlt9
                      go_wp2_with fail
                      go_roundw
                      case rel => exact ⟨i + 1, by go_num, by omega, HEND⟩
                      case measure => simp [intOf]; omega
                  | true =>
                    cases v0 with
                    | false =>
                      as_aux_lemma =>
                        have HANS := Lib.hid (muxE_ans HL6.out.1.wf HOW.out.2.2.1 HOW.out.1 HOW.out.2.1)
                        have HWT : Hid (val (mdl M mn) (muxE L z x y).2 (muxE L z x y).1 = false) := by
                          have hv0 := HV.out.1
                          have hv1 := HV.out.2.1
                          have hv2 := HV.out.2.2
                          show val (mdl M mn) (muxE L z x y).2 (muxE L z x y).1 = false
                          rw [HANS.out.val]
                          simp [← hv0, ← hv1, ← hv2]
                        generalize hr : muxE L z x y = r at *
                        clear hr
                        go_wp2_with fail
                        refine wp_region_H (S := (fun w' => w'.cell? ⟨vb, 0, none⟩ = some (.bool false) ∧ w'.cell? ⟨vb, 1, none⟩ = some (.bool v1) ∧ w'.cell? ⟨vb, 2, none⟩ = some (.bool true))) 26 (by kernel_rfl) ((HSC.out _ G1 (Fr.drew _ _))) (fun hSx => ?_)
                        refine wpAnyH_takeB (i := 0) (v := ?vyL13_0) rfl (by kernel_rfl) (fun _ _ _ h => h) rfl ?yL13_0 hSx ?_
                        case yL13_0 => (intro w' hSw; (try dsimp only at hSw); go_split_ands; go_simp; try with_reducible rfl)
                        try simp only [Act.put, List.getElem_toArray, List.getElem_cons_succ, List.getElem_cons_zero, List.setIfInBounds_toArray, List.set_cons_zero, List.set_cons_succ]
                        refine wpAnyH_takeB (i := 1) (v := ?vyL13_1) rfl (by kernel_rfl) (fun _ _ _ h => h) rfl ?yL13_1 hSx ?_
                        case yL13_1 => (intro w' hSw; (try dsimp only at hSw); go_split_ands; go_simp; try with_reducible rfl)
                        try simp only [Act.put, List.getElem_toArray, List.getElem_cons_succ, List.getElem_cons_zero, List.setIfInBounds_toArray, List.set_cons_zero, List.set_cons_succ]
                        refine wpAnyH_takeB (i := 2) (v := ?vyL13_2) rfl (by kernel_rfl) (fun _ _ _ h => h) rfl ?yL13_2 hSx ?_
                        case yL13_2 => (intro w' hSw; (try dsimp only at hSw); go_split_ands; go_simp; try with_reducible rfl)
                        try simp only [Act.put, List.getElem_toArray, List.getElem_cons_succ, List.getElem_cons_zero, List.setIfInBounds_toArray, List.set_cons_zero, List.set_cons_succ]
                        refine wpAnyH_takeB (i := 3) (v := ?vyL13_3) rfl (by kernel_rfl) (fun _ _ _ h => h) rfl ?yL13_3 hSx ?_
                        case yL13_3 => (intro w' hSw; (try dsimp only at hSw); go_split_ands; go_simp; try with_reducible rfl)
                        try simp only [Act.put, List.getElem_toArray, List.getElem_cons_succ, List.getElem_cons_zero, List.setIfInBounds_toArray, List.set_cons_zero, List.set_cons_succ]
                        refine wpAnyH_takeB (i := 5) (v := ?vyL13_5) rfl (by kernel_rfl) (fun _ _ _ h => h) rfl ?yL13_5 hSx ?_
                        case yL13_5 => (intro w' hSw; (try dsimp only at hSw); go_split_ands; go_simp; try with_reducible rfl)
                        try simp only [Act.put, List.getElem_toArray, List.getElem_cons_succ, List.getElem_cons_zero, List.setIfInBounds_toArray, List.set_cons_zero, List.set_cons_succ]
                        refine wpAnyH_takeB (i := 6) (v := ?vyL13_6) rfl (by kernel_rfl) (fun _ _ _ h => h) rfl ?yL13_6 hSx ?_
                        case yL13_6 => (intro w' hSw; (try dsimp only at hSw); go_split_ands; go_simp; try with_reducible rfl)
                        try simp only [Act.put, List.getElem_toArray, List.getElem_cons_succ, List.getElem_cons_zero, List.setIfInBounds_toArray, List.set_cons_zero, List.set_cons_succ]
                        refine wpAnyH_takeB (i := 7) (v := ?vyL13_7) rfl (by kernel_rfl) (fun _ _ _ h => h) rfl ?yL13_7 hSx ?_
                        case yL13_7 => (intro w' hSw; (try dsimp only at hSw); go_split_ands; go_simp; try with_reducible rfl)
                        try simp only [Act.put, List.getElem_toArray, List.getElem_cons_succ, List.getElem_cons_zero, List.setIfInBounds_toArray, List.set_cons_zero, List.set_cons_succ]
                        refine' wpAnyH_one (i := 4) ?taeL13_4 ?tbeL13_4 ?tceL13_4 ?tdeL13_4
                        case tbeL13_4 => rfl
                        case taeL13_4 => kernel_rfl
                        case tceL13_4 => rfl
                        intro K hK
                        go_simp
                        refine HC4.out.mono ?_
                        intro e w7 hop
                        have HOP := Lib.hid (hop.pre' (Fr.drew G1 w6))
                        obtain ⟨rfl, _⟩ := hop.thenE
                        clear hop
                        try dsimp only
                        refine hK.out _ _ (by obtain ⟨_, G7, _, s2⟩ := HOP.out; exact HSC.out w7 G7 s2) (fun hSx => ?_)
                        clear hK K
                        try simp only [Act.put, List.getElem_toArray, List.getElem_cons_succ, List.getElem_cons_zero, List.setIfInBounds_toArray, List.set_cons_zero, List.set_cons_succ]
                        refine wpAnyH_takeB (i := 8) (v := ?vyL13_8) rfl (by kernel_rfl) (fun _ _ _ h => h) rfl ?yL13_8 hSx ?_
                        case yL13_8 => (intro w' hSw; (try dsimp only at hSw); go_split_ands; go_simp; try with_reducible rfl)
                        try simp only [Act.put, List.getElem_toArray, List.getElem_cons_succ, List.getElem_cons_zero, List.setIfInBounds_toArray, List.set_cons_zero, List.set_cons_succ]
                        first | (refine wpAnyH_takeB (i := 9) (v := ?vyL13_9) rfl (by kernel_rfl) (fun _ _ _ h => h) rfl ?yL13_9 hSx ?_; case yL13_9 => (intro w' hSw; (try dsimp only at hSw); go_split_ands; go_simp; try with_reducible rfl)) | (refine wpAnyH_skipB (i := 9) rfl (by kernel_rfl) (fun _ _ _ h => h) rfl hSx ?_)
                        try simp only [Act.put, List.getElem_toArray, List.getElem_cons_succ, List.getElem_cons_zero, List.setIfInBounds_toArray, List.set_cons_zero, List.set_cons_succ]
                        first | (refine wpAnyH_takeB (i := 10) (v := ?vyL13_10) rfl (by kernel_rfl) (fun _ _ _ h => h) rfl ?yL13_10 hSx ?_; case yL13_10 => (intro w' hSw; (try dsimp only at hSw); go_split_ands; go_simp; try with_reducible rfl)) | (refine wpAnyH_skipB (i := 10) rfl (by kernel_rfl) (fun _ _ _ h => h) rfl hSx ?_)
                        try simp only [Act.put, List.getElem_toArray, List.getElem_cons_succ, List.getElem_cons_zero, List.setIfInBounds_toArray, List.set_cons_zero, List.set_cons_succ]
                        first | (refine wpAnyH_takeB (i := 11) (v := ?vyL13_11) rfl (by kernel_rfl) (fun _ _ _ h => h) rfl ?yL13_11 hSx ?_; case yL13_11 => (intro w' hSw; (try dsimp only at hSw); go_split_ands; go_simp; try with_reducible rfl)) | (refine wpAnyH_skipB (i := 11) rfl (by kernel_rfl) (fun _ _ _ h => h) rfl hSx ?_)
                        try simp only [Act.put, List.getElem_toArray, List.getElem_cons_succ, List.getElem_cons_zero, List.setIfInBounds_toArray, List.set_cons_zero, List.set_cons_succ]
                        refine wpAnyH_takeB (i := 12) (v := ?vyL13_12) rfl (by kernel_rfl) (fun _ _ _ h => h) rfl ?yL13_12 hSx ?_
                        case yL13_12 => (intro w' hSw; (try dsimp only at hSw); go_split_ands; go_simp; try with_reducible rfl)
                        try simp only [Act.put, List.getElem_toArray, List.getElem_cons_succ, List.getElem_cons_zero, List.setIfInBounds_toArray, List.set_cons_zero, List.set_cons_succ]
                        refine wpAnyH_takeB (i := 13) (v := ?vyL13_13) rfl (by kernel_rfl) (fun _ _ _ h => h) rfl ?yL13_13 hSx ?_
                        case yL13_13 => (intro w' hSw; (try dsimp only at hSw); go_split_ands; go_simp; try with_reducible rfl)
                        try simp only [Act.put, List.getElem_toArray, List.getElem_cons_succ, List.getElem_cons_zero, List.setIfInBounds_toArray, List.set_cons_zero, List.set_cons_succ]
                        first | (refine wpAnyH_takeB (i := 14) (v := ?vyL13_14) rfl (by kernel_rfl) (fun _ _ _ h => h) rfl ?yL13_14 hSx ?_; case yL13_14 => (intro w' hSw; (try dsimp only at hSw); go_split_ands; go_simp; try with_reducible rfl)) | (refine wpAnyH_skipB (i := 14) rfl (by kernel_rfl) (fun _ _ _ h => h) rfl hSx ?_)
                        try simp only [Act.put, List.getElem_toArray, List.getElem_cons_succ, List.getElem_cons_zero, List.setIfInBounds_toArray, List.set_cons_zero, List.set_cons_succ]
                        first | (refine wpAnyH_takeB (i := 15) (v := ?vyL13_15) rfl (by kernel_rfl) (fun _ _ _ h => h) rfl ?yL13_15 hSx ?_; case yL13_15 => (intro w' hSw; (try dsimp only at hSw); go_split_ands; go_simp; try with_reducible rfl)) | (refine wpAnyH_skipB (i := 15) rfl (by kernel_rfl) (fun _ _ _ h => h) rfl hSx ?_)
                        try simp only [Act.put, List.getElem_toArray, List.getElem_cons_succ, List.getElem_cons_zero, List.setIfInBounds_toArray, List.set_cons_zero, List.set_cons_succ]
                        first | (refine wpAnyH_takeB (i := 16) (v := ?vyL13_16) rfl (by kernel_rfl) (fun _ _ _ h => h) rfl ?yL13_16 hSx ?_; case yL13_16 => (intro w' hSw; (try dsimp only at hSw); go_split_ands; go_simp; try with_reducible rfl)) | (refine wpAnyH_skipB (i := 16) rfl (by kernel_rfl) (fun _ _ _ h => h) rfl hSx ?_)
                        try simp only [Act.put, List.getElem_toArray, List.getElem_cons_succ, List.getElem_cons_zero, List.setIfInBounds_toArray, List.set_cons_zero, List.set_cons_succ]
                        first | (refine wpAnyH_takeB (i := 17) (v := ?vyL13_17) rfl (by kernel_rfl) (fun _ _ _ h => h) rfl ?yL13_17 hSx ?_; case yL13_17 => (intro w' hSw; (try dsimp only at hSw); go_split_ands; go_simp; try with_reducible rfl)) | (refine wpAnyH_skipB (i := 17) rfl (by kernel_rfl) (fun _ _ _ h => h) rfl hSx ?_)
                        try simp only [Act.put, List.getElem_toArray, List.getElem_cons_succ, List.getElem_cons_zero, List.setIfInBounds_toArray, List.set_cons_zero, List.set_cons_succ]
                        first | (refine wpAnyH_takeB (i := 18) (v := ?vyL13_18) rfl (by kernel_rfl) (fun _ _ _ h => h) rfl ?yL13_18 hSx ?_; case yL13_18 => (intro w' hSw; (try dsimp only at hSw); go_split_ands; go_simp; try with_reducible rfl)) | (refine wpAnyH_skipB (i := 18) rfl (by kernel_rfl) (fun _ _ _ h => h) rfl hSx ?_)
                        try simp only [Act.put, List.getElem_toArray, List.getElem_cons_succ, List.getElem_cons_zero, List.setIfInBounds_toArray, List.set_cons_zero, List.set_cons_succ]
                        first | (refine wpAnyH_takeB (i := 19) (v := ?vyL13_19) rfl (by kernel_rfl) (fun _ _ _ h => h) rfl ?yL13_19 hSx ?_; case yL13_19 => (intro w' hSw; (try dsimp only at hSw); go_split_ands; go_simp; try with_reducible rfl)) | (refine wpAnyH_skipB (i := 19) rfl (by kernel_rfl) (fun _ _ _ h => h) rfl hSx ?_)
                        try simp only [Act.put, List.getElem_toArray, List.getElem_cons_succ, List.getElem_cons_zero, List.setIfInBounds_toArray, List.set_cons_zero, List.set_cons_succ]
                        first | (refine wpAnyH_takeB (i := 20) (v := ?vyL13_20) rfl (by kernel_rfl) (fun _ _ _ h => h) rfl ?yL13_20 hSx ?_; case yL13_20 => (intro w' hSw; (try dsimp only at hSw); go_split_ands; go_simp; try with_reducible rfl)) | (refine wpAnyH_skipB (i := 20) rfl (by kernel_rfl) (fun _ _ _ h => h) rfl hSx ?_)
                        try simp only [Act.put, List.getElem_toArray, List.getElem_cons_succ, List.getElem_cons_zero, List.setIfInBounds_toArray, List.set_cons_zero, List.set_cons_succ]
                        first | (refine wpAnyH_takeB (i := 21) (v := ?vyL13_21) rfl (by kernel_rfl) (fun _ _ _ h => h) rfl ?yL13_21 hSx ?_; case yL13_21 => (intro w' hSw; (try dsimp only at hSw); go_split_ands; go_simp; try with_reducible rfl)) | (refine wpAnyH_skipB (i := 21) rfl (by kernel_rfl) (fun _ _ _ h => h) rfl hSx ?_)
                        try simp only [Act.put, List.getElem_toArray, List.getElem_cons_succ, List.getElem_cons_zero, List.setIfInBounds_toArray, List.set_cons_zero, List.set_cons_succ]
                        first | (refine wpAnyH_takeB (i := 22) (v := ?vyL13_22) rfl (by kernel_rfl) (fun _ _ _ h => h) rfl ?yL13_22 hSx ?_; case yL13_22 => (intro w' hSw; (try dsimp only at hSw); go_split_ands; go_simp; try with_reducible rfl)) | (refine wpAnyH_skipB (i := 22) rfl (by kernel_rfl) (fun _ _ _ h => h) rfl hSx ?_)
                        try simp only [Act.put, List.getElem_toArray, List.getElem_cons_succ, List.getElem_cons_zero, List.setIfInBounds_toArray, List.set_cons_zero, List.set_cons_succ]
                        refine wpAnyH_takeB (i := 23) (v := ?vyL13_23) rfl (by kernel_rfl) (fun _ _ _ h => h) rfl ?yL13_23 hSx ?_
                        case yL13_23 => (intro w' hSw; (try dsimp only at hSw); go_split_ands; go_simp; try with_reducible rfl)
                        try simp only [Act.put, List.getElem_toArray, List.getElem_cons_succ, List.getElem_cons_zero, List.setIfInBounds_toArray, List.set_cons_zero, List.set_cons_succ]
                        refine wpAnyH_takeB (i := 24) (v := ?vyL13_24) rfl (by kernel_rfl) (fun _ _ _ h => h) rfl ?yL13_24 hSx ?_
                        case yL13_24 => (intro w' hSw; (try dsimp only at hSw); go_split_ands; go_simp; try with_reducible rfl)
                        try simp only [Act.put, List.getElem_toArray, List.getElem_cons_succ, List.getElem_cons_zero, List.setIfInBounds_toArray, List.set_cons_zero, List.set_cons_succ]
                        refine wpAnyH_takeB (i := 25) (v := ?vyL13_25) rfl (by kernel_rfl) (fun _ _ _ h => h) rfl ?yL13_25 hSx ?_
                        case yL13_25 => (intro w' hSw; (try dsimp only at hSw); go_split_ands; go_simp; try with_reducible rfl)
                        try simp only [Act.put, List.getElem_toArray, List.getElem_cons_succ, List.getElem_cons_zero, List.setIfInBounds_toArray, List.set_cons_zero, List.set_cons_succ]
                        refine wpAnyH_done (by kernel_rfl) ?_ _
                        obtain ⟨_, G7, r1, r2⟩ := HOP.out
                        have HL7 : Hid (Law W w7 G7 r.2 ∧ EsS W w7 G7 (.slice ea n ec) es ∧ G7.h = G.h) := ⟨HL6.out.1.op r1 r2 HANS.out.wf, HL6.out.2.1.op r2, r2.h.trans HL6.out.2.2⟩
                        have HR7 : Hid (L.length ≤ r.2.length ∧ r.2.length ≤ L.length + 3 ∧ r.1 < 2 * (r.2.length + 1)) := ⟨HANS.out.le, HANS.out.lenle, HANS.out.own⟩
                        clear r1 r2 HOP
                        have HNT := Lib.hid (Not_any r.1 w7 (by have := HR7.out; have := HLL.out; omega))
                        have HL8 := Lib.hid (HL7.out.1.after (w' := w7.alloc (.cells #[.int .i64 (r.1 : Int), .int .i64 (neg r.1 : Int)] 3)) ((Below.refl _ _).alloc (Nat.le_refl _) _))
                        have hA2 : ArgI (w7.alloc (.cells #[.int .i64 (r.1 : Int), .int .i64 (neg r.1 : Int)] 3)) (some ⟨w7.heap.size, 0, none⟩) 2 (fun j => (([r.1, neg r.1].getD j 0 : Nat) : Int)) := by
                          refine Or.inr ⟨w7.heap.size, 0, rfl, by simp, fun j hj => ?_⟩
                          rw [Nat.zero_add]
                          simp only [World.cell?, heap_alloc_new]
                          match j, hj with | 0, _ => rfl | 1, _ => rfl
                        have hEV2 := Eval_any HL8.out.rep HL8.out.wf ma mn mc M (HA.out.2.2.below HL8.out.below) (by omega) (some ⟨w7.heap.size, 0, none⟩) 2 2 _ hA2 (by omega) (fun j hj => by
                          have h := HR7.out; have h2 := HLL.out; have h3 := neg_lt h.2.2
                          match j, hj with
                          | 0, _ => show ((r.1 : Nat) : Int) ≤ _; omega
                          | 1, _ => show ((neg r.1 : Nat) : Int) ≤ _; omega) (by have := HR7.out; have := HLL.out; omega)
                        rw [HL7.out.2.2] at hEV2
                        have HEV2 := Lib.hid hEV2
                        clear hA2 hEV2
                        go_wp2_with fail
                        refine HNT.out.mono ?_
                        rintro e w' ⟨rfl, rfl⟩
                        go_wp2_with fail
                        refine HEV2.out.mono ?_
                        rintro e w8 ⟨vb2, rfl, hvb2, hrow2, hb8⟩
                        have f0 : w8.cell? ⟨vb2, 0, none⟩ = some (.bool false) := by
                          rw [hrow2.cell (i := 0) (by omega)]
                          show some (Value.bool (val (mdl M mn) r.2 (own r.2 ((r.1 : Nat) : Int)))) = _
                          rw [own_nat HR7.out.2.2, HWT.out]
                        have f1 : w8.cell? ⟨vb2, 1, none⟩ = some (.bool true) := by
                          rw [hrow2.cell (i := 1) (by omega)]
                          show some (Value.bool (val (mdl M mn) r.2 (own r.2 ((neg r.1 : Nat) : Int)))) = _
                          rw [own_nat (neg_lt HR7.out.2.2), val_neg, HWT.out]; rfl
                        have HB8 : Hid (Below w7.heap.size w7 w8) := ((Below.refl _ _).alloc (Nat.le_refl _) _ : Below w7.heap.size w7 (w7.alloc (.cells #[.int .i64 (r.1 : Int), .int .i64 (neg r.1 : Int)] 3))).trans (hb8.mono (by simp))
                        have HO8 : Hid (w8.ownsRow W.heap.size 3 1 (.slice ea n ec) n (es.map encN)) := by have := (HL7.out.2.1.after HB8.out).1; rw [← HN0.out] at this; exact this
                        have hbs8 : W.heap.size ≤ w8.heap.size := Nat.le_trans HL7.out.1.below.size HB8.out.size
                        clear hvb2 hrow2 hb8 HEV2 HSC
                        go_wp2_with (at_builtin; refine wpList_append_lies _ rfl _ _ 31 rfl W.heap.size 3 ii _ 1 8 Try.underlying31 hi hz0 hz1 hz2 rfl (by decide) _ _ _ rfl (HO8.out.alloc _) ⟨w8.heap.size, 0, none⟩ 1 1 [.int .i64 (r.1 : Int)] rfl rfl (World.news_of_block (cs := #[.int .i64 (r.1 : Int)]) (t := 3) (fr := (0, 0)) (heap_alloc_new w8 _)) (by simp [Value.oneCell']) (by decide) (by unfold maxLen; omega) (by omega) (by simp; omega) (w8.heap.size + 1) (by simp) ?_; intro g cap w9 hown9 hgrow9 hat9 hlt9; refine Hid.out ?_)
                        refine Lib.hid ?_
                        have HEND : Hid (TruthI W G.h (i + 1) (.slice (some ⟨g, 0, none⟩) (n + 1) cap) w9) := by
                          have hp := (HL7.out.2.1.after HB8.out).push (e := r.1) (HL7.out.1.after HB8.out) (.cells #[.int .i64 (r.1 : Int)] 3) hgrow9 hat9 (by rw [← HN0.out]; exact hown9)
                          obtain ⟨G9, g9, k1, k2⟩ := hp
                          rw [← HN0.out] at k2
                          refine ⟨G9, r.2, es ++ [r.1], g9.trans HL7.out.2.2, k1, k2, by rw [List.length_append, HES.out.1]; rfl, by have := HR7.out; have := HES.out.2.1; omega, fun j hj => ?_⟩
                          rw [getD_snoc]
                          split
                          · rename_i e; have := HES.out.2.2 j e; have := HR7.out; omega
                          · split
                            · exact HR7.out.2.2
                            · have := HR7.out; omega
                        clear hown9 hgrow9 hat9 hlt9
                        go_wp2_with fail
                        go_roundw
                        case rel => exact ⟨i + 1, by go_num, by omega, HEND⟩
                        case measure => simp [intOf]; omega
                    | true =>
                      as_aux_lemma =>
                        have HANS := Lib.hid (muxE_ans HL6.out.1.wf HOW.out.2.2.1 HOW.out.1 HOW.out.2.1)
                        have HWT : Hid (val (mdl M mn) (muxE L z x y).2 (muxE L z x y).1 = true) := by
                          have hv0 := HV.out.1
                          have hv1 := HV.out.2.1
                          have hv2 := HV.out.2.2
                          show val (mdl M mn) (muxE L z x y).2 (muxE L z x y).1 = true
                          rw [HANS.out.val]
                          simp [← hv0, ← hv1, ← hv2]
                        generalize hr : muxE L z x y = r at *
                        clear hr
                        go_wp2_with fail
                        refine wp_region_H (S := (fun w' => w'.cell? ⟨vb, 0, none⟩ = some (.bool true) ∧ w'.cell? ⟨vb, 1, none⟩ = some (.bool v1) ∧ w'.cell? ⟨vb, 2, none⟩ = some (.bool true))) 26 (by kernel_rfl) ((HSC.out _ G1 (Fr.drew _ _))) (fun hSx => ?_)
                        refine wpAnyH_takeB (i := 0) (v := ?vyL14_0) rfl (by kernel_rfl) (fun _ _ _ h => h) rfl ?yL14_0 hSx ?_
                        case yL14_0 => (intro w' hSw; (try dsimp only at hSw); go_split_ands; go_simp; try with_reducible rfl)
                        try simp only [Act.put, List.getElem_toArray, List.getElem_cons_succ, List.getElem_cons_zero, List.setIfInBounds_toArray, List.set_cons_zero, List.set_cons_succ]
                        refine wpAnyH_takeB (i := 1) (v := ?vyL14_1) rfl (by kernel_rfl) (fun _ _ _ h => h) rfl ?yL14_1 hSx ?_
                        case yL14_1 => (intro w' hSw; (try dsimp only at hSw); go_split_ands; go_simp; try with_reducible rfl)
                        try simp only [Act.put, List.getElem_toArray, List.getElem_cons_succ, List.getElem_cons_zero, List.setIfInBounds_toArray, List.set_cons_zero, List.set_cons_succ]
                        refine wpAnyH_takeB (i := 2) (v := ?vyL14_2) rfl (by kernel_rfl) (fun _ _ _ h => h) rfl ?yL14_2 hSx ?_
                        case yL14_2 => (intro w' hSw; (try dsimp only at hSw); go_split_ands; go_simp; try with_reducible rfl)
                        try simp only [Act.put, List.getElem_toArray, List.getElem_cons_succ, List.getElem_cons_zero, List.setIfInBounds_toArray, List.set_cons_zero, List.set_cons_succ]
                        refine wpAnyH_takeB (i := 3) (v := ?vyL14_3) rfl (by kernel_rfl) (fun _ _ _ h => h) rfl ?yL14_3 hSx ?_
                        case yL14_3 => (intro w' hSw; (try dsimp only at hSw); go_split_ands; go_simp; try with_reducible rfl)
                        try simp only [Act.put, List.getElem_toArray, List.getElem_cons_succ, List.getElem_cons_zero, List.setIfInBounds_toArray, List.set_cons_zero, List.set_cons_succ]
                        refine wpAnyH_takeB (i := 5) (v := ?vyL14_5) rfl (by kernel_rfl) (fun _ _ _ h => h) rfl ?yL14_5 hSx ?_
                        case yL14_5 => (intro w' hSw; (try dsimp only at hSw); go_split_ands; go_simp; try with_reducible rfl)
                        try simp only [Act.put, List.getElem_toArray, List.getElem_cons_succ, List.getElem_cons_zero, List.setIfInBounds_toArray, List.set_cons_zero, List.set_cons_succ]
                        refine wpAnyH_takeB (i := 6) (v := ?vyL14_6) rfl (by kernel_rfl) (fun _ _ _ h => h) rfl ?yL14_6 hSx ?_
                        case yL14_6 => (intro w' hSw; (try dsimp only at hSw); go_split_ands; go_simp; try with_reducible rfl)
                        try simp only [Act.put, List.getElem_toArray, List.getElem_cons_succ, List.getElem_cons_zero, List.setIfInBounds_toArray, List.set_cons_zero, List.set_cons_succ]
                        refine wpAnyH_takeB (i := 7) (v := ?vyL14_7) rfl (by kernel_rfl) (fun _ _ _ h => h) rfl ?yL14_7 hSx ?_
                        case yL14_7 => (intro w' hSw; (try dsimp only at hSw); go_split_ands; go_simp; try with_reducible rfl)
                        try simp only [Act.put, List.getElem_toArray, List.getElem_cons_succ, List.getElem_cons_zero, List.setIfInBounds_toArray, List.set_cons_zero, List.set_cons_succ]
                        refine' wpAnyH_one (i := 4) ?taeL14_4 ?tbeL14_4 ?tceL14_4 ?tdeL14_4
                        case tbeL14_4 => rfl
                        case taeL14_4 => kernel_rfl
                        case tceL14_4 => rfl
                        intro K hK
                        go_simp
                        refine HC4.out.mono ?_
                        intro e w7 hop
                        have HOP := Lib.hid (hop.pre' (Fr.drew G1 w6))
                        obtain ⟨rfl, _⟩ := hop.thenE
                        clear hop
                        try dsimp only
                        refine hK.out _ _ (by obtain ⟨_, G7, _, s2⟩ := HOP.out; exact HSC.out w7 G7 s2) (fun hSx => ?_)
                        clear hK K
                        try simp only [Act.put, List.getElem_toArray, List.getElem_cons_succ, List.getElem_cons_zero, List.setIfInBounds_toArray, List.set_cons_zero, List.set_cons_succ]
                        refine wpAnyH_takeB (i := 8) (v := ?vyL14_8) rfl (by kernel_rfl) (fun _ _ _ h => h) rfl ?yL14_8 hSx ?_
                        case yL14_8 => (intro w' hSw; (try dsimp only at hSw); go_split_ands; go_simp; try with_reducible rfl)
                        try simp only [Act.put, List.getElem_toArray, List.getElem_cons_succ, List.getElem_cons_zero, List.setIfInBounds_toArray, List.set_cons_zero, List.set_cons_succ]
                        first | (refine wpAnyH_takeB (i := 9) (v := ?vyL14_9) rfl (by kernel_rfl) (fun _ _ _ h => h) rfl ?yL14_9 hSx ?_; case yL14_9 => (intro w' hSw; (try dsimp only at hSw); go_split_ands; go_simp; try with_reducible rfl)) | (refine wpAnyH_skipB (i := 9) rfl (by kernel_rfl) (fun _ _ _ h => h) rfl hSx ?_)
                        try simp only [Act.put, List.getElem_toArray, List.getElem_cons_succ, List.getElem_cons_zero, List.setIfInBounds_toArray, List.set_cons_zero, List.set_cons_succ]
                        first | (refine wpAnyH_takeB (i := 10) (v := ?vyL14_10) rfl (by kernel_rfl) (fun _ _ _ h => h) rfl ?yL14_10 hSx ?_; case yL14_10 => (intro w' hSw; (try dsimp only at hSw); go_split_ands; go_simp; try with_reducible rfl)) | (refine wpAnyH_skipB (i := 10) rfl (by kernel_rfl) (fun _ _ _ h => h) rfl hSx ?_)
                        try simp only [Act.put, List.getElem_toArray, List.getElem_cons_succ, List.getElem_cons_zero, List.setIfInBounds_toArray, List.set_cons_zero, List.set_cons_succ]
                        first | (refine wpAnyH_takeB (i := 11) (v := ?vyL14_11) rfl (by kernel_rfl) (fun _ _ _ h => h) rfl ?yL14_11 hSx ?_; case yL14_11 => (intro w' hSw; (try dsimp only at hSw); go_split_ands; go_simp; try with_reducible rfl)) | (refine wpAnyH_skipB (i := 11) rfl (by kernel_rfl) (fun _ _ _ h => h) rfl hSx ?_)
                        try simp only [Act.put, List.getElem_toArray, List.getElem_cons_succ, List.getElem_cons_zero, List.setIfInBounds_toArray, List.set_cons_zero, List.set_cons_succ]
                        refine wpAnyH_takeB (i := 12) (v := ?vyL14_12) rfl (by kernel_rfl) (fun _ _ _ h => h) rfl ?yL14_12 hSx ?_
                        case yL14_12 => (intro w' hSw; (try dsimp only at hSw); go_split_ands; go_simp; try with_reducible rfl)
                        try simp only [Act.put, List.getElem_toArray, List.getElem_cons_succ, List.getElem_cons_zero, List.setIfInBounds_toArray, List.set_cons_zero, List.set_cons_succ]
                        refine wpAnyH_takeB (i := 13) (v := ?vyL14_13) rfl (by kernel_rfl) (fun _ _ _ h => h) rfl ?yL14_13 hSx ?_
                        case yL14_13 => (intro w' hSw; (try dsimp only at hSw); go_split_ands; go_simp; try with_reducible rfl)
                        try simp only [Act.put, List.getElem_toArray, List.getElem_cons_succ, List.getElem_cons_zero, List.setIfInBounds_toArray, List.set_cons_zero, List.set_cons_succ]
                        first | (refine wpAnyH_takeB (i := 14) (v := ?vyL14_14) rfl (by kernel_rfl) (fun _ _ _ h => h) rfl ?yL14_14 hSx ?_; case yL14_14 => (intro w' hSw; (try dsimp only at hSw); go_split_ands; go_simp; try with_reducible rfl)) | (refine wpAnyH_skipB (i := 14) rfl (by kernel_rfl) (fun _ _ _ h => h) rfl hSx ?_)
                        try simp only [Act.put, List.getElem_toArray, List.getElem_cons_succ, List.getElem_cons_zero, List.setIfInBounds_toArray, List.set_cons_zero, List.set_cons_succ]
                        first | (refine wpAnyH_takeB (i := 15) (v := ?vyL14_15) rfl (by kernel_rfl) (fun _ _ _ h => h) rfl ?yL14_15 hSx ?_; case yL14_15 => (intro w' hSw; (try dsimp only at hSw); go_split_ands; go_simp; try with_reducible rfl)) | (refine wpAnyH_skipB (i := 15) rfl (by kernel_rfl) (fun _ _ _ h => h) rfl hSx ?_)
                        try simp only [Act.put, List.getElem_toArray, List.getElem_cons_succ, List.getElem_cons_zero, List.setIfInBounds_toArray, List.set_cons_zero, List.set_cons_succ]
                        first | (refine wpAnyH_takeB (i := 16) (v := ?vyL14_16) rfl (by kernel_rfl) (fun _ _ _ h => h) rfl ?yL14_16 hSx ?_; case yL14_16 => (intro w' hSw; (try dsimp only at hSw); go_split_ands; go_simp; try with_reducible rfl)) | (refine wpAnyH_skipB (i := 16) rfl (by kernel_rfl) (fun _ _ _ h => h) rfl hSx ?_)
                        try simp only [Act.put, List.getElem_toArray, List.getElem_cons_succ, List.getElem_cons_zero, List.setIfInBounds_toArray, List.set_cons_zero, List.set_cons_succ]
                        first | (refine wpAnyH_takeB (i := 17) (v := ?vyL14_17) rfl (by kernel_rfl) (fun _ _ _ h => h) rfl ?yL14_17 hSx ?_; case yL14_17 => (intro w' hSw; (try dsimp only at hSw); go_split_ands; go_simp; try with_reducible rfl)) | (refine wpAnyH_skipB (i := 17) rfl (by kernel_rfl) (fun _ _ _ h => h) rfl hSx ?_)
                        try simp only [Act.put, List.getElem_toArray, List.getElem_cons_succ, List.getElem_cons_zero, List.setIfInBounds_toArray, List.set_cons_zero, List.set_cons_succ]
                        first | (refine wpAnyH_takeB (i := 18) (v := ?vyL14_18) rfl (by kernel_rfl) (fun _ _ _ h => h) rfl ?yL14_18 hSx ?_; case yL14_18 => (intro w' hSw; (try dsimp only at hSw); go_split_ands; go_simp; try with_reducible rfl)) | (refine wpAnyH_skipB (i := 18) rfl (by kernel_rfl) (fun _ _ _ h => h) rfl hSx ?_)
                        try simp only [Act.put, List.getElem_toArray, List.getElem_cons_succ, List.getElem_cons_zero, List.setIfInBounds_toArray, List.set_cons_zero, List.set_cons_succ]
                        first | (refine wpAnyH_takeB (i := 19) (v := ?vyL14_19) rfl (by kernel_rfl) (fun _ _ _ h => h) rfl ?yL14_19 hSx ?_; case yL14_19 => (intro w' hSw; (try dsimp only at hSw); go_split_ands; go_simp; try with_reducible rfl)) | (refine wpAnyH_skipB (i := 19) rfl (by kernel_rfl) (fun _ _ _ h => h) rfl hSx ?_)
                        try simp only [Act.put, List.getElem_toArray, List.getElem_cons_succ, List.getElem_cons_zero, List.setIfInBounds_toArray, List.set_cons_zero, List.set_cons_succ]
                        first | (refine wpAnyH_takeB (i := 20) (v := ?vyL14_20) rfl (by kernel_rfl) (fun _ _ _ h => h) rfl ?yL14_20 hSx ?_; case yL14_20 => (intro w' hSw; (try dsimp only at hSw); go_split_ands; go_simp; try with_reducible rfl)) | (refine wpAnyH_skipB (i := 20) rfl (by kernel_rfl) (fun _ _ _ h => h) rfl hSx ?_)
                        try simp only [Act.put, List.getElem_toArray, List.getElem_cons_succ, List.getElem_cons_zero, List.setIfInBounds_toArray, List.set_cons_zero, List.set_cons_succ]
                        first | (refine wpAnyH_takeB (i := 21) (v := ?vyL14_21) rfl (by kernel_rfl) (fun _ _ _ h => h) rfl ?yL14_21 hSx ?_; case yL14_21 => (intro w' hSw; (try dsimp only at hSw); go_split_ands; go_simp; try with_reducible rfl)) | (refine wpAnyH_skipB (i := 21) rfl (by kernel_rfl) (fun _ _ _ h => h) rfl hSx ?_)
                        try simp only [Act.put, List.getElem_toArray, List.getElem_cons_succ, List.getElem_cons_zero, List.setIfInBounds_toArray, List.set_cons_zero, List.set_cons_succ]
                        first | (refine wpAnyH_takeB (i := 22) (v := ?vyL14_22) rfl (by kernel_rfl) (fun _ _ _ h => h) rfl ?yL14_22 hSx ?_; case yL14_22 => (intro w' hSw; (try dsimp only at hSw); go_split_ands; go_simp; try with_reducible rfl)) | (refine wpAnyH_skipB (i := 22) rfl (by kernel_rfl) (fun _ _ _ h => h) rfl hSx ?_)
                        try simp only [Act.put, List.getElem_toArray, List.getElem_cons_succ, List.getElem_cons_zero, List.setIfInBounds_toArray, List.set_cons_zero, List.set_cons_succ]
                        refine wpAnyH_takeB (i := 23) (v := ?vyL14_23) rfl (by kernel_rfl) (fun _ _ _ h => h) rfl ?yL14_23 hSx ?_
                        case yL14_23 => (intro w' hSw; (try dsimp only at hSw); go_split_ands; go_simp; try with_reducible rfl)
                        try simp only [Act.put, List.getElem_toArray, List.getElem_cons_succ, List.getElem_cons_zero, List.setIfInBounds_toArray, List.set_cons_zero, List.set_cons_succ]
                        refine wpAnyH_takeB (i := 24) (v := ?vyL14_24) rfl (by kernel_rfl) (fun _ _ _ h => h) rfl ?yL14_24 hSx ?_
                        case yL14_24 => (intro w' hSw; (try dsimp only at hSw); go_split_ands; go_simp; try with_reducible rfl)
                        try simp only [Act.put, List.getElem_toArray, List.getElem_cons_succ, List.getElem_cons_zero, List.setIfInBounds_toArray, List.set_cons_zero, List.set_cons_succ]
                        refine wpAnyH_takeB (i := 25) (v := ?vyL14_25) rfl (by kernel_rfl) (fun _ _ _ h => h) rfl ?yL14_25 hSx ?_
                        case yL14_25 => (intro w' hSw; (try dsimp only at hSw); go_split_ands; go_simp; try with_reducible rfl)
                        try simp only [Act.put, List.getElem_toArray, List.getElem_cons_succ, List.getElem_cons_zero, List.setIfInBounds_toArray, List.set_cons_zero, List.set_cons_succ]
                        refine wpAnyH_done (by kernel_rfl) ?_ _
                        obtain ⟨_, G7, r1, r2⟩ := HOP.out
                        have HL7 : Hid (Law W w7 G7 r.2 ∧ EsS W w7 G7 (.slice ea n ec) es ∧ G7.h = G.h) := ⟨HL6.out.1.op r1 r2 HANS.out.wf, HL6.out.2.1.op r2, r2.h.trans HL6.out.2.2⟩
                        have HR7 : Hid (L.length ≤ r.2.length ∧ r.2.length ≤ L.length + 3 ∧ r.1 < 2 * (r.2.length + 1)) := ⟨HANS.out.le, HANS.out.lenle, HANS.out.own⟩
                        clear r1 r2 HOP
                        have HNT := Lib.hid (Not_any r.1 w7 (by have := HR7.out; have := HLL.out; omega))
                        have HL8 := Lib.hid (HL7.out.1.after (w' := w7.alloc (.cells #[.int .i64 (r.1 : Int), .int .i64 (neg r.1 : Int)] 3)) ((Below.refl _ _).alloc (Nat.le_refl _) _))
                        have hA2 : ArgI (w7.alloc (.cells #[.int .i64 (r.1 : Int), .int .i64 (neg r.1 : Int)] 3)) (some ⟨w7.heap.size, 0, none⟩) 2 (fun j => (([r.1, neg r.1].getD j 0 : Nat) : Int)) := by
                          refine Or.inr ⟨w7.heap.size, 0, rfl, by simp, fun j hj => ?_⟩
                          rw [Nat.zero_add]
                          simp only [World.cell?, heap_alloc_new]
                          match j, hj with | 0, _ => rfl | 1, _ => rfl
                        have hEV2 := Eval_any HL8.out.rep HL8.out.wf ma mn mc M (HA.out.2.2.below HL8.out.below) (by omega) (some ⟨w7.heap.size, 0, none⟩) 2 2 _ hA2 (by omega) (fun j hj => by
                          have h := HR7.out; have h2 := HLL.out; have h3 := neg_lt h.2.2
                          match j, hj with
                          | 0, _ => show ((r.1 : Nat) : Int) ≤ _; omega
                          | 1, _ => show ((neg r.1 : Nat) : Int) ≤ _; omega) (by have := HR7.out; have := HLL.out; omega)
                        rw [HL7.out.2.2] at hEV2
                        have HEV2 := Lib.hid hEV2
                        clear hA2 hEV2
                        go_wp2_with fail
                        refine HNT.out.mono ?_
                        rintro e w' ⟨rfl, rfl⟩
                        go_wp2_with fail
                        refine HEV2.out.mono ?_
                        rintro e w8 ⟨vb2, rfl, hvb2, hrow2, hb8⟩
                        have f0 : w8.cell? ⟨vb2, 0, none⟩ = some (.bool true) := by
                          rw [hrow2.cell (i := 0) (by omega)]
                          show some (Value.bool (val (mdl M mn) r.2 (own r.2 ((r.1 : Nat) : Int)))) = _
                          rw [own_nat HR7.out.2.2, HWT.out]
                        have f1 : w8.cell? ⟨vb2, 1, none⟩ = some (.bool false) := by
                          rw [hrow2.cell (i := 1) (by omega)]
                          show some (Value.bool (val (mdl M mn) r.2 (own r.2 ((neg r.1 : Nat) : Int)))) = _
                          rw [own_nat (neg_lt HR7.out.2.2), val_neg, HWT.out]; rfl
                        have HB8 : Hid (Below w7.heap.size w7 w8) := ((Below.refl _ _).alloc (Nat.le_refl _) _ : Below w7.heap.size w7 (w7.alloc (.cells #[.int .i64 (r.1 : Int), .int .i64 (neg r.1 : Int)] 3))).trans (hb8.mono (by simp))
                        have HO8 : Hid (w8.ownsRow W.heap.size 3 1 (.slice ea n ec) n (es.map encN)) := by have := (HL7.out.2.1.after HB8.out).1; rw [← HN0.out] at this; exact this
                        have hbs8 : W.heap.size ≤ w8.heap.size := Nat.le_trans HL7.out.1.below.size HB8.out.size
                        clear hvb2 hrow2 hb8 HEV2 HSC
                        go_wp2_with (at_builtin; refine wpList_append_lies _ rfl _ _ 31 rfl W.heap.size 3 ii _ 1 8 Try.underlying31 hi hz0 hz1 hz2 rfl (by decide) _ _ _ rfl (HO8.out.alloc _) ⟨w8.heap.size, 0, none⟩ 1 1 [.int .i64 (r.1 : Int)] rfl rfl (World.news_of_block (cs := #[.int .i64 (r.1 : Int)]) (t := 3) (fr := (0, 0)) (heap_alloc_new w8 _)) (by simp [Value.oneCell']) (by decide) (by unfold maxLen; omega) (by omega) (by simp; omega) (w8.heap.size + 1) (by simp) ?_; intro g cap w9 hown9 hgrow9 hat9 hlt9; refine Hid.out ?_)
                        refine Lib.hid ?_
                        have HEND : Hid (TruthI W G.h (i + 1) (.slice (some ⟨g, 0, none⟩) (n + 1) cap) w9) := by
                          have hp := (HL7.out.2.1.after HB8.out).push (e := r.1) (HL7.out.1.after HB8.out) (.cells #[.int .i64 (r.1 : Int)] 3) hgrow9 hat9 (by rw [← HN0.out]; exact hown9)
                          obtain ⟨G9, g9, k1, k2⟩ := hp
                          rw [← HN0.out] at k2
                          refine ⟨G9, r.2, es ++ [r.1], g9.trans HL7.out.2.2, k1, k2, by rw [List.length_append, HES.out.1]; rfl, by have := HR7.out; have := HES.out.2.1; omega, fun j hj => ?_⟩
                          rw [getD_snoc]
                          split
                          · rename_i e; have := HES.out.2.2 j e; have := HR7.out; omega
                          · split
                            · exact HR7.out.2.2
                            · have := HR7.out; omega
                        clear hown9 hgrow9 hat9 hlt9
                        go_wp2_with fail
                        go_roundw
                        case rel => exact ⟨i + 1, by go_num, by omega, HEND⟩
                        case measure => simp [intOf]; omega
                · have kf4 : (kk == 4) = false := by simpa using kk4
                  clear kk4
                  cases v0 with
                  | false =>
                    cases v1 with
                    | false =>
                      as_aux_lemma =>
                        obtain ⟨nv, hnv⟩ : ∃ nv, nv = !v2 := ⟨_, rfl⟩
                        have hq1 : (nv == v2) = false := by rw [hnv]; cases v2 <;> rfl
                        have HNV := Lib.hid hnv
                        clear hnv
                        have HANS := Lib.hid (anyE_ans HL6.out.1.wf [x, y, z] HOW.out.2.2.2)
                        have HWT : Hid (val (mdl M mn) (anyE L [x, y, z]).2 (anyE L [x, y, z]).1 = v2) := by
                          have hv0 := HV.out.1
                          have hv1 := HV.out.2.1
                          have hv2 := HV.out.2.2
                          show val (mdl M mn) (anyE L [x, y, z]).2 (anyE L [x, y, z]).1 = v2
                          rw [HANS.out.val]
                          simp [← hv0, ← hv1, ← hv2]
                        generalize hr : anyE L [x, y, z] = r at *
                        clear hr
                        go_wp2_with fail
                        refine wp_region_H (S := (fun w' => w'.cell? ⟨vb, 0, none⟩ = some (.bool false) ∧ w'.cell? ⟨vb, 1, none⟩ = some (.bool false) ∧ w'.cell? ⟨vb, 2, none⟩ = some (.bool v2))) 21 (by kernel_rfl) ((HSC.out _ G1 (Fr.drew _ _))) (fun hSx => ?_)
                        refine wpAnyH_takeB (i := 0) (v := ?vyL15_0) rfl (by kernel_rfl) (fun _ _ _ h => h) rfl ?yL15_0 hSx ?_
                        case yL15_0 => (intro w' hSw; (try dsimp only at hSw); go_split_ands; go_simp; try with_reducible rfl)
                        try simp only [Act.put, List.getElem_toArray, List.getElem_cons_succ, List.getElem_cons_zero, List.setIfInBounds_toArray, List.set_cons_zero, List.set_cons_succ]
                        refine wpAnyH_takeB (i := 1) (v := ?vyL15_1) rfl (by kernel_rfl) (fun _ _ _ h => h) rfl ?yL15_1 hSx ?_
                        case yL15_1 => (intro w' hSw; (try dsimp only at hSw); go_split_ands; go_simp; try with_reducible rfl)
                        try simp only [Act.put, List.getElem_toArray, List.getElem_cons_succ, List.getElem_cons_zero, List.setIfInBounds_toArray, List.set_cons_zero, List.set_cons_succ]
                        refine wpAnyH_takeB (i := 2) (v := ?vyL15_2) rfl (by kernel_rfl) (fun _ _ _ h => h) rfl ?yL15_2 hSx ?_
                        case yL15_2 => (intro w' hSw; (try dsimp only at hSw); go_split_ands; go_simp; try with_reducible rfl)
                        try simp only [Act.put, List.getElem_toArray, List.getElem_cons_succ, List.getElem_cons_zero, List.setIfInBounds_toArray, List.set_cons_zero, List.set_cons_succ]
                        refine wpAnyH_takeB (i := 3) (v := ?vyL15_3) rfl (by kernel_rfl) (fun _ _ _ h => h) rfl ?yL15_3 hSx ?_
                        case yL15_3 => (intro w' hSw; (try dsimp only at hSw); go_split_ands; go_simp; try with_reducible rfl)
                        try simp only [Act.put, List.getElem_toArray, List.getElem_cons_succ, List.getElem_cons_zero, List.setIfInBounds_toArray, List.set_cons_zero, List.set_cons_succ]
                        refine wpAnyH_takeB (i := 6) (v := ?vyL15_6) rfl (by kernel_rfl) (fun _ _ _ h => h) rfl ?yL15_6 hSx ?_
                        case yL15_6 => (intro w' hSw; (try dsimp only at hSw); go_split_ands; go_simp; try with_reducible rfl)
                        try simp only [Act.put, List.getElem_toArray, List.getElem_cons_succ, List.getElem_cons_zero, List.setIfInBounds_toArray, List.set_cons_zero, List.set_cons_succ]
                        refine wpAnyH_takeB (i := 7) (v := ?vyL15_7) rfl (by kernel_rfl) (fun _ _ _ h => h) rfl ?yL15_7 hSx ?_
                        case yL15_7 => (intro w' hSw; (try dsimp only at hSw); go_split_ands; go_simp; try with_reducible rfl)
                        try simp only [Act.put, List.getElem_toArray, List.getElem_cons_succ, List.getElem_cons_zero, List.setIfInBounds_toArray, List.set_cons_zero, List.set_cons_succ]
                        refine wpAnyH_takeB (i := 8) (v := ?vyL15_8) rfl (by kernel_rfl) (fun _ _ _ h => h) rfl ?yL15_8 hSx ?_
                        case yL15_8 => (intro w' hSw; (try dsimp only at hSw); go_split_ands; go_simp; try with_reducible rfl)
                        try simp only [Act.put, List.getElem_toArray, List.getElem_cons_succ, List.getElem_cons_zero, List.setIfInBounds_toArray, List.set_cons_zero, List.set_cons_succ]
                        refine' wpAnyH_one (i := 4) ?taeL15_4 ?tbeL15_4 ?tceL15_4 ?tdeL15_4
                        case tbeL15_4 => rfl
                        case taeL15_4 => kernel_rfl
                        case tceL15_4 => rfl
                        intro K hK
                        go_simp
                        refine hK.out _ _ (HSC.out _ G1 ((Fr.drew _ _).trans (Fr.alloc _ _ _))) (fun hSx => ?_)
                        clear hK K
                        try simp only [Act.put, List.getElem_toArray, List.getElem_cons_succ, List.getElem_cons_zero, List.setIfInBounds_toArray, List.set_cons_zero, List.set_cons_succ]
                        refine' wpAnyH_one (i := 5) ?taeL15_5 ?tbeL15_5 ?tceL15_5 ?tdeL15_5
                        case tbeL15_5 => rfl
                        case taeL15_5 => kernel_rfl
                        case tceL15_5 => rfl
                        intro K hK
                        go_simp
                        refine HC5.out.mono ?_
                        intro e w7 hop
                        have HOP := Lib.hid (hop.pre' ((Fr.drew G1 w6).trans (Fr.alloc _ _ _)))
                        obtain ⟨rfl, _⟩ := hop.thenE
                        clear hop
                        try dsimp only
                        refine hK.out _ _ (by obtain ⟨_, G7, _, s2⟩ := HOP.out; exact HSC.out w7 G7 s2) (fun hSx => ?_)
                        clear hK K
                        try simp only [Act.put, List.getElem_toArray, List.getElem_cons_succ, List.getElem_cons_zero, List.setIfInBounds_toArray, List.set_cons_zero, List.set_cons_succ]
                        refine wpAnyH_takeB (i := 9) (v := ?vyL15_9) rfl (by kernel_rfl) (fun _ _ _ h => h) rfl ?yL15_9 hSx ?_
                        case yL15_9 => (intro w' hSw; (try dsimp only at hSw); go_split_ands; go_simp; try with_reducible rfl)
                        try simp only [Act.put, List.getElem_toArray, List.getElem_cons_succ, List.getElem_cons_zero, List.setIfInBounds_toArray, List.set_cons_zero, List.set_cons_succ]
                        first | (refine wpAnyH_takeB (i := 10) (v := ?vyL15_10) rfl (by kernel_rfl) (fun _ _ _ h => h) rfl ?yL15_10 hSx ?_; case yL15_10 => (intro w' hSw; (try dsimp only at hSw); go_split_ands; go_simp; try with_reducible rfl)) | (refine wpAnyH_skipB (i := 10) rfl (by kernel_rfl) (fun _ _ _ h => h) rfl hSx ?_)
                        try simp only [Act.put, List.getElem_toArray, List.getElem_cons_succ, List.getElem_cons_zero, List.setIfInBounds_toArray, List.set_cons_zero, List.set_cons_succ]
                        first | (refine wpAnyH_takeB (i := 11) (v := ?vyL15_11) rfl (by kernel_rfl) (fun _ _ _ h => h) rfl ?yL15_11 hSx ?_; case yL15_11 => (intro w' hSw; (try dsimp only at hSw); go_split_ands; go_simp; try with_reducible rfl)) | (refine wpAnyH_skipB (i := 11) rfl (by kernel_rfl) (fun _ _ _ h => h) rfl hSx ?_)
                        try simp only [Act.put, List.getElem_toArray, List.getElem_cons_succ, List.getElem_cons_zero, List.setIfInBounds_toArray, List.set_cons_zero, List.set_cons_succ]
                        first | (refine wpAnyH_takeB (i := 12) (v := ?vyL15_12) rfl (by kernel_rfl) (fun _ _ _ h => h) rfl ?yL15_12 hSx ?_; case yL15_12 => (intro w' hSw; (try dsimp only at hSw); go_split_ands; go_simp; try with_reducible rfl)) | (refine wpAnyH_skipB (i := 12) rfl (by kernel_rfl) (fun _ _ _ h => h) rfl hSx ?_)
                        try simp only [Act.put, List.getElem_toArray, List.getElem_cons_succ, List.getElem_cons_zero, List.setIfInBounds_toArray, List.set_cons_zero, List.set_cons_succ]
                        refine wpAnyH_takeB (i := 13) (v := ?vyL15_13) rfl (by kernel_rfl) (fun _ _ _ h => h) rfl ?yL15_13 hSx ?_
                        case yL15_13 => (intro w' hSw; (try dsimp only at hSw); go_split_ands; go_simp; try with_reducible rfl)
                        try simp only [Act.put, List.getElem_toArray, List.getElem_cons_succ, List.getElem_cons_zero, List.setIfInBounds_toArray, List.set_cons_zero, List.set_cons_succ]
                        refine wpAnyH_takeB (i := 14) (v := ?vyL15_14) rfl (by kernel_rfl) (fun _ _ _ h => h) rfl ?yL15_14 hSx ?_
                        case yL15_14 => (intro w' hSw; (try dsimp only at hSw); go_split_ands; go_simp; try with_reducible rfl)
                        try simp only [Act.put, List.getElem_toArray, List.getElem_cons_succ, List.getElem_cons_zero, List.setIfInBounds_toArray, List.set_cons_zero, List.set_cons_succ]
                        first | (refine wpAnyH_takeB (i := 15) (v := ?vyL15_15) rfl (by kernel_rfl) (fun _ _ _ h => h) rfl ?yL15_15 hSx ?_; case yL15_15 => (intro w' hSw; (try dsimp only at hSw); go_split_ands; go_simp; try with_reducible rfl)) | (refine wpAnyH_skipB (i := 15) rfl (by kernel_rfl) (fun _ _ _ h => h) rfl hSx ?_)
                        try simp only [Act.put, List.getElem_toArray, List.getElem_cons_succ, List.getElem_cons_zero, List.setIfInBounds_toArray, List.set_cons_zero, List.set_cons_succ]
                        first | (refine wpAnyH_takeB (i := 16) (v := ?vyL15_16) rfl (by kernel_rfl) (fun _ _ _ h => h) rfl ?yL15_16 hSx ?_; case yL15_16 => (intro w' hSw; (try dsimp only at hSw); go_split_ands; go_simp; try with_reducible rfl)) | (refine wpAnyH_skipB (i := 16) rfl (by kernel_rfl) (fun _ _ _ h => h) rfl hSx ?_)
                        try simp only [Act.put, List.getElem_toArray, List.getElem_cons_succ, List.getElem_cons_zero, List.setIfInBounds_toArray, List.set_cons_zero, List.set_cons_succ]
                        first | (refine wpAnyH_takeB (i := 17) (v := ?vyL15_17) rfl (by kernel_rfl) (fun _ _ _ h => h) rfl ?yL15_17 hSx ?_; case yL15_17 => (intro w' hSw; (try dsimp only at hSw); go_split_ands; go_simp; try with_reducible rfl)) | (refine wpAnyH_skipB (i := 17) rfl (by kernel_rfl) (fun _ _ _ h => h) rfl hSx ?_)
                        try simp only [Act.put, List.getElem_toArray, List.getElem_cons_succ, List.getElem_cons_zero, List.setIfInBounds_toArray, List.set_cons_zero, List.set_cons_succ]
                        refine wpAnyH_takeB (i := 18) (v := ?vyL15_18) rfl (by kernel_rfl) (fun _ _ _ h => h) rfl ?yL15_18 hSx ?_
                        case yL15_18 => (intro w' hSw; (try dsimp only at hSw); go_split_ands; go_simp; try with_reducible rfl)
                        try simp only [Act.put, List.getElem_toArray, List.getElem_cons_succ, List.getElem_cons_zero, List.setIfInBounds_toArray, List.set_cons_zero, List.set_cons_succ]
                        refine wpAnyH_takeB (i := 19) (v := ?vyL15_19) rfl (by kernel_rfl) (fun _ _ _ h => h) rfl ?yL15_19 hSx ?_
                        case yL15_19 => (intro w' hSw; (try dsimp only at hSw); go_split_ands; go_simp; try with_reducible rfl)
                        try simp only [Act.put, List.getElem_toArray, List.getElem_cons_succ, List.getElem_cons_zero, List.setIfInBounds_toArray, List.set_cons_zero, List.set_cons_succ]
                        refine wpAnyH_takeB (i := 20) (v := ?vyL15_20) rfl (by kernel_rfl) (fun _ _ _ h => h) rfl ?yL15_20 hSx ?_
                        case yL15_20 => (intro w' hSw; (try dsimp only at hSw); go_split_ands; go_simp; try with_reducible rfl)
                        try simp only [Act.put, List.getElem_toArray, List.getElem_cons_succ, List.getElem_cons_zero, List.setIfInBounds_toArray, List.set_cons_zero, List.set_cons_succ]
                        refine wpAnyH_done (by kernel_rfl) ?_ _
                        obtain ⟨_, G7, r1, r2⟩ := HOP.out
                        have HL7 : Hid (Law W w7 G7 r.2 ∧ EsS W w7 G7 (.slice ea n ec) es ∧ G7.h = G.h) := ⟨HL6.out.1.op r1 r2 HANS.out.wf, HL6.out.2.1.op r2, r2.h.trans HL6.out.2.2⟩
                        have HR7 : Hid (L.length ≤ r.2.length ∧ r.2.length ≤ L.length + 3 ∧ r.1 < 2 * (r.2.length + 1)) := ⟨HANS.out.le, HANS.out.lenle, HANS.out.own⟩
                        clear r1 r2 HOP
                        have HNT := Lib.hid (Not_any r.1 w7 (by have := HR7.out; have := HLL.out; omega))
                        have HL8 := Lib.hid (HL7.out.1.after (w' := w7.alloc (.cells #[.int .i64 (r.1 : Int), .int .i64 (neg r.1 : Int)] 3)) ((Below.refl _ _).alloc (Nat.le_refl _) _))
                        have hA2 : ArgI (w7.alloc (.cells #[.int .i64 (r.1 : Int), .int .i64 (neg r.1 : Int)] 3)) (some ⟨w7.heap.size, 0, none⟩) 2 (fun j => (([r.1, neg r.1].getD j 0 : Nat) : Int)) := by
                          refine Or.inr ⟨w7.heap.size, 0, rfl, by simp, fun j hj => ?_⟩
                          rw [Nat.zero_add]
                          simp only [World.cell?, heap_alloc_new]
                          match j, hj with | 0, _ => rfl | 1, _ => rfl
                        have hEV2 := Eval_any HL8.out.rep HL8.out.wf ma mn mc M (HA.out.2.2.below HL8.out.below) (by omega) (some ⟨w7.heap.size, 0, none⟩) 2 2 _ hA2 (by omega) (fun j hj => by
                          have h := HR7.out; have h2 := HLL.out; have h3 := neg_lt h.2.2
                          match j, hj with
                          | 0, _ => show ((r.1 : Nat) : Int) ≤ _; omega
                          | 1, _ => show ((neg r.1 : Nat) : Int) ≤ _; omega) (by have := HR7.out; have := HLL.out; omega)
                        rw [HL7.out.2.2] at hEV2
                        have HEV2 := Lib.hid hEV2
                        clear hA2 hEV2
                        go_wp2_with fail
                        refine HNT.out.mono ?_
                        rintro e w' ⟨rfl, rfl⟩
                        go_wp2_with fail
                        refine HEV2.out.mono ?_
                        rintro e w8 ⟨vb2, rfl, hvb2, hrow2, hb8⟩
                        have f0 : w8.cell? ⟨vb2, 0, none⟩ = some (.bool v2) := by
                          rw [hrow2.cell (i := 0) (by omega)]
                          show some (Value.bool (val (mdl M mn) r.2 (own r.2 ((r.1 : Nat) : Int)))) = _
                          rw [own_nat HR7.out.2.2, HWT.out]
                        have f1 : w8.cell? ⟨vb2, 1, none⟩ = some (.bool nv) := by
                          rw [hrow2.cell (i := 1) (by omega)]
                          show some (Value.bool (val (mdl M mn) r.2 (own r.2 ((neg r.1 : Nat) : Int)))) = _
                          rw [own_nat (neg_lt HR7.out.2.2), val_neg, HWT.out]; rw [HNV.out]
                        have HB8 : Hid (Below w7.heap.size w7 w8) := ((Below.refl _ _).alloc (Nat.le_refl _) _ : Below w7.heap.size w7 (w7.alloc (.cells #[.int .i64 (r.1 : Int), .int .i64 (neg r.1 : Int)] 3))).trans (hb8.mono (by simp))
                        have HO8 : Hid (w8.ownsRow W.heap.size 3 1 (.slice ea n ec) n (es.map encN)) := by have := (HL7.out.2.1.after HB8.out).1; rw [← HN0.out] at this; exact this
                        have hbs8 : W.heap.size ≤ w8.heap.size := Nat.le_trans HL7.out.1.below.size HB8.out.size
                        clear hvb2 hrow2 hb8 HEV2 HSC
                        go_wp2_with (at_builtin; refine wpList_append_lies _ rfl _ _ 31 rfl W.heap.size 3 ii _ 1 8 Try.underlying31 hi hz0 hz1 hz2 rfl (by decide) _ _ _ rfl (HO8.out.alloc _) ⟨w8.heap.size, 0, none⟩ 1 1 [.int .i64 (r.1 : Int)] rfl rfl (World.news_of_block (cs := #[.int .i64 (r.1 : Int)]) (t := 3) (fr := (0, 0)) (heap_alloc_new w8 _)) (by simp [Value.oneCell']) (by decide) (by unfold maxLen; omega) (by omega) (by simp; omega) (w8.heap.size + 1) (by simp) ?_; intro g cap w9 hown9 hgrow9 hat9 hlt9; refine Hid.out ?_)
                        refine Lib.hid ?_
                        have HEND : Hid (TruthI W G.h (i + 1) (.slice (some ⟨g, 0, none⟩) (n + 1) cap) w9) := by
                          have hp := (HL7.out.2.1.after HB8.out).push (e := r.1) (HL7.out.1.after HB8.out) (.cells #[.int .i64 (r.1 : Int)] 3) hgrow9 hat9 (by rw [← HN0.out]; exact hown9)
                          obtain ⟨G9, g9, k1, k2⟩ := hp
                          rw [← HN0.out] at k2
                          refine ⟨G9, r.2, es ++ [r.1], g9.trans HL7.out.2.2, k1, k2, by rw [List.length_append, HES.out.1]; rfl, by have := HR7.out; have := HES.out.2.1; omega, fun j hj => ?_⟩
                          rw [getD_snoc]
                          split
                          · rename_i e; have := HES.out.2.2 j e; have := HR7.out; omega
                          · split
                            · exact HR7.out.2.2
                            · have := HR7.out; omega
                        clear hown9 hgrow9 hat9 hlt9
                        go_wp2_with fail
                        go_roundw
                        case rel => exact ⟨i + 1, by go_num, by omega, HEND⟩
                        case measure => simp [intOf]; omega
                    | true =>
                      as_aux_lemma =>
                        have HANS := Lib.hid (anyE_ans HL6.out.1.wf [x, y, z] HOW.out.2.2.2)
                        have HWT : Hid (val (mdl M mn) (anyE L [x, y, z]).2 (anyE L [x, y, z]).1 = true) := by
                          have hv0 := HV.out.1
                          have hv1 := HV.out.2.1
                          have hv2 := HV.out.2.2
                          show val (mdl M mn) (anyE L [x, y, z]).2 (anyE L [x, y, z]).1 = true
                          rw [HANS.out.val]
                          simp [← hv0, ← hv1, ← hv2]
                        generalize hr : anyE L [x, y, z] = r at *
                        clear hr
                        go_wp2_with fail
                        refine wp_region_H (S := (fun w' => w'.cell? ⟨vb, 0, none⟩ = some (.bool false) ∧ w'.cell? ⟨vb, 1, none⟩ = some (.bool true) ∧ w'.cell? ⟨vb, 2, none⟩ = some (.bool v2))) 21 (by kernel_rfl) ((HSC.out _ G1 (Fr.drew _ _))) (fun hSx => ?_)
                        refine wpAnyH_takeB (i := 0) (v := ?vyL16_0) rfl (by kernel_rfl) (fun _ _ _ h => h) rfl ?yL16_0 hSx ?_
                        case yL16_0 => (intro w' hSw; (try dsimp only at hSw); go_split_ands; go_simp; try with_reducible rfl)
                        try simp only [Act.put, List.getElem_toArray, List.getElem_cons_succ, List.getElem_cons_zero, List.setIfInBounds_toArray, List.set_cons_zero, List.set_cons_succ]
                        refine wpAnyH_takeB (i := 1) (v := ?vyL16_1) rfl (by kernel_rfl) (fun _ _ _ h => h) rfl ?yL16_1 hSx ?_
                        case yL16_1 => (intro w' hSw; (try dsimp only at hSw); go_split_ands; go_simp; try with_reducible rfl)
                        try simp only [Act.put, List.getElem_toArray, List.getElem_cons_succ, List.getElem_cons_zero, List.setIfInBounds_toArray, List.set_cons_zero, List.set_cons_succ]
                        refine wpAnyH_takeB (i := 2) (v := ?vyL16_2) rfl (by kernel_rfl) (fun _ _ _ h => h) rfl ?yL16_2 hSx ?_
                        case yL16_2 => (intro w' hSw; (try dsimp only at hSw); go_split_ands; go_simp; try with_reducible rfl)
                        try simp only [Act.put, List.getElem_toArray, List.getElem_cons_succ, List.getElem_cons_zero, List.setIfInBounds_toArray, List.set_cons_zero, List.set_cons_succ]
                        refine wpAnyH_takeB (i := 3) (v := ?vyL16_3) rfl (by kernel_rfl) (fun _ _ _ h => h) rfl ?yL16_3 hSx ?_
                        case yL16_3 => (intro w' hSw; (try dsimp only at hSw); go_split_ands; go_simp; try with_reducible rfl)
                        try simp only [Act.put, List.getElem_toArray, List.getElem_cons_succ, List.getElem_cons_zero, List.setIfInBounds_toArray, List.set_cons_zero, List.set_cons_succ]
                        refine wpAnyH_takeB (i := 6) (v := ?vyL16_6) rfl (by kernel_rfl) (fun _ _ _ h => h) rfl ?yL16_6 hSx ?_
                        case yL16_6 => (intro w' hSw; (try dsimp only at hSw); go_split_ands; go_simp; try with_reducible rfl)
                        try simp only [Act.put, List.getElem_toArray, List.getElem_cons_succ, List.getElem_cons_zero, List.setIfInBounds_toArray, List.set_cons_zero, List.set_cons_succ]
                        refine wpAnyH_takeB (i := 7) (v := ?vyL16_7) rfl (by kernel_rfl) (fun _ _ _ h => h) rfl ?yL16_7 hSx ?_
                        case yL16_7 => (intro w' hSw; (try dsimp only at hSw); go_split_ands; go_simp; try with_reducible rfl)
                        try simp only [Act.put, List.getElem_toArray, List.getElem_cons_succ, List.getElem_cons_zero, List.setIfInBounds_toArray, List.set_cons_zero, List.set_cons_succ]
                        refine wpAnyH_takeB (i := 8) (v := ?vyL16_8) rfl (by kernel_rfl) (fun _ _ _ h => h) rfl ?yL16_8 hSx ?_
                        case yL16_8 => (intro w' hSw; (try dsimp only at hSw); go_split_ands; go_simp; try with_reducible rfl)
                        try simp only [Act.put, List.getElem_toArray, List.getElem_cons_succ, List.getElem_cons_zero, List.setIfInBounds_toArray, List.set_cons_zero, List.set_cons_succ]
                        refine' wpAnyH_one (i := 4) ?taeL16_4 ?tbeL16_4 ?tceL16_4 ?tdeL16_4
                        case tbeL16_4 => rfl
                        case taeL16_4 => kernel_rfl
                        case tceL16_4 => rfl
                        intro K hK
                        go_simp
                        refine hK.out _ _ (HSC.out _ G1 ((Fr.drew _ _).trans (Fr.alloc _ _ _))) (fun hSx => ?_)
                        clear hK K
                        try simp only [Act.put, List.getElem_toArray, List.getElem_cons_succ, List.getElem_cons_zero, List.setIfInBounds_toArray, List.set_cons_zero, List.set_cons_succ]
                        refine' wpAnyH_one (i := 5) ?taeL16_5 ?tbeL16_5 ?tceL16_5 ?tdeL16_5
                        case tbeL16_5 => rfl
                        case taeL16_5 => kernel_rfl
                        case tceL16_5 => rfl
                        intro K hK
                        go_simp
                        refine HC5.out.mono ?_
                        intro e w7 hop
                        have HOP := Lib.hid (hop.pre' ((Fr.drew G1 w6).trans (Fr.alloc _ _ _)))
                        obtain ⟨rfl, _⟩ := hop.thenE
                        clear hop
                        try dsimp only
                        refine hK.out _ _ (by obtain ⟨_, G7, _, s2⟩ := HOP.out; exact HSC.out w7 G7 s2) (fun hSx => ?_)
                        clear hK K
                        try simp only [Act.put, List.getElem_toArray, List.getElem_cons_succ, List.getElem_cons_zero, List.setIfInBounds_toArray, List.set_cons_zero, List.set_cons_succ]
                        refine wpAnyH_takeB (i := 9) (v := ?vyL16_9) rfl (by kernel_rfl) (fun _ _ _ h => h) rfl ?yL16_9 hSx ?_
                        case yL16_9 => (intro w' hSw; (try dsimp only at hSw); go_split_ands; go_simp; try with_reducible rfl)
                        try simp only [Act.put, List.getElem_toArray, List.getElem_cons_succ, List.getElem_cons_zero, List.setIfInBounds_toArray, List.set_cons_zero, List.set_cons_succ]
                        first | (refine wpAnyH_takeB (i := 10) (v := ?vyL16_10) rfl (by kernel_rfl) (fun _ _ _ h => h) rfl ?yL16_10 hSx ?_; case yL16_10 => (intro w' hSw; (try dsimp only at hSw); go_split_ands; go_simp; try with_reducible rfl)) | (refine wpAnyH_skipB (i := 10) rfl (by kernel_rfl) (fun _ _ _ h => h) rfl hSx ?_)
                        try simp only [Act.put, List.getElem_toArray, List.getElem_cons_succ, List.getElem_cons_zero, List.setIfInBounds_toArray, List.set_cons_zero, List.set_cons_succ]
                        first | (refine wpAnyH_takeB (i := 11) (v := ?vyL16_11) rfl (by kernel_rfl) (fun _ _ _ h => h) rfl ?yL16_11 hSx ?_; case yL16_11 => (intro w' hSw; (try dsimp only at hSw); go_split_ands; go_simp; try with_reducible rfl)) | (refine wpAnyH_skipB (i := 11) rfl (by kernel_rfl) (fun _ _ _ h => h) rfl hSx ?_)
                        try simp only [Act.put, List.getElem_toArray, List.getElem_cons_succ, List.getElem_cons_zero, List.setIfInBounds_toArray, List.set_cons_zero, List.set_cons_succ]
                        first | (refine wpAnyH_takeB (i := 12) (v := ?vyL16_12) rfl (by kernel_rfl) (fun _ _ _ h => h) rfl ?yL16_12 hSx ?_; case yL16_12 => (intro w' hSw; (try dsimp only at hSw); go_split_ands; go_simp; try with_reducible rfl)) | (refine wpAnyH_skipB (i := 12) rfl (by kernel_rfl) (fun _ _ _ h => h) rfl hSx ?_)
                        try simp only [Act.put, List.getElem_toArray, List.getElem_cons_succ, List.getElem_cons_zero, List.setIfInBounds_toArray, List.set_cons_zero, List.set_cons_succ]
                        refine wpAnyH_takeB (i := 13) (v := ?vyL16_13) rfl (by kernel_rfl) (fun _ _ _ h => h) rfl ?yL16_13 hSx ?_
                        case yL16_13 => (intro w' hSw; (try dsimp only at hSw); go_split_ands; go_simp; try with_reducible rfl)
                        try simp only [Act.put, List.getElem_toArray, List.getElem_cons_succ, List.getElem_cons_zero, List.setIfInBounds_toArray, List.set_cons_zero, List.set_cons_succ]
                        refine wpAnyH_takeB (i := 14) (v := ?vyL16_14) rfl (by kernel_rfl) (fun _ _ _ h => h) rfl ?yL16_14 hSx ?_
                        case yL16_14 => (intro w' hSw; (try dsimp only at hSw); go_split_ands; go_simp; try with_reducible rfl)
                        try simp only [Act.put, List.getElem_toArray, List.getElem_cons_succ, List.getElem_cons_zero, List.setIfInBounds_toArray, List.set_cons_zero, List.set_cons_succ]
                        first | (refine wpAnyH_takeB (i := 15) (v := ?vyL16_15) rfl (by kernel_rfl) (fun _ _ _ h => h) rfl ?yL16_15 hSx ?_; case yL16_15 => (intro w' hSw; (try dsimp only at hSw); go_split_ands; go_simp; try with_reducible rfl)) | (refine wpAnyH_skipB (i := 15) rfl (by kernel_rfl) (fun _ _ _ h => h) rfl hSx ?_)
                        try simp only [Act.put, List.getElem_toArray, List.getElem_cons_succ, List.getElem_cons_zero, List.setIfInBounds_toArray, List.set_cons_zero, List.set_cons_succ]
                        first | (refine wpAnyH_takeB (i := 16) (v := ?vyL16_16) rfl (by kernel_rfl) (fun _ _ _ h => h) rfl ?yL16_16 hSx ?_; case yL16_16 => (intro w' hSw; (try dsimp only at hSw); go_split_ands; go_simp; try with_reducible rfl)) | (refine wpAnyH_skipB (i := 16) rfl (by kernel_rfl) (fun _ _ _ h => h) rfl hSx ?_)
                        try simp only [Act.put, List.getElem_toArray, List.getElem_cons_succ, List.getElem_cons_zero, List.setIfInBounds_toArray, List.set_cons_zero, List.set_cons_succ]
                        first | (refine wpAnyH_takeB (i := 17) (v := ?vyL16_17) rfl (by kernel_rfl) (fun _ _ _ h => h) rfl ?yL16_17 hSx ?_; case yL16_17 => (intro w' hSw; (try dsimp only at hSw); go_split_ands; go_simp; try with_reducible rfl)) | (refine wpAnyH_skipB (i := 17) rfl (by kernel_rfl) (fun _ _ _ h => h) rfl hSx ?_)
                        try simp only [Act.put, List.getElem_toArray, List.getElem_cons_succ, List.getElem_cons_zero, List.setIfInBounds_toArray, List.set_cons_zero, List.set_cons_succ]
                        refine wpAnyH_takeB (i := 18) (v := ?vyL16_18) rfl (by kernel_rfl) (fun _ _ _ h => h) rfl ?yL16_18 hSx ?_
                        case yL16_18 => (intro w' hSw; (try dsimp only at hSw); go_split_ands; go_simp; try with_reducible rfl)
                        try simp only [Act.put, List.getElem_toArray, List.getElem_cons_succ, List.getElem_cons_zero, List.setIfInBounds_toArray, List.set_cons_zero, List.set_cons_succ]
                        refine wpAnyH_takeB (i := 19) (v := ?vyL16_19) rfl (by kernel_rfl) (fun _ _ _ h => h) rfl ?yL16_19 hSx ?_
                        case yL16_19 => (intro w' hSw; (try dsimp only at hSw); go_split_ands; go_simp; try with_reducible rfl)
                        try simp only [Act.put, List.getElem_toArray, List.getElem_cons_succ, List.getElem_cons_zero, List.setIfInBounds_toArray, List.set_cons_zero, List.set_cons_succ]
                        refine wpAnyH_takeB (i := 20) (v := ?vyL16_20) rfl (by kernel_rfl) (fun _ _ _ h => h) rfl ?yL16_20 hSx ?_
                        case yL16_20 => (intro w' hSw; (try dsimp only at hSw); go_split_ands; go_simp; try with_reducible rfl)
                        try simp only [Act.put, List.getElem_toArray, List.getElem_cons_succ, List.getElem_cons_zero, List.setIfInBounds_toArray, List.set_cons_zero, List.set_cons_succ]
                        refine wpAnyH_done (by kernel_rfl) ?_ _
                        obtain ⟨_, G7, r1, r2⟩ := HOP.out
                        have HL7 : Hid (Law W w7 G7 r.2 ∧ EsS W w7 G7 (.slice ea n ec) es ∧ G7.h = G.h) := ⟨HL6.out.1.op r1 r2 HANS.out.wf, HL6.out.2.1.op r2, r2.h.trans HL6.out.2.2⟩
                        have HR7 : Hid (L.length ≤ r.2.length ∧ r.2.length ≤ L.length + 3 ∧ r.1 < 2 * (r.2.length + 1)) := ⟨HANS.out.le, HANS.out.lenle, HANS.out.own⟩
                        clear r1 r2 HOP
                        have HNT := Lib.hid (Not_any r.1 w7 (by have := HR7.out; have := HLL.out; omega))
                        have HL8 := Lib.hid (HL7.out.1.after (w' := w7.alloc (.cells #[.int .i64 (r.1 : Int), .int .i64 (neg r.1 : Int)] 3)) ((Below.refl _ _).alloc (Nat.le_refl _) _))
                        have hA2 : ArgI (w7.alloc (.cells #[.int .i64 (r.1 : Int), .int .i64 (neg r.1 : Int)] 3)) (some ⟨w7.heap.size, 0, none⟩) 2 (fun j => (([r.1, neg r.1].getD j 0 : Nat) : Int)) := by
                          refine Or.inr ⟨w7.heap.size, 0, rfl, by simp, fun j hj => ?_⟩
                          rw [Nat.zero_add]
                          simp only [World.cell?, heap_alloc_new]
                          match j, hj with | 0, _ => rfl | 1, _ => rfl
                        have hEV2 := Eval_any HL8.out.rep HL8.out.wf ma mn mc M (HA.out.2.2.below HL8.out.below) (by omega) (some ⟨w7.heap.size, 0, none⟩) 2 2 _ hA2 (by omega) (fun j hj => by
                          have h := HR7.out; have h2 := HLL.out; have h3 := neg_lt h.2.2
                          match j, hj with
                          | 0, _ => show ((r.1 : Nat) : Int) ≤ _; omega
                          | 1, _ => show ((neg r.1 : Nat) : Int) ≤ _; omega) (by have := HR7.out; have := HLL.out; omega)
                        rw [HL7.out.2.2] at hEV2
                        have HEV2 := Lib.hid hEV2
                        clear hA2 hEV2
                        go_wp2_with fail
                        refine HNT.out.mono ?_
                        rintro e w' ⟨rfl, rfl⟩
                        go_wp2_with fail
                        refine HEV2.out.mono ?_
                        rintro e w8 ⟨vb2, rfl, hvb2, hrow2, hb8⟩
                        have f0 : w8.cell? ⟨vb2, 0, none⟩ = some (.bool true) := by
                          rw [hrow2.cell (i := 0) (by omega)]
                          show some (Value.bool (val (mdl M mn) r.2 (own r.2 ((r.1 : Nat) : Int)))) = _
                          rw [own_nat HR7.out.2.2, HWT.out]
                        have f1 : w8.cell? ⟨vb2, 1, none⟩ = some (.bool false) := by
                          rw [hrow2.cell (i := 1) (by omega)]
                          show some (Value.bool (val (mdl M mn) r.2 (own r.2 ((neg r.1 : Nat) : Int)))) = _
                          rw [own_nat (neg_lt HR7.out.2.2), val_neg, HWT.out]; rfl
                        have HB8 : Hid (Below w7.heap.size w7 w8) := ((Below.refl _ _).alloc (Nat.le_refl _) _ : Below w7.heap.size w7 (w7.alloc (.cells #[.int .i64 (r.1 : Int), .int .i64 (neg r.1 : Int)] 3))).trans (hb8.mono (by simp))
                        have HO8 : Hid (w8.ownsRow W.heap.size 3 1 (.slice ea n ec) n (es.map encN)) := by have := (HL7.out.2.1.after HB8.out).1; rw [← HN0.out] at this; exact this
                        have hbs8 : W.heap.size ≤ w8.heap.size := Nat.le_trans HL7.out.1.below.size HB8.out.size
                        clear hvb2 hrow2 hb8 HEV2 HSC
                        go_wp2_with (at_builtin; refine wpList_append_lies _ rfl _ _ 31 rfl W.heap.size 3 ii _ 1 8 Try.underlying31 hi hz0 hz1 hz2 rfl (by decide) _ _ _ rfl (HO8.out.alloc _) ⟨w8.heap.size, 0, none⟩ 1 1 [.int .i64 (r.1 : Int)] rfl rfl (World.news_of_block (cs := #[.int .i64 (r.1 : Int)]) (t := 3) (fr := (0, 0)) (heap_alloc_new w8 _)) (by simp [Value.oneCell']) (by decide) (by unfold maxLen; omega) (by omega) (by simp; omega) (w8.heap.size + 1) (by simp) ?_; intro g cap w9 hown9 hgrow9 hat9 hlt9; refine Hid.out ?_)
                        refine Lib.hid ?_
                        have HEND : Hid (TruthI W G.h (i + 1) (.slice (some ⟨g, 0, none⟩) (n + 1) cap) w9) := by
                          have hp := (HL7.out.2.1.after HB8.out).push (e := r.1) (HL7.out.1.after HB8.out) (.cells #[.int .i64 (r.1 : Int)] 3) hgrow9 hat9 (by rw [← HN0.out]; exact hown9)
                          obtain ⟨G9, g9, k1, k2⟩ := hp
                          rw [← HN0.out] at k2
                          refine ⟨G9, r.2, es ++ [r.1], g9.trans HL7.out.2.2, k1, k2, by rw [List.length_append, HES.out.1]; rfl, by have := HR7.out; have := HES.out.2.1; omega, fun j hj => ?_⟩
                          rw [getD_snoc]
                          split
                          · rename_i e; have := HES.out.2.2 j e; have := HR7.out; omega
                          · split
                            · exact HR7.out.2.2
                            · have := HR7.out; omega
                        clear hown9 hgrow9 hat9 hlt9
                        go_wp2_with fail
                        go_roundw
                        case rel => exact ⟨i + 1, by go_num, by omega, HEND⟩
                        case measure => simp [intOf]; omega
                  | true =>
                    as_aux_lemma =>
                      have HANS := Lib.hid (anyE_ans HL6.out.1.wf [x, y, z] HOW.out.2.2.2)
                      have HWT : Hid (val (mdl M mn) (anyE L [x, y, z]).2 (anyE L [x, y, z]).1 = true) := by
                        have hv0 := HV.out.1
                        have hv1 := HV.out.2.1
                        have hv2 := HV.out.2.2
                        show val (mdl M mn) (anyE L [x, y, z]).2 (anyE L [x, y, z]).1 = true
                        rw [HANS.out.val]
                        simp [← hv0, ← hv1, ← hv2]
                      generalize hr : anyE L [x, y, z] = r at *
                      clear hr
                      go_wp2_with fail
                      refine wp_region_H (S := (fun w' => w'.cell? ⟨vb, 0, none⟩ = some (.bool true) ∧ w'.cell? ⟨vb, 1, none⟩ = some (.bool v1) ∧ w'.cell? ⟨vb, 2, none⟩ = some (.bool v2))) 21 (by kernel_rfl) ((HSC.out _ G1 (Fr.drew _ _))) (fun hSx => ?_)
                      refine wpAnyH_takeB (i := 0) (v := ?vyL17_0) rfl (by kernel_rfl) (fun _ _ _ h => h) rfl ?yL17_0 hSx ?_
                      case yL17_0 => (intro w' hSw; (try dsimp only at hSw); go_split_ands; go_simp; try with_reducible rfl)
                      try simp only [Act.put, List.getElem_toArray, List.getElem_cons_succ, List.getElem_cons_zero, List.setIfInBounds_toArray, List.set_cons_zero, List.set_cons_succ]
                      refine wpAnyH_takeB (i := 1) (v := ?vyL17_1) rfl (by kernel_rfl) (fun _ _ _ h => h) rfl ?yL17_1 hSx ?_
                      case yL17_1 => (intro w' hSw; (try dsimp only at hSw); go_split_ands; go_simp; try with_reducible rfl)
                      try simp only [Act.put, List.getElem_toArray, List.getElem_cons_succ, List.getElem_cons_zero, List.setIfInBounds_toArray, List.set_cons_zero, List.set_cons_succ]
                      refine wpAnyH_takeB (i := 2) (v := ?vyL17_2) rfl (by kernel_rfl) (fun _ _ _ h => h) rfl ?yL17_2 hSx ?_
                      case yL17_2 => (intro w' hSw; (try dsimp only at hSw); go_split_ands; go_simp; try with_reducible rfl)
                      try simp only [Act.put, List.getElem_toArray, List.getElem_cons_succ, List.getElem_cons_zero, List.setIfInBounds_toArray, List.set_cons_zero, List.set_cons_succ]
                      refine wpAnyH_takeB (i := 3) (v := ?vyL17_3) rfl (by kernel_rfl) (fun _ _ _ h => h) rfl ?yL17_3 hSx ?_
                      case yL17_3 => (intro w' hSw; (try dsimp only at hSw); go_split_ands; go_simp; try with_reducible rfl)
                      try simp only [Act.put, List.getElem_toArray, List.getElem_cons_succ, List.getElem_cons_zero, List.setIfInBounds_toArray, List.set_cons_zero, List.set_cons_succ]
                      refine wpAnyH_takeB (i := 6) (v := ?vyL17_6) rfl (by kernel_rfl) (fun _ _ _ h => h) rfl ?yL17_6 hSx ?_
                      case yL17_6 => (intro w' hSw; (try dsimp only at hSw); go_split_ands; go_simp; try with_reducible rfl)
                      try simp only [Act.put, List.getElem_toArray, List.getElem_cons_succ, List.getElem_cons_zero, List.setIfInBounds_toArray, List.set_cons_zero, List.set_cons_succ]
                      refine wpAnyH_takeB (i := 7) (v := ?vyL17_7) rfl (by kernel_rfl) (fun _ _ _ h => h) rfl ?yL17_7 hSx ?_
                      case yL17_7 => (intro w' hSw; (try dsimp only at hSw); go_split_ands; go_simp; try with_reducible rfl)
                      try simp only [Act.put, List.getElem_toArray, List.getElem_cons_succ, List.getElem_cons_zero, List.setIfInBounds_toArray, List.set_cons_zero, List.set_cons_succ]
                      refine wpAnyH_takeB (i := 8) (v := ?vyL17_8) rfl (by kernel_rfl) (fun _ _ _ h => h) rfl ?yL17_8 hSx ?_
                      case yL17_8 => (intro w' hSw; (try dsimp only at hSw); go_split_ands; go_simp; try with_reducible rfl)
                      try simp only [Act.put, List.getElem_toArray, List.getElem_cons_succ, List.getElem_cons_zero, List.setIfInBounds_toArray, List.set_cons_zero, List.set_cons_succ]
                      refine' wpAnyH_one (i := 4) ?taeL17_4 ?tbeL17_4 ?tceL17_4 ?tdeL17_4
                      case tbeL17_4 => rfl
                      case taeL17_4 => kernel_rfl
                      case tceL17_4 => rfl
                      intro K hK
                      go_simp
                      refine hK.out _ _ (HSC.out _ G1 ((Fr.drew _ _).trans (Fr.alloc _ _ _))) (fun hSx => ?_)
                      clear hK K
                      try simp only [Act.put, List.getElem_toArray, List.getElem_cons_succ, List.getElem_cons_zero, List.setIfInBounds_toArray, List.set_cons_zero, List.set_cons_succ]
                      refine' wpAnyH_one (i := 5) ?taeL17_5 ?tbeL17_5 ?tceL17_5 ?tdeL17_5
                      case tbeL17_5 => rfl
                      case taeL17_5 => kernel_rfl
                      case tceL17_5 => rfl
                      intro K hK
                      go_simp
                      refine HC5.out.mono ?_
                      intro e w7 hop
                      have HOP := Lib.hid (hop.pre' ((Fr.drew G1 w6).trans (Fr.alloc _ _ _)))
                      obtain ⟨rfl, _⟩ := hop.thenE
                      clear hop
                      try dsimp only
                      refine hK.out _ _ (by obtain ⟨_, G7, _, s2⟩ := HOP.out; exact HSC.out w7 G7 s2) (fun hSx => ?_)
                      clear hK K
                      try simp only [Act.put, List.getElem_toArray, List.getElem_cons_succ, List.getElem_cons_zero, List.setIfInBounds_toArray, List.set_cons_zero, List.set_cons_succ]
                      refine wpAnyH_takeB (i := 9) (v := ?vyL17_9) rfl (by kernel_rfl) (fun _ _ _ h => h) rfl ?yL17_9 hSx ?_
                      case yL17_9 => (intro w' hSw; (try dsimp only at hSw); go_split_ands; go_simp; try with_reducible rfl)
                      try simp only [Act.put, List.getElem_toArray, List.getElem_cons_succ, List.getElem_cons_zero, List.setIfInBounds_toArray, List.set_cons_zero, List.set_cons_succ]
                      first | (refine wpAnyH_takeB (i := 10) (v := ?vyL17_10) rfl (by kernel_rfl) (fun _ _ _ h => h) rfl ?yL17_10 hSx ?_; case yL17_10 => (intro w' hSw; (try dsimp only at hSw); go_split_ands; go_simp; try with_reducible rfl)) | (refine wpAnyH_skipB (i := 10) rfl (by kernel_rfl) (fun _ _ _ h => h) rfl hSx ?_)
                      try simp only [Act.put, List.getElem_toArray, List.getElem_cons_succ, List.getElem_cons_zero, List.setIfInBounds_toArray, List.set_cons_zero, List.set_cons_succ]
                      first | (refine wpAnyH_takeB (i := 11) (v := ?vyL17_11) rfl (by kernel_rfl) (fun _ _ _ h => h) rfl ?yL17_11 hSx ?_; case yL17_11 => (intro w' hSw; (try dsimp only at hSw); go_split_ands; go_simp; try with_reducible rfl)) | (refine wpAnyH_skipB (i := 11) rfl (by kernel_rfl) (fun _ _ _ h => h) rfl hSx ?_)
                      try simp only [Act.put, List.getElem_toArray, List.getElem_cons_succ, List.getElem_cons_zero, List.setIfInBounds_toArray, List.set_cons_zero, List.set_cons_succ]
                      first | (refine wpAnyH_takeB (i := 12) (v := ?vyL17_12) rfl (by kernel_rfl) (fun _ _ _ h => h) rfl ?yL17_12 hSx ?_; case yL17_12 => (intro w' hSw; (try dsimp only at hSw); go_split_ands; go_simp; try with_reducible rfl)) | (refine wpAnyH_skipB (i := 12) rfl (by kernel_rfl) (fun _ _ _ h => h) rfl hSx ?_)
                      try simp only [Act.put, List.getElem_toArray, List.getElem_cons_succ, List.getElem_cons_zero, List.setIfInBounds_toArray, List.set_cons_zero, List.set_cons_succ]
                      refine wpAnyH_takeB (i := 13) (v := ?vyL17_13) rfl (by kernel_rfl) (fun _ _ _ h => h) rfl ?yL17_13 hSx ?_
                      case yL17_13 => (intro w' hSw; (try dsimp only at hSw); go_split_ands; go_simp; try with_reducible rfl)
                      try simp only [Act.put, List.getElem_toArray, List.getElem_cons_succ, List.getElem_cons_zero, List.setIfInBounds_toArray, List.set_cons_zero, List.set_cons_succ]
                      refine wpAnyH_takeB (i := 14) (v := ?vyL17_14) rfl (by kernel_rfl) (fun _ _ _ h => h) rfl ?yL17_14 hSx ?_
                      case yL17_14 => (intro w' hSw; (try dsimp only at hSw); go_split_ands; go_simp; try with_reducible rfl)
                      try simp only [Act.put, List.getElem_toArray, List.getElem_cons_succ, List.getElem_cons_zero, List.setIfInBounds_toArray, List.set_cons_zero, List.set_cons_succ]
                      first | (refine wpAnyH_takeB (i := 15) (v := ?vyL17_15) rfl (by kernel_rfl) (fun _ _ _ h => h) rfl ?yL17_15 hSx ?_; case yL17_15 => (intro w' hSw; (try dsimp only at hSw); go_split_ands; go_simp; try with_reducible rfl)) | (refine wpAnyH_skipB (i := 15) rfl (by kernel_rfl) (fun _ _ _ h => h) rfl hSx ?_)
                      try simp only [Act.put, List.getElem_toArray, List.getElem_cons_succ, List.getElem_cons_zero, List.setIfInBounds_toArray, List.set_cons_zero, List.set_cons_succ]
                      first | (refine wpAnyH_takeB (i := 16) (v := ?vyL17_16) rfl (by kernel_rfl) (fun _ _ _ h => h) rfl ?yL17_16 hSx ?_; case yL17_16 => (intro w' hSw; (try dsimp only at hSw); go_split_ands; go_simp; try with_reducible rfl)) | (refine wpAnyH_skipB (i := 16) rfl (by kernel_rfl) (fun _ _ _ h => h) rfl hSx ?_)
                      try simp only [Act.put, List.getElem_toArray, List.getElem_cons_succ, List.getElem_cons_zero, List.setIfInBounds_toArray, List.set_cons_zero, List.set_cons_succ]
                      first | (refine wpAnyH_takeB (i := 17) (v := ?vyL17_17) rfl (by kernel_rfl) (fun _ _ _ h => h) rfl ?yL17_17 hSx ?_; case yL17_17 => (intro w' hSw; (try dsimp only at hSw); go_split_ands; go_simp; try with_reducible rfl)) | (refine wpAnyH_skipB (i := 17) rfl (by kernel_rfl) (fun _ _ _ h => h) rfl hSx ?_)
                      try simp only [Act.put, List.getElem_toArray, List.getElem_cons_succ, List.getElem_cons_zero, List.setIfInBounds_toArray, List.set_cons_zero, List.set_cons_succ]
                      refine wpAnyH_takeB (i := 18) (v := ?vyL17_18) rfl (by kernel_rfl) (fun _ _ _ h => h) rfl ?yL17_18 hSx ?_
                      case yL17_18 => (intro w' hSw; (try dsimp only at hSw); go_split_ands; go_simp; try with_reducible rfl)
                      try simp only [Act.put, List.getElem_toArray, List.getElem_cons_succ, List.getElem_cons_zero, List.setIfInBounds_toArray, List.set_cons_zero, List.set_cons_succ]
                      refine wpAnyH_takeB (i := 19) (v := ?vyL17_19) rfl (by kernel_rfl) (fun _ _ _ h => h) rfl ?yL17_19 hSx ?_
                      case yL17_19 => (intro w' hSw; (try dsimp only at hSw); go_split_ands; go_simp; try with_reducible rfl)
                      try simp only [Act.put, List.getElem_toArray, List.getElem_cons_succ, List.getElem_cons_zero, List.setIfInBounds_toArray, List.set_cons_zero, List.set_cons_succ]
                      refine wpAnyH_takeB (i := 20) (v := ?vyL17_20) rfl (by kernel_rfl) (fun _ _ _ h => h) rfl ?yL17_20 hSx ?_
                      case yL17_20 => (intro w' hSw; (try dsimp only at hSw); go_split_ands; go_simp; try with_reducible rfl)
                      try simp only [Act.put, List.getElem_toArray, List.getElem_cons_succ, List.getElem_cons_zero, List.setIfInBounds_toArray, List.set_cons_zero, List.set_cons_succ]
                      refine wpAnyH_done (by kernel_rfl) ?_ _
                      obtain ⟨_, G7, r1, r2⟩ := HOP.out
                      have HL7 : Hid (Law W w7 G7 r.2 ∧ EsS W w7 G7 (.slice ea n ec) es ∧ G7.h = G.h) := ⟨HL6.out.1.op r1 r2 HANS.out.wf, HL6.out.2.1.op r2, r2.h.trans HL6.out.2.2⟩
                      have HR7 : Hid (L.length ≤ r.2.length ∧ r.2.length ≤ L.length + 3 ∧ r.1 < 2 * (r.2.length + 1)) := ⟨HANS.out.le, HANS.out.lenle, HANS.out.own⟩
                      clear r1 r2 HOP
                      have HNT := Lib.hid (Not_any r.1 w7 (by have := HR7.out; have := HLL.out; omega))
                      have HL8 := Lib.hid (HL7.out.1.after (w' := w7.alloc (.cells #[.int .i64 (r.1 : Int), .int .i64 (neg r.1 : Int)] 3)) ((Below.refl _ _).alloc (Nat.le_refl _) _))
                      have hA2 : ArgI (w7.alloc (.cells #[.int .i64 (r.1 : Int), .int .i64 (neg r.1 : Int)] 3)) (some ⟨w7.heap.size, 0, none⟩) 2 (fun j => (([r.1, neg r.1].getD j 0 : Nat) : Int)) := by
                        refine Or.inr ⟨w7.heap.size, 0, rfl, by simp, fun j hj => ?_⟩
                        rw [Nat.zero_add]
                        simp only [World.cell?, heap_alloc_new]
                        match j, hj with | 0, _ => rfl | 1, _ => rfl
                      have hEV2 := Eval_any HL8.out.rep HL8.out.wf ma mn mc M (HA.out.2.2.below HL8.out.below) (by omega) (some ⟨w7.heap.size, 0, none⟩) 2 2 _ hA2 (by omega) (fun j hj => by
                        have h := HR7.out; have h2 := HLL.out; have h3 := neg_lt h.2.2
                        match j, hj with
                        | 0, _ => show ((r.1 : Nat) : Int) ≤ _; omega
                        | 1, _ => show ((neg r.1 : Nat) : Int) ≤ _; omega) (by have := HR7.out; have := HLL.out; omega)
                      rw [HL7.out.2.2] at hEV2
                      have HEV2 := Lib.hid hEV2
                      clear hA2 hEV2
                      go_wp2_with fail
                      refine HNT.out.mono ?_
                      rintro e w' ⟨rfl, rfl⟩
                      go_wp2_with fail
                      refine HEV2.out.mono ?_
                      rintro e w8 ⟨vb2, rfl, hvb2, hrow2, hb8⟩
                      have f0 : w8.cell? ⟨vb2, 0, none⟩ = some (.bool true) := by
                        rw [hrow2.cell (i := 0) (by omega)]
                        show some (Value.bool (val (mdl M mn) r.2 (own r.2 ((r.1 : Nat) : Int)))) = _
                        rw [own_nat HR7.out.2.2, HWT.out]
                      have f1 : w8.cell? ⟨vb2, 1, none⟩ = some (.bool false) := by
                        rw [hrow2.cell (i := 1) (by omega)]
                        show some (Value.bool (val (mdl M mn) r.2 (own r.2 ((neg r.1 : Nat) : Int)))) = _
                        rw [own_nat (neg_lt HR7.out.2.2), val_neg, HWT.out]; rfl
                      have HB8 : Hid (Below w7.heap.size w7 w8) := ((Below.refl _ _).alloc (Nat.le_refl _) _ : Below w7.heap.size w7 (w7.alloc (.cells #[.int .i64 (r.1 : Int), .int .i64 (neg r.1 : Int)] 3))).trans (hb8.mono (by simp))
                      have HO8 : Hid (w8.ownsRow W.heap.size 3 1 (.slice ea n ec) n (es.map encN)) := by have := (HL7.out.2.1.after HB8.out).1; rw [← HN0.out] at this; exact this
                      have hbs8 : W.heap.size ≤ w8.heap.size := Nat.le_trans HL7.out.1.below.size HB8.out.size
                      clear hvb2 hrow2 hb8 HEV2 HSC
                      go_wp2_with (at_builtin; refine wpList_append_lies _ rfl _ _ 31 rfl W.heap.size 3 ii _ 1 8 Try.underlying31 hi hz0 hz1 hz2 rfl (by decide) _ _ _ rfl (HO8.out.alloc _) ⟨w8.heap.size, 0, none⟩ 1 1 [.int .i64 (r.1 : Int)] rfl rfl (World.news_of_block (cs := #[.int .i64 (r.1 : Int)]) (t := 3) (fr := (0, 0)) (heap_alloc_new w8 _)) (by simp [Value.oneCell']) (by decide) (by unfold maxLen; omega) (by omega) (by simp; omega) (w8.heap.size + 1) (by simp) ?_; intro g cap w9 hown9 hgrow9 hat9 hlt9; refine Hid.out ?_)
                      refine Lib.hid ?_
                      have HEND : Hid (TruthI W G.h (i + 1) (.slice (some ⟨g, 0, none⟩) (n + 1) cap) w9) := by
                        have hp := (HL7.out.2.1.after HB8.out).push (e := r.1) (HL7.out.1.after HB8.out) (.cells #[.int .i64 (r.1 : Int)] 3) hgrow9 hat9 (by rw [← HN0.out]; exact hown9)
                        obtain ⟨G9, g9, k1, k2⟩ := hp
                        rw [← HN0.out] at k2
                        refine ⟨G9, r.2, es ++ [r.1], g9.trans HL7.out.2.2, k1, k2, by rw [List.length_append, HES.out.1]; rfl, by have := HR7.out; have := HES.out.2.1; omega, fun j hj => ?_⟩
                        rw [getD_snoc]
                        split
                        · rename_i e; have := HES.out.2.2 j e; have := HR7.out; omega
                        · split
                          · exact HR7.out.2.2
                          · have := HR7.out; omega
                      clear hown9 hgrow9 hat9 hlt9
                      go_wp2_with fail
                      go_roundw
                      case rel => exact ⟨i + 1, by go_num, by omega, HEND⟩
                      case measure => simp [intOf]; omega
      · obtain rfl : i = m := by omega
        have hiz : ¬ (i : Int) < (i : Int) := by omega
        obtain ⟨G1, L, es, hg1, hL1, hE1, hesl, hLl, hown⟩ := HH.out
        have hc1 := All_any hL1.rep hL1.wf none 0 0 (fun _ => 0) (Or.inl rfl) (by omega) (fun j hj => by omega) (by omega)
        have he1 : allE L (edgesN L (fun _ => (0 : Int)) 0) = (1, L) := rfl
        rw [he1, hg1] at hc1
        have HC1 := Lib.hid hc1
        have HL1 := Lib.hid (And.intro hL1 (And.intro hg1 (show L.length ≤ 3 + 3 * 30 by omega)))
        clear HH hL1 hE1 hesl hLl hown hg1 hc1 START
        go_wp2_with fail
        refine HC1.out.mono ?_
        intro e w7 hop
        obtain ⟨rfl, G7, g7, s1, s2⟩ := hop.thenE
        have hL7 := HL1.out.1.op s1 s2 HL1.out.1.wf
        have hc2 := Any_any hL7.rep hL7.wf none 0 0 (fun _ => 0) (Or.inl rfl) (by omega) (fun j hj => by omega) (by have := HL1.out.2.2; show L.length < _; omega)
        have he2 : anyE L (edgesN L (fun _ => (0 : Int)) 0) = (0, L) := rfl
        rw [show ((1, L) : Nat × List Nd).2 = L from rfl, he2, g7.trans HL1.out.2.1] at hc2
        have HC2 := Lib.hid hc2
        have HL7 := Lib.hid hL7
        clear hop s1 s2 hc2 hL7
        go_wp2_with fail
        refine HC2.out.mono ?_
        intro e w8 hop
        obtain ⟨rfl, G8, g8, s1, s2⟩ := hop.thenE
        have HB8 := Lib.hid (HL7.out.op s1 s2 HL7.out.wf).below
        clear hop s1 s2
        go_wp2_with fail
        go_ret
        exact ⟨rfl, HB8.out⟩
end Go.Proofs.Ythnbocgippjhgaa.Gr
