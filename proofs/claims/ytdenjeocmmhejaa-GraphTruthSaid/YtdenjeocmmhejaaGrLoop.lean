/- The law GraphLoop as a contract. -/
import Derived.Test.YtdenjeocmmhejaaGrH
namespace Go.Proofs.Ytdenjeocmmhejaa.Gr
open Go Go.RowKit Go.Lib Go.Maps

/-- Exclusive ors of so many, one behind the other; from the last one on. -/
def fx (D : Nat → Bool) : Nat → Bool
  | 0 => false
  | i + 1 => fx D i != D i
def gx (D : Nat → Bool) (n : Nat) : Nat → Bool
  | 0 => false
  | i + 1 => D (n - 1 - i) != gx D n i
theorem gx_fx (D : Nat → Bool) (n i : Nat) (h : i ≤ n) : fx D n = (fx D (n - i) != gx D n i) := by
  induction i with
  | zero => simp [gx]
  | succ i ih =>
    rw [ih (by omega)]
    have e : n - i = (n - 1 - i) + 1 := by omega
    rw [e]
    show ((fx D (n - 1 - i) != D (n - 1 - i)) != gx D n i) = (fx D (n - (i + 1)) != (D (n - 1 - i) != gx D n i))
    rw [show n - (i + 1) = n - 1 - i by omega]
    cases fx D (n - 1 - i) <;> cases D (n - 1 - i) <;> cases gx D n i <;> rfl
theorem gx_all (D : Nat → Bool) (n : Nat) : gx D n n = fx D n := by
  rw [gx_fx D n n (Nat.le_refl _), Nat.sub_self]
  show _ = (false != gx D n n)
  cases gx D n n <;> rfl

/-- The edges that are picked from, over three inputs. -/
def E4 (k : Nat) : Nat := [1, 2, 4, 6].getD k 0
def L3 : List Nd := [none, none, none]
theorem E4_lt (k : Nat) : E4 k < 2 * (L3.length + 1) := by
  unfold E4
  match k with | 0 => decide | 1 => decide | 2 => decide | 3 => decide | n + 4 => (show (0 : Nat) < 8; decide)

/-- Where the law stands: i picks done. -/
def LoopI (W : World) (h : Nat) (P : Nat → Nat) (n i : Nat) (ev av bv : Value) (w : World) : Prop :=
  ∃ (G : Loc) (L : List Nd) (a b : Nat), G.h = h ∧ Law W w G L ∧ EsS W w G ev [1, 2, 4, 6] ∧ av = .int .i64 (a : Int) ∧ bv = .int .i64 (b : Int) ∧ a < 2 * (L.length + 1) ∧ b < 2 * (L.length + 1) ∧ (∃ X, L = L3 ++ X) ∧ L.length ≤ 3 + 6 * i ∧
    (∀ m, val m L a = fx (fun j => val m L3 (E4 (P j % 4))) i) ∧ ∀ m, val m L b = gx (fun j => val m L3 (E4 (P j % 4))) n i

theorem L3_lt {L : List Nd} (h : ∃ X, L = L3 ++ X) (k : Nat) : E4 k < 2 * (L.length + 1) := by
  obtain ⟨X, rfl⟩ := h
  have := E4_lt k
  rw [List.length_append]; omega
theorem L3_val {L : List Nd} (h : ∃ X, L = L3 ++ X) (k : Nat) (m : Nat → Bool) : val m L (E4 k) = val m L3 (E4 k) := by
  obtain ⟨X, rfl⟩ := h
  exact val_app m (E4_lt k)

set_option maxRecDepth 100000 in
set_option maxHeartbeats 2000000 in
theorem GraphLoop_law (pa : Option Addr) (n pc : Nat) (P : Nat → Nat) (ma : Option Addr) (mn mc : Nat) (M : Nat → Bool) (W : World) (hp : ArgV (fun j => .int .u8 (P j : Int)) W pa n) (hP : ∀ j, P j < 256) (hn9 : n ≤ 9223372036854775807) (hm : ArgV (fun j => .bool (M j)) W ma mn) (hm9 : mn ≤ 9223372036854775807) :
    Calls Try.prog 7 #[.slice pa n pc, .slice ma mn mc] W fun e w' => e = .returned (.bool true) ∧ Below W.heap.size W w' := by
  have HAW := Lib.hid awake_any
  by_cases hbig : (20 : Int) < (n : Int) ∨ (20 : Int) < (mn : Int)
  · have HB : Hid (∀ (v : Bool), True) := fun _ => trivial
    by_cases h1 : (20 : Int) < (n : Int)
    all_goals
      have h2 : ¬ (20 : Int) < (n : Int) → (20 : Int) < (mn : Int) := fun q => hbig.resolve_left q
      try have h3 := h2 h1
      clear hbig h2 hp hm hP HB
      go_enter Try.func7, Try.ntmps7
      go_wp2_with fail
      refine (HAW.out W).mono ?_
      rintro e w1 ⟨rfl, hb1⟩
      have HB1 := Lib.hid hb1
      clear hb1
      go_wp2_with fail
      refine (HAW.out w1).mono ?_
      rintro e w2 ⟨rfl, hb2⟩
      have HB2 := Lib.hid (HB1.out.trans (hb2.mono HB1.out.size))
      clear hb2
      go_wp2_with fail
      go_ret
      exact ⟨rfl, HB2.out⟩
  · have h1 : ¬ (20 : Int) < (n : Int) := fun q => hbig (Or.inl q)
    have h2 : ¬ (20 : Int) < (mn : Int) := fun q => hbig (Or.inr q)
    have HA := Lib.hid (And.intro hp (And.intro hP hm))
    have hn20 : n ≤ 20 := by omega
    have hm20 : mn ≤ 20 := by omega
    clear hbig hp hm hP
    go_enter Try.func7, Try.ntmps7
    go_wp2_with fail
    refine (HAW.out W).mono ?_
    rintro e w1 ⟨rfl, hb1⟩
    have HB1 := Lib.hid hb1
    have HN := Lib.hid (New_any w1)
    clear hb1
    go_wp2_with fail
    refine HN.out.mono ?_
    rintro e w2 ⟨G, rfl, r1, r2, r3⟩
    have HL : Hid (Law W w2 G []) := ⟨r1, Wf.nil, HB1.out.trans (r2.mono HB1.out.size), fun k hk => Nat.le_trans HB1.out.size (r3 k hk)⟩
    have HI := Lib.hid (Input_any r1 (by decide))
    clear r1 r2 r3 HN
    go_wp2_with fail
    refine HI.out.mono ?_
    intro e w3 hop
    obtain ⟨rfl, G2, g2, s1, s2⟩ := hop.thenE
    have HL2 : Hid (Law W w3 G2 [none]) := HL.out.op s1 s2 Wf.nil.input
    have HI2 : Hid (Calls Try.prog 11 #[.pointer (some ⟨G.h, 0, none⟩)] w3 (OpE w3 G2 (4, [none, none]))) := by rw [← g2]; exact Input_any s1 (by decide)
    clear s1 s2 hop HI HL
    go_wp2_with fail
    refine HI2.out.mono ?_
    intro e w4 hop
    obtain ⟨rfl, G3, g3, s1, s2⟩ := hop.thenE
    have HL3 : Hid (Law W w4 G3 [none, none]) := HL2.out.op s1 s2 HL2.out.wf.input
    have HI3 : Hid (Calls Try.prog 11 #[.pointer (some ⟨G.h, 0, none⟩)] w4 (OpE w4 G3 (6, [none, none, none]))) := by rw [← g2, ← g3]; exact Input_any s1 (by decide)
    clear s1 s2 hop HI2 HL2
    go_wp2_with fail
    refine HI3.out.mono ?_
    intro e w5 hop
    obtain ⟨rfl, G4, g4, s1, s2⟩ := hop.thenE
    have HL4 : Hid (Law W w5 G4 L3) := HL3.out.op s1 s2 HL3.out.wf.input
    have HG : Hid (G4.h = G.h) := by rw [Hid, g4, g3, g2]
    clear s1 s2 hop HI3 HL3 g2 g3 g4
    have START : Hid (LoopI W G.h P n 0 (.slice (some ⟨w5.heap.size, 0, none⟩) 4 4) (.int .i64 0) (.int .i64 0) (w5.alloc (.cells #[.int .i64 1, .int .i64 2, .int .i64 4, .int .i64 6] 3))) := by
      refine ⟨G4, L3, 0, 0, HG.out, HL4.out.after ((Below.refl _ _).alloc (Nat.le_refl _) _), ⟨⟨rfl, Or.inr ⟨w5.heap.size, 4, _, rfl, HL4.out.below.size, heap_alloc_new w5 _, Nat.le_refl _, by decide, rfl, rfl⟩⟩, fun k hk q => ?_⟩, rfl, rfl, by decide, by decide, ⟨[], by simp⟩, by decide, fun m => val_zero m L3, fun m => val_zero m L3⟩
      have : w5.heap.size = k := by simpa [Value.ownBlock] using hk
      have := HL4.out.rep.lt _ q
      omega
    go_wp2_with fail
    go_loopw [7, 8, 9] (fun av bv iv wr => ∃ i : Nat, iv = .int .i64 (i : Int) ∧ i ≤ n ∧ Hid (LoopI W G.h P n i (.slice (some ⟨w5.heap.size, 0, none⟩) 4 4) av bv wr)) (fun _ _ iv _ => n - (intOf iv).toNat)
    case atStart => exact ⟨0, rfl, Nat.zero_le _, START⟩
    case round =>
      obtain ⟨i, rfl, hi, HH⟩ := hrel
      by_cases hlt : i < n
      · obtain ⟨G1, L, x, y, hg1, hL1, hE1, e1, e2, hx, hy, hX, hlen, hvx, hvy⟩ := HH.out
        subst e1
        subst e2
        obtain ⟨b, off, rfl, hb, hc⟩ := (HA.out.1).resolve_left (by omega)
        have hiz : (i : Int) < (n : Int) := by omega
        have i0 : (0 : Int) ≤ (i : Int) := by omega
        obtain ⟨t, ht⟩ : ∃ t, t = n - 1 - i := ⟨_, rfl⟩
        have htz : (n : Int) - 1 - (i : Int) = (t : Int) := by omega
        have t0 : (0 : Int) ≤ (t : Int) := by omega
        have HT := Lib.hid ht
        have htn : t < n := by omega
        have t1 : (t : Int) < (n : Int) := by omega
        have c1 : wr.cell? ⟨b, off + i, none⟩ = some (.int .u8 (P i : Int)) := (hL1.below.cell (p := ⟨b, off + i, none⟩) hb).trans (hc i hlt)
        have HC2 : Hid (∀ w6, Below W.heap.size W w6 → w6.cell? ⟨b, off + t, none⟩ = some (.int .u8 (P t : Int))) := fun w6 h6 => (h6.cell (p := ⟨b, off + t, none⟩) hb).trans (hc t htn)
        obtain ⟨q1, hq1⟩ : ∃ q, q = P i % 4 := ⟨_, rfl⟩
        obtain ⟨q2, hq2⟩ : ∃ q, q = P t % 4 := ⟨_, rfl⟩
        have hP1 := HA.out.2.1 i
        have hP2 := HA.out.2.1 t
        have m1 : (P i : Int).tmod 4 = (q1 : Int) := by rw [Int.tmod_eq_emod_of_nonneg (by omega), hq1]; omega
        have m2 : (P t : Int).tmod 4 = (q2 : Int) := by rw [Int.tmod_eq_emod_of_nonneg (by omega), hq2]; omega
        have p1 : (P i : Int) < 256 := by omega
        have p2 : (P t : Int) < 256 := by omega
        have p10 : (0 : Int) ≤ (P i : Int) := by omega
        have p20 : (0 : Int) ≤ (P t : Int) := by omega
        have q14 : (q1 : Int) < 4 := by omega
        have q24 : (q2 : Int) < 4 := by omega
        have q10 : (0 : Int) ≤ (q1 : Int) := by omega
        have q20 : (0 : Int) ≤ (q2 : Int) := by omega
        have hcell : ∀ w6 G6, EsS W w6 G6 (.slice (some ⟨w5.heap.size, 0, none⟩) 4 4) [1, 2, 4, 6] → ∀ q, q < 4 → w6.cell? ⟨w5.heap.size, q, none⟩ = some (.int .i64 (E4 q : Int)) := fun w6 G6 h6 q hq => by
          refine own_cell h6.1 ?_
          match q, hq with | 0, _ => rfl | 1, _ => rfl | 2, _ => rfl | 3, _ => rfl
        have d1 := hcell wr G1 hE1 q1 (by omega)
        have ho1 := L3_lt hX q1
        have HXO := Lib.hid (Xor_any hL1.rep hL1.wf x (E4 q1) hx ho1 (by omega))
        rw [hg1] at HXO
        have hA1 := xorE_ans hL1.wf hx ho1
        generalize hr : xorE L x (E4 q1) = r at *
        have hX2 : ∃ X, r.2 = L3 ++ X := by obtain ⟨X, h3⟩ := hX; obtain ⟨Y, h4, _⟩ := hA1.ext; exact ⟨X ++ Y, by rw [h4, h3, List.append_assoc]⟩
        have hy2 : y < 2 * (r.2.length + 1) := by have := hA1.le; omega
        have ho2 := L3_lt hX2 q2
        have hA2 := xorE_ans hA1.wf ho2 hy2
        have hl1 := hA1.lenle
        have hl2 := hA2.lenle
        have hl3 := hA2.le
        have how1 := hA1.own
        have HSTEP : Hid (∀ w6 G6 w7 G7, G6.h = G.h → Rep w6 G6 r.2 → Fr G1 wr w6 G6 → Rep w7 G7 (xorE r.2 (E4 q2) y).2 → Fr G6 w6 w7 G7 → LoopI W G.h P n (i + 1) (.slice (some ⟨w5.heap.size, 0, none⟩) 4 4) (.int .i64 (r.1 : Int)) (.int .i64 ((xorE r.2 (E4 q2) y).1 : Int)) w7) := by
          intro w6 G6 w7 G7 hg6 hr6 hf6 hr7 hf7
          have l6 := hL1.op hr6 hf6 hA1.wf
          refine ⟨G7, _, _, _, hf7.h.trans hg6, l6.op hr7 hf7 hA2.wf, (hE1.op hf6).op hf7, rfl, rfl, by omega, hA2.own, ?_, by omega, fun m => ?_, fun m => ?_⟩
          · obtain ⟨X, h3⟩ := hX2; obtain ⟨Y, h4, _⟩ := hA2.ext; exact ⟨X ++ Y, by rw [h4, h3, List.append_assoc]⟩
          · rw [hA2.old how1, hA1.val, hvx, L3_val hX, hq1]; rfl
          · rw [hA2.val, hA1.old hy, hvy, L3_val hX2, hq2, HT.out]; rfl
        have HLAW : Hid (∀ w6 G6, G6.h = G.h → Rep w6 G6 r.2 → Fr G1 wr w6 G6 → Below W.heap.size W w6 ∧ w6.cell? ⟨w5.heap.size, q2, none⟩ = some (.int .i64 (E4 q2 : Int)) ∧ Calls Try.prog 22 #[.pointer (some ⟨G.h, 0, none⟩), .int .i64 (E4 q2 : Int), .int .i64 (y : Int)] w6 (OpE w6 G6 (xorE r.2 (E4 q2) y))) := by
          intro w6 G6 hg6 hr6 hf6
          refine ⟨(hL1.op hr6 hf6 hA1.wf).below, hcell w6 G6 (hE1.op hf6) q2 (by omega), ?_⟩
          rw [← hg6]
          exact Xor_any hr6 hA1.wf (E4 q2) y ho2 hy2 (by omega)
        have HGH := Lib.hid hg1
        generalize xorE r.2 (E4 q2) y = s at *
        generalize E4 q1 = z1 at *
        generalize E4 q2 = z2 at *
        clear ht htn HH hL1 hE1 hx hy hX hlen hvx hvy hc hb hq1 hq2 hP1 hP2 hcell ho1 hA1 hr hX2 hy2 ho2 hA2 hl1 hl2 hl3 how1 hg1 START
        go_wp2_with fail
        refine HXO.out.mono ?_
        intro e w6 hop
        obtain ⟨rfl, G6, g6, s1, s2⟩ := hop.thenE
        obtain ⟨hb6, d2, hx6⟩ := HLAW.out w6 G6 (g6.trans HGH.out) s1 s2
        have c2 := HC2.out w6 hb6
        have HX6 := Lib.hid hx6
        have HSS := Lib.hid (And.intro (g6.trans HGH.out) (And.intro s1 s2))
        clear s1 s2 hop hb6 hx6 HLAW HC2
        go_wp2_with fail
        refine HX6.out.mono ?_
        intro e w7 hop
        obtain ⟨rfl, G7, g7, s3, s4⟩ := hop.thenE
        have HEND := Lib.hid (HSTEP.out w6 G6 w7 G7 HSS.out.1 HSS.out.2.1 HSS.out.2.2 s3 s4)
        clear s3 s4 hop HSTEP HSS
        go_wp2_with fail
        go_roundw
        case rel => exact ⟨i + 1, by go_num, by omega, HEND⟩
        case measure => simp [intOf]; omega
      · obtain rfl : i = n := by omega
        have hiz : ¬ (i : Int) < (i : Int) := by omega
        obtain ⟨G1, L, x, y, hg1, hL1, hE1, e1, e2, hx, hy, hX, hlen, hvx, hvy⟩ := HH.out
        subst e1
        subst e2
        have h6 : ∀ k, k < 6 → ([x, y, 1, 2, 4, 6].getD k 0 : Nat) < 2 * (L.length + 1) := fun k hk => by
          have a0 := L3_lt hX 0
          have a1 := L3_lt hX 1
          have a2 := L3_lt hX 2
          have a3 := L3_lt hX 3
          match k, hk with | 0, _ => exact hx | 1, _ => exact hy | 2, _ => exact a0 | 3, _ => exact a1 | 4, _ => exact a2 | 5, _ => exact a3
        have HLL := Lib.hid (And.intro hL1 (And.intro hE1 (And.intro hg1 (And.intro h6 (And.intro hX (And.intro hvx hvy))))))
        have HLN : Hid (L.length ≤ 3 + 6 * 20) := by show L.length ≤ _; omega
        obtain ⟨ii, hi, hz0, hz1, hz2⟩ := info_parts infoInt
        have hown : (wr.alloc (.cells #[.int .i64 (x : Int), .int .i64 (y : Int)] 3)).ownsRow 0 3 1 (.slice (some ⟨wr.heap.size, 0, none⟩) 2 2) 2 [.int .i64 (x : Int), .int .i64 (y : Int)] := ownsAt (cur := #[.int .i64 (x : Int), .int .i64 (y : Int)]) (heap_alloc_new wr _) (by decide) rfl
        have HOW := Lib.hid hown
        have hws5 : w5.heap.size < wr.heap.size := (hE1.1.lt _ rfl).2
        have HNEWS : Hid (∀ j u, ([.int .i64 1, .int .i64 2, .int .i64 4, .int .i64 6] : List Value)[j]? = some u → (wr.alloc (.cells #[.int .i64 (x : Int), .int .i64 (y : Int)] 3)).cell? ((⟨w5.heap.size, 0, none⟩ : Addr).add j) = some u) := fun j u hj => by
          have h4 : wr.cell? ⟨w5.heap.size, j, none⟩ = some u := own_cell hE1.1 hj
          rw [Addr.add_lit, Nat.zero_add]
          exact (World.cell?_of_block (a := ⟨w5.heap.size, j, none⟩) (Below.heap_alloc _ _ _ hws5)).trans h4
        clear HH hL1 hE1 hg1 h6 hX hvx hvy hown START hx hy hlen hws5
        go_wp2_with (at_builtin; refine wpList_append_lies _ rfl _ _ 31 rfl 0 3 ii _ 1 8 Try.underlying31 hi hz0 hz1 hz2 rfl (by decide) _ _ _ rfl HOW.out ⟨w5.heap.size, 0, none⟩ 4 4 [.int .i64 1, .int .i64 2, .int .i64 4, .int .i64 6] rfl rfl HNEWS.out (by intro u hu; simp at hu; rcases hu with rfl | rfl | rfl | rfl <;> rfl) (by decide) (by unfold maxLen; omega) (by omega) (Nat.zero_le _) (wr.heap.size + 1) (by simp) ?_; intro g cap w6 hown6 hgrow6 hat6 hlt6; refine Hid.out ?_)
        refine Lib.hid ?_
        have HL6 : Hid (Law W w6 G1 L) := by
          have hgrow7 : (wr.alloc (.cells #[.int .i64 (x : Int), .int .i64 (y : Int)] 3)).grownBy w6 (some wr.heap.size) := hgrow6
          have hb : Below wr.heap.size wr w6 := ((Below.refl _ _).alloc (Nat.le_refl _) _).grown hgrow7 (by simp) (fun k hk => by
            have : wr.heap.size = k := Option.some.inj hk
            omega)
          exact HLL.out.1.after hb
        have HZ : Hid (ArgI w6 (some ⟨g, 0, none⟩) 6 (fun j => (([x, y, 1, 2, 4, 6].getD j 0 : Nat) : Int))) := by
          refine Or.inr ⟨g, 0, rfl, hlt6, fun j hj => ?_⟩
          rw [Nat.zero_add]
          refine own_cell hown6 ?_
          match j, hj with | 0, _ => rfl | 1, _ => rfl | 2, _ => rfl | 3, _ => rfl | 4, _ => rfl | 5, _ => rfl
        have hEV := Eval_any HL6.out.rep HL6.out.wf ma mn mc M (HA.out.2.2.below (HL6.out.below.mono (Nat.le_refl _))) (by omega) (some ⟨g, 0, none⟩) 6 cap _ HZ.out (by omega) (fun j hj => by have := HLL.out.2.2.2.1 j hj; have := HLN.out; omega) (by have := HLN.out; omega)
        rw [HLL.out.2.2.1] at hEV
        have HEV := Lib.hid hEV
        clear hown6 hgrow6 hat6 hlt6 hEV HNEWS HOW
        go_wp2_with fail
        refine HEV.out.mono ?_
        rintro e w7 ⟨vb, rfl, hvb, hrow, hb7⟩
        have HB7 : Hid (Below W.heap.size W w7) := HL6.out.below.trans (hb7.mono HL6.out.below.size)
        have HV : Hid (∀ k, k < 6 → val (mdl M mn) L (own L (([x, y, 1, 2, 4, 6].getD k 0 : Nat) : Int)) = val (mdl M mn) L ([x, y, 1, 2, 4, 6].getD k 0)) := fun k hk => by rw [own_nat (HLL.out.2.2.2.1 k hk)]
        obtain ⟨wt, hwt⟩ : ∃ wt, wt = fx (fun j => val (mdl M mn) L3 (E4 (P j % 4))) i := ⟨_, rfl⟩
        have v0 : w7.cell? ⟨vb, 0, none⟩ = some (.bool wt) := by
          rw [hrow.cell (i := 0) (by omega)]
          show some (Value.bool (val (mdl M mn) L (own L (([x, y, 1, 2, 4, 6].getD 0 0 : Nat) : Int)))) = _
          rw [HV.out 0 (by omega)]
          show some (Value.bool (val (mdl M mn) L x)) = _
          rw [HLL.out.2.2.2.2.2.1, hwt]
        have v1 : w7.cell? ⟨vb, 1, none⟩ = some (.bool wt) := by
          rw [hrow.cell (i := 1) (by omega)]
          show some (Value.bool (val (mdl M mn) L (own L (([x, y, 1, 2, 4, 6].getD 1 0 : Nat) : Int)))) = _
          rw [HV.out 1 (by omega)]
          show some (Value.bool (val (mdl M mn) L y)) = _
          rw [HLL.out.2.2.2.2.2.2, gx_all, hwt]
        have HVK : Hid (∀ k, k < 4 → w7.cell? ⟨vb, 2 + k, none⟩ = some (.bool (val (mdl M mn) L3 (E4 k)))) := fun k hk => by
          rw [hrow.cell (i := 2 + k) (by omega)]
          show some (Value.bool (val (mdl M mn) L (own L (([x, y, 1, 2, 4, 6].getD (2 + k) 0 : Nat) : Int)))) = _
          rw [HV.out (2 + k) (by omega), ← L3_val HLL.out.2.2.2.2.1]
          match k, hk with | 0, _ => rfl | 1, _ => rfl | 2, _ => rfl | 3, _ => rfl
        have HWT := Lib.hid hwt
        have HPC : Hid (∀ k, k < i → ∃ b off, pa = some ⟨b, off, none⟩ ∧ w7.cell? ⟨b, off + k, none⟩ = some (.int .u8 (P k : Int))) := fun k hk => by
          obtain ⟨b, off, e, hb, hc⟩ := (HA.out.1).resolve_left (by omega)
          exact ⟨b, off, e, (HB7.out.cell (p := ⟨b, off + k, none⟩) hb).trans (hc k hk)⟩
        have START2 : SameW w7 w7 := rfl
        clear hvb hrow hb7 hwt HEV HZ HL6 HV
        go_wp2_with fail
        obtain ⟨n, hn⟩ : ∃ n, n = i := ⟨_, rfl⟩
        subst hn
        go_loopw [11, 12] (fun bv iv wr => ∃ i : Nat, iv = .int .i64 (i : Int) ∧ bv = .bool (fx (fun j => val (mdl M mn) L3 (E4 (P j % 4))) i) ∧ i ≤ n ∧ SameW wr w7) (fun _ iv _ => n - (intOf iv).toNat)
        case atStart => exact ⟨0, rfl, rfl, Nat.zero_le _, START2⟩
        case round =>
          obtain ⟨i, rfl, rfl, hi, HH⟩ := hrel
          unfold SameW at HH
          obtain rfl := HH
          by_cases hlt : i < n
          · obtain ⟨b, off, rfl, c1⟩ := HPC.out i hlt
            have hiz : (i : Int) < (n : Int) := by omega
            have i0 : (0 : Int) ≤ (i : Int) := by omega
            obtain ⟨q1, hq1⟩ : ∃ q, q = P i % 4 := ⟨_, rfl⟩
            have hP1 := HA.out.2.1 i
            have m1 : (P i : Int).tmod 4 = (q1 : Int) := by rw [Int.tmod_eq_emod_of_nonneg (by omega), hq1]; omega
            have p1 : (P i : Int) < 256 := by omega
            have p10 : (0 : Int) ≤ (P i : Int) := by omega
            have q14 : (q1 : Int) < 4 := by omega
            have q10 : (0 : Int) ≤ (q1 : Int) := by omega
            obtain ⟨q2, hq2⟩ : ∃ q, q = 2 + q1 := ⟨_, rfl⟩
            have q2z : (2 : Int) + (q1 : Int) = (q2 : Int) := by omega
            have q2l : (q2 : Int) < 6 := by omega
            have q20 : (0 : Int) ≤ (q2 : Int) := by omega
            have d1 : wr.cell? ⟨vb, q2, none⟩ = some (.bool (val (mdl M mn) L3 (E4 (P i % 4)))) := by rw [hq2, ← hq1]; exact HVK.out q1 (by omega)
            have HSX : Hid (fx (fun j => val (mdl M mn) L3 (E4 (P j % 4))) (i + 1) = (fx (fun j => val (mdl M mn) L3 (E4 (P j % 4))) i != val (mdl M mn) L3 (E4 (P i % 4)))) := rfl
            generalize val (mdl M mn) L3 (E4 (P i % 4)) = vv at *
            generalize fx (fun j => val (mdl M mn) L3 (E4 (P j % 4))) i = fv at *
            generalize (P i : Int) = pz at *
            clear hq1 hq2 hP1 v0 v1
            go_wp2_with fail
            go_roundw
            case rel => exact ⟨i + 1, by go_num, by rw [HSX.out]; cases fv <;> cases vv <;> rfl, by omega, rfl⟩
            case measure => simp [intOf]; omega
          · obtain rfl : i = n := by omega
            have hiz : ¬ (i : Int) < (i : Int) := by omega
            rw [← HWT.out]
            clear HVK HPC
            go_wp2_with fail
            go_ret
            exact ⟨by cases wt <;> rfl, HB7.out⟩
end Go.Proofs.Ytdenjeocmmhejaa.Gr
