/- Contract of Eval. -/
import Derived.Test.YtbggenilngpjcaaGrF
import Derived.StillTailTactics
namespace Go.Proofs.Ytbggenilngpjcaa.Gr
open Go Go.RowKit Go.Lib Go.Maps

theorem infoBool : (Try.prog.info? 4).map (fun i => (i.zero, i.size, i.bytes)) = some (some (.bool false), 1, 1) := by kernel_rfl

set_option maxHeartbeats 400000 in
theorem Eval1_any {w : World} {b p n : Nat} {v : Bool} (hp : w.cell? ⟨p, 0, none⟩ = some (.slice (some ⟨b, 0, none⟩) n n)) (e q : Nat) (hq : q = e / 2) (hqn : q < n) (hc : w.cell? ⟨b, q, none⟩ = some (.bool v)) (he : e < 1000000) (hn : n ≤ 1000000) :
    Calls Try.prog 37 #[.int .i64 (e : Int), .pointer (some ⟨p, 0, none⟩)] w fun r w' => r = .returned (.bool (v != (e % 2 == 1))) ∧ w = w' := by
  have hd : (e : Int).tdiv 2 = (q : Int) := by rw [Int.tdiv_eq_ediv_of_nonneg (by omega), hq]; omega
  have hm : (e : Int).tmod 2 = ((e % 2 : Nat) : Int) := by rw [Int.tmod_eq_emod_of_nonneg (by omega)]; omega
  have q1 : (q : Int) < (n : Int) := by omega
  have q0 : (0 : Int) ≤ (q : Int) := by omega
  have HE : Hid ((((e % 2 : Nat) : Int) == 1) = (e % 2 == 1)) := by
    rcases Nat.mod_two_eq_zero_or_one e with h | h <;> rw [h] <;> rfl
  have s2 : ((e % 2 : Nat) : Int) < 2 := by omega
  have n2 : (n : Int) ≤ 1000000 := by omega
  generalize e % 2 = s at *
  clear hq hqn he hn
  go_enter Try.func37, Try.ntmps37
  go_wp2
  go_ret
  rw [HE.out]
  exact ⟨rfl, rfl⟩

/-- How far the edges reach. -/
def lastE (L : List Nd) (Z : Nat → Int) : Nat → Nat
  | 0 => 0
  | k + 1 => max (lastE L Z k) (own L (Z k) / 2)
theorem lastE_le (L : List Nd) (Z : Nat → Int) (k : Nat) : lastE L Z k ≤ L.length := by
  induction k with
  | zero => exact Nat.zero_le _
  | succ k ih => have := own_lt L (Z k); unfold lastE; omega
theorem lastE_ge (L : List Nd) (Z : Nat → Int) {j k : Nat} (h : j < k) : own L (Z j) / 2 ≤ lastE L Z k := by
  induction k with
  | zero => omega
  | succ k ih =>
    unfold lastE
    by_cases e : j = k
    · subst e; omega
    · have := ih (by omega); omega

/-- The model: false where there is nothing. -/
def mdl (M : Nat → Bool) (mn : Nat) : Nat → Bool := fun k => decide (k < mn) && M k
def vs (m : Nat → Bool) (L : List Nd) (i : Nat) : Bool := (run m L).1.getD i false
theorem val_vs (m : Nat → Bool) (L : List Nd) (e : Nat) : val m L e = (vs m L (e / 2) != (e % 2 == 1)) := rfl
theorem vs_zero (m : Nat → Bool) (L : List Nd) : vs m L 0 = false := run_zero m L
theorem vs_val (m : Nat → Bool) (L : List Nd) (i : Nat) : vs m L i = val m L (2 * i) := by
  rw [val_vs, show 2 * i / 2 = i by omega, show 2 * i % 2 = 0 by omega]; simp
theorem vs_and {L : List Nd} (hW : Wf L) {i a b : Nat} (h : L[i]? = some (some (a, b))) (m : Nat → Bool) : vs m L (i + 1) = (val m L a && val m L b) := by
  rw [vs_val]; exact val_lt hW h m
theorem vs_in {L : List Nd} {i : Nat} (h : L[i]? = some none) (m : Nat → Bool) : vs m L (i + 1) = m (ins (L.take i)) := by
  have hn : i < L.length := (List.getElem?_eq_some_iff.1 h).1
  have h1 : L.take (i + 1) = L.take i ++ [none] := by rw [List.take_add_one, h]; rfl
  have hl : (L.take i).length = i := by rw [List.length_take]; omega
  have e : L = (L.take i ++ [none]) ++ L.drop (i + 1) := by rw [← h1, List.take_append_drop]
  have k1 := val_in m (L.take i)
  rw [hl, run_ins] at k1
  rw [vs_val]
  conv => lhs; rw [e]
  rw [val_app m (by rw [List.length_append, hl]; simp)]
  exact k1
theorem ins_take {L : List Nd} {i : Nat} {d : Nd} (h : L[i]? = some d) : ins (L.take (i + 1)) = ins (L.take i) + if d.isNone then 1 else 0 := by
  rw [List.take_add_one, h]; exact ins_snoc _ _

/-- What Eval answers: a new row of its values. -/
def EvalE (w : World) (n : Nat) (f : Nat → Bool) (e : Ending) (w' : World) : Prop :=
  ∃ b, e = .returned (.slice (some ⟨b, 0, none⟩) n n) ∧ w.heap.size ≤ b ∧ RowAt w' b 4 n (fun i => .bool (f i)) ∧ Below w.heap.size w w'

/-- The values of the nodes ahead of n1 are there. -/
def EvS (W0 : World) (G : Loc) (L : List Nd) (B l n1 : Nat) (V : Nat → Bool) (wr : World) : Prop :=
  RowAt wr B 4 (l + 1) (fun i => .bool (if i < n1 then V i else false)) ∧ wr.cell? ⟨B + 1, 0, none⟩ = some (.slice (some ⟨B, 0, none⟩) (l + 1) (l + 1)) ∧ Rep wr G L ∧ Below B W0 wr ∧ B + 1 < wr.heap.size
theorem EvS.alloc {W0 : World} {G : Loc} {L : List Nd} {B l n1 : Nat} {V : Nat → Bool} {wr : World} (h : EvS W0 G L B l n1 V wr) (o : Obj) : EvS W0 G L B l n1 V (wr.alloc o) := by
  obtain ⟨r1, r2, r3, r4, r5⟩ := h
  exact ⟨r1.alloc _, (World.cell?_of_block (Below.heap_alloc _ _ _ r5)).trans r2, r3.alloc _, r4.alloc (by omega) _, by simp; omega⟩
theorem EvS.drew {W0 : World} {G : Loc} {L : List Nd} {B l n1 : Nat} {V : Nat → Bool} {wr : World} (h : EvS W0 G L B l n1 V wr) : EvS W0 G L B l n1 V wr.drew := by
  obtain ⟨r1, r2, r3, r4, r5⟩ := h
  exact ⟨r1.of_heap rfl, r2, r3.drew, r4.drew, r5⟩
theorem EvS.step {W0 : World} {G : Loc} {L : List Nd} {B l n1 : Nat} {V : Nat → Bool} {wr : World} (h : EvS W0 G L B l n1 V wr) (hG : ∀ k, G.has k → k ≠ B) {v : Bool} (hv : v = V n1) : EvS W0 G L B l (n1 + 1) V (wr.setCell ⟨B, n1, none⟩ (.bool v)) := by
  obtain ⟨r1, r2, r3, r4, r5⟩ := h
  refine ⟨(r1.set n1 _).congr fun i hi => ?_, (World.cell?_of_block (Below.heap_setCell _ _ _ _ (by show B + 1 ≠ B; omega))).trans r2, r3.of_heap fun k hk => Below.heap_setCell _ _ _ _ (hG k hk), r4.setCell (Nat.le_refl _) _, by simpa [World.setCell] using r5⟩
  by_cases e : i = n1
  · subst e; rw [upd_same, if_pos (by omega), hv]
  · rw [upd_ne _ _ _ e]
    by_cases q : i < n1
    · rw [if_pos q, if_pos (by omega)]
    · rw [if_neg q, if_neg (by omega)]
theorem EvS.value {W0 : World} {G : Loc} {L : List Nd} {B l n1 : Nat} {m : Nat → Bool} {wr : World} (h : EvS W0 G L B l n1 (vs m L) wr) (e : Nat) (he : e / 2 < n1) (hl : e / 2 ≤ l) (h1 : e < 1000000) (h2 : l < 200000) :
    Calls Try.prog 37 #[.int .i64 (e : Int), .pointer (some ⟨B + 1, 0, none⟩)] wr fun r w' => r = .returned (.bool (val m L e)) ∧ wr = w' := by
  obtain ⟨r1, r2, r3, r4, r5⟩ := h
  have hc : wr.cell? ⟨B, e / 2, none⟩ = some (.bool (vs m L (e / 2))) := by rw [r1.cell (i := e / 2) (by omega), if_pos he]
  exact Eval1_any r2 e (e / 2) rfl (by omega) hc h1 (by omega)

theorem EvS.below {W0 : World} {G : Loc} {L : List Nd} {B l n1 : Nat} {V : Nat → Bool} {wr w2 : World} (h : EvS W0 G L B l n1 V wr) (hb : Below wr.heap.size wr w2) : EvS W0 G L B l n1 V w2 := by
  obtain ⟨r1, r2, r3, r4, r5⟩ := h
  exact ⟨r1.of_heap (hb.block _ r1.lt), (hb.cell (p := ⟨B + 1, 0, none⟩) r5).trans r2, r3.below hb (Nat.le_refl _), r4.trans (hb.mono (by have := r1.lt; omega)), Nat.lt_of_lt_of_le r5 hb.size⟩

/-- 'wp_region_still_tail', its world by name. -/
theorem region_still_tail {P : Program} {id : Nat} {Q : Exit → Act → World → Prop} {a : Act} {w : World} {l : List Oper} (n : Nat) (hm : P.follows .mixedOrders = true) (hB : Region.lexTailB .any l.toArray n = true)
    (h : wpStill P l.toArray w.drew (fun a' => wpList P l.toArray Q (l.drop n) a' w.drew) (l.take n) a) : (Code.region id l.toArray true).wp P Q a w :=
  wp_region_still_tail n hm hB h

def SameW (a b : World) : Prop := a = b

set_option maxRecDepth 100000 in
set_option maxHeartbeats 1000000 in
theorem Eval_any {w : World} {G : Loc} {L : List Nd} (h : Rep w G L) (hW : Wf L) (ma : Option Addr) (mn mc : Nat) (M : Nat → Bool) (hM : ArgV (fun j => .bool (M j)) w ma mn) (hmn : mn ≤ 1000)
    (a : Option Addr) (n c : Nat) (Z : Nat → Int) (ha : ArgI w a n Z) (hn : n ≤ 1000) (hZ : ∀ j, j < n → Z j ≤ 9223372036854775807) (hl : L.length < 120000) :
    Calls Try.prog 16 #[.pointer (some ⟨G.h, 0, none⟩), .slice ma mn mc, .slice a n c] w (EvalE w n (fun i => val (mdl M mn) L (own L (Z i)))) := by
  have HB := Lib.hid (And.intro hW (And.intro ha (And.intro hZ (And.intro hl (And.intro hn (And.intro hM hmn))))))
  have HR := Lib.hid h
  have HSZ : Hid (∀ k, G.has k → k < w.heap.size) := h.lt
  have hll := lastE_le L Z n
  have START : SameW w w := rfl
  have hm1 := fun W => run_make_row' (P := Try.prog) 23 4 (.bool false) 1 Try.underlying23 infoBool rfl .i64 .i64 (lastE L Z n + 1) (by omega) (by omega) W
  have hm2 := fun W => run_make_row' (P := Try.prog) 23 4 (.bool false) 1 Try.underlying23 infoBool rfl .i64 .i64 n (by omega) (by omega) W
  clear h hW ha hZ hM
  go_enter Try.func16, Try.ntmps16
  go_wp2_with fail
  go_loopw [7, 9, 20] (fun lv _ iv wr => ∃ k : Nat, lv = .int .i64 (lastE L Z k : Int) ∧ iv = .int .i64 (k : Int) ∧ k ≤ n ∧ SameW wr w) (fun _ _ iv _ => n - (intOf iv).toNat)
  case atStart => exact ⟨0, rfl, rfl, Nat.zero_le _, START⟩
  case round =>
    obtain ⟨k, rfl, rfl, hk, HH⟩ := hrel
    unfold SameW at HH
    obtain rfl := HH
    by_cases hlt : k < n
    · obtain ⟨b, off, rfl, hb, hc⟩ := (HB.out.2.1).resolve_left (by omega)
      have hlz : (k : Int) < (n : Int) := by omega
      have k0 : (0 : Int) ≤ (k : Int) := by omega
      have ck : wr.cell? ⟨b, off + k, none⟩ = some (.int .i64 (Z k)) := hc k hlt
      have HO := Lib.hid (own_any HR.out (Z k) (HB.out.2.2.1 k hlt) (by omega))
      have hol := own_lt L (Z k)
      have hle := lastE_le L Z k
      obtain ⟨q, hq⟩ : ∃ q, q = own L (Z k) / 2 := ⟨_, rfl⟩
      have hd : (own L (Z k) : Int).tdiv 2 = (q : Int) := by rw [Int.tdiv_eq_ediv_of_nonneg (by omega), hq]; omega
      obtain ⟨x, hx⟩ : ∃ x, x = lastE L Z k := ⟨_, rfl⟩
      have HS : Hid (lastE L Z (k + 1) = max x q) := by rw [Hid, hx, hq]; rfl
      have q5 : (q : Int) ≤ 1000000 := by omega
      have HXX := Lib.hid hx
      rw [← hx]
      generalize (own L (Z k) : Int) = u at *
      generalize Z k = z at *
      rcases Nat.lt_or_ge x q with g | g
      · have g1 : (x : Int) < (q : Int) := by omega
        have g2 : ¬ (q : Int) < (x : Int) := by omega
        have g3 : (x : Int) ≤ (q : Int) := by omega
        have g4 : ¬ (q : Int) ≤ (x : Int) := by omega
        have HS2 : Hid (lastE L Z (k + 1) = q) := by rw [Hid, HS.out]; omega
        clear hc hb hol hle hq hx g hm1 hm2 hll
        go_wp2_with fail
        refine HO.out.mono ?_
        rintro e w' ⟨rfl, rfl⟩
        go_wp2_with fail
        go_roundw
        case rel => exact ⟨k + 1, by rw [HS2.out], by go_num, by omega, rfl⟩
        case measure => simp [intOf]; omega
      · have g3 : (q : Int) ≤ (x : Int) := by omega
        have g2 : ¬ (x : Int) < (q : Int) := by omega
        have HS2 : Hid (lastE L Z (k + 1) = x) := by rw [Hid, HS.out]; omega
        by_cases g' : q = x
        · subst g'
          clear hc hb hol hle hq hx g hm1 hm2 hll
          go_wp2_with fail
          refine HO.out.mono ?_
          rintro e w' ⟨rfl, rfl⟩
          go_wp2_with fail
          go_roundw
          case rel => exact ⟨k + 1, by rw [HS2.out], by go_num, by omega, rfl⟩
          case measure => simp [intOf]; omega
        · have g1 : (q : Int) < (x : Int) := by omega
          have g4 : ¬ (x : Int) ≤ (q : Int) := by omega
          clear hc hb hol hle hq hx g hm1 hm2 hll
          go_wp2_with fail
          refine HO.out.mono ?_
          rintro e w' ⟨rfl, rfl⟩
          go_wp2_with fail
          go_roundw
          case rel => exact ⟨k + 1, by rw [HS2.out], by go_num, by omega, rfl⟩
          case measure => simp [intOf]; omega
    · obtain rfl : k = n := by omega
      have hlz : ¬ (k : Int) < (k : Int) := by omega
      have HLE : Hid (∀ j, j < k → own L (Z j) / 2 ≤ lastE L Z k) := fun j hj => lastE_ge L Z hj
      have hll := lastE_le L Z k
      have HLL := Lib.hid hll
      generalize lastE L Z k = l at *
      have hm1 : ∀ W : World, (Instr.makeSlice 23 (.int .i64 ((l : Int) + 1)) (.int .i64 ((l : Int) + 1))).run Try.prog W = .ok (.slice (some ⟨W.heap.size, 0, none⟩) (l + 1) (l + 1)) (W.alloc (.cells (madeCells #[.bool false] (l + 1)) 4)) := fun W => run_make_row' (P := Try.prog) 23 4 (.bool false) 1 Try.underlying23 infoBool rfl .i64 .i64 (l + 1) (by omega) (by omega) W
      obtain ⟨B, hB⟩ : ∃ B, B = wr.heap.size := ⟨_, rfl⟩
      have START2 : Hid (∃ W, W = (wr.alloc (.cells (madeCells #[.bool false] (l + 1)) 4)).alloc (.cells #[.slice (some ⟨wr.heap.size, 0, none⟩) (l + 1) (l + 1)] 23) ∧ EvS wr G L B l 1 (vs (mdl M mn) L) W) := by
        refine ⟨_, rfl, (RowAt.of_made (f := fun i => .bool (if i < 1 then vs (mdl M mn) L i else false)) (z := .bool false) (hB ▸ heap_alloc_new wr _) (fun i hi => ?_)).alloc _, ?_, (HR.out.alloc _).alloc _, ?_, ?_⟩
        · by_cases q : i < 1
          · obtain rfl : i = 0 := by omega
            rw [if_pos q, vs_zero]
          · rw [if_neg q]
        · rw [World.cell?_alloc_at _ _ _ _ (by simp [hB]), hB]; rfl
        · rw [hB]; exact (((Below.refl _ _).alloc (Nat.le_refl _) _).alloc (by simp) _)
        · simp [hB]
      clear START hll
      obtain ⟨W1, hW1, HS2⟩ := START2.out
      have HS := Lib.hid HS2
      clear HS2 START2
      rw [← hB] at hW1
      obtain ⟨W0, hW0⟩ : ∃ W0, W0 = wr := ⟨_, rfl⟩
      subst hW0
      have HGB : Hid (∀ x, G.has x → x ≠ B) := fun x hx e => by have := HSZ.out x hx; omega
      go_wp2_with fail
      rw [← hB, ← hW1]
      have HBB := Lib.hid hB
      clear hm1 hW1 hB
      go_loopw [12, 13, 14] (fun mv nv _ wr => ∃ n1 : Nat, mv = .int .i64 (ins (L.take (n1 - 1)) : Int) ∧ nv = .int .i64 (n1 : Int) ∧ 1 ≤ n1 ∧ n1 ≤ l + 1 ∧ Hid (EvS W0 G L B l n1 (vs (mdl M mn) L) wr)) (fun _ nv _ _ => l + 1 - (intOf nv).toNat)
      case atStart => exact ⟨1, by simp [ins], rfl, Nat.le_refl _, by omega, HS⟩
      case round =>
        obtain ⟨n1, rfl, rfl, hn1, hn2, HH⟩ := hrel
        by_cases hlt2 : n1 ≤ l
        · obtain ⟨r1, r2, r3, r4, r5⟩ := HH.out
          have hlz2 : (n1 : Int) ≤ (l : Int) := by omega
          have hlz3 : (n1 : Int) < (l : Int) + 1 := by omega
          have n10 : (0 : Int) ≤ (n1 : Int) := by omega
          have hll := HLL.out
          obtain ⟨g, c', e0, hc', hcell⟩ := r3.node
          obtain ⟨N, hN⟩ : ∃ N, N = L.length + 1 := ⟨_, rfl⟩
          have c0 := r3.c0
          rw [e0, ← hN] at c0
          have nN : (n1 : Int) < (N : Int) := by omega
          obtain ⟨d0, d1⟩ := hcell n1 (by omega)
          have HNX : Hid (∃ i, n1 = i + 1 ∧ L[i]? = some (nd L n1)) := ⟨n1 - 1, by omega, by
            obtain ⟨i, rfl⟩ : ∃ i, n1 = i + 1 := ⟨n1 - 1, by omega⟩
            rw [nd_succ, Nat.add_sub_cancel, List.getElem?_eq_getElem (by omega)]; rfl⟩
          cases hd : nd L n1 with
          | none =>
            rw [hd] at d0 d1 HNX
            have d0' : wr.cell? ⟨g, n1 * 2, none⟩ = some (.int .i64 0) := d0
            have d1' : wr.cell? ⟨g, n1 * 2 + 1, none⟩ = some (.int .i64 0) := d1
            have HH2 := Lib.hid (HH.out.alloc (.cells #[.int .i64 0, .int .i64 0] 69))
            have pc := HH2.out.2.1
            have cb : (wr.alloc (.cells #[.int .i64 0, .int .i64 0] 69)).cell? ⟨B, n1, none⟩ = some (.bool false) := by rw [HH2.out.1.cell (i := n1) (by omega), if_neg (by omega)]
            have fb := HH2.out.1.free n1
            obtain ⟨q, hq⟩ : ∃ q, q = ins (L.take (n1 - 1)) := ⟨_, rfl⟩
            have HQ : Hid (ins (L.take (n1 + 1 - 1)) = q + 1 ∧ vs (mdl M mn) L n1 = mdl M mn q) := by
              obtain ⟨i, hi1, hi2⟩ := HNX.out
              subst hi1
              rw [hq]
              refine ⟨?_, vs_in hi2 _⟩
              show ins (L.take (i + 1)) = ins (L.take i) + 1
              exact ins_take hi2
            have hqi : q ≤ L.length := by rw [hq]; exact Nat.le_trans List.countP_le_length (by rw [List.length_take]; omega)
            rw [← hq]
            have q0 : (0 : Int) ≤ (q : Int) := by omega
            have q9 : (q : Int) ≤ 200000 := by omega
            by_cases hqm : q < mn
            · have hqz : (q : Int) < (mn : Int) := by omega
              obtain ⟨mb, moff, rfl, hmb, hmc⟩ := (HB.out.2.2.2.2.2.1).resolve_left (by omega)
              have mk : (wr.alloc (.cells #[.int .i64 0, .int .i64 0] 69)).cell? ⟨mb, moff + q, none⟩ = some (.bool (M q)) := (HH2.out.2.2.2.1.cell (p := ⟨mb, moff + q, none⟩) (by rw [HBB.out]; exact hmb)).trans (hmc q hqm)
              have HV : Hid (vs (mdl M mn) L n1 = M q) := by rw [Hid, HQ.out.2]; simp [mdl, hqm]
              generalize M q = v at *
              clear d0 d1 hcell e0 hc' hN r1 r2 r3 r4 r5 hd HH hmc hmb hq hqi
              go_wp2_with fail
              go_region
              go_wp2_with fail
              go_roundw
              case rel => exact ⟨n1 + 1, by rw [HQ.out.1]; go_num, by go_num, by omega, by omega, (HH2.out.drew.step HGB.out HV.out.symm)⟩
              case measure => simp [intOf]; omega
            · have hqz : ¬ (q : Int) < (mn : Int) := by omega
              have HV : Hid (vs (mdl M mn) L n1 = false) := by rw [Hid, HQ.out.2]; simp [mdl, hqm]
              clear d0 d1 hcell e0 hc' hN r1 r2 r3 r4 r5 hd HH hq hqi
              go_wp2_with fail
              go_region
              go_wp2_with fail
              go_roundw
              case rel => exact ⟨n1 + 1, by rw [HQ.out.1]; go_num, by go_num, by omega, by omega, (HH2.out.drew.step HGB.out HV.out.symm)⟩
              case measure => simp [intOf]; omega
          | some p =>
            rw [hd] at d0 d1 HNX
            obtain ⟨x, y⟩ := p
            have d0' : wr.cell? ⟨g, n1 * 2, none⟩ = some (.int .i64 (x : Int)) := d0
            have d1' : wr.cell? ⟨g, n1 * 2 + 1, none⟩ = some (.int .i64 (y : Int)) := d1
            have HH2 := Lib.hid (HH.out.alloc (.cells #[.int .i64 (x : Int), .int .i64 (y : Int)] 69))
            have pc := HH2.out.2.1
            have cb : (wr.alloc (.cells #[.int .i64 (x : Int), .int .i64 (y : Int)] 69)).cell? ⟨B, n1, none⟩ = some (.bool false) := by rw [HH2.out.1.cell (i := n1) (by omega), if_neg (by omega)]
            have fb := HH2.out.1.free n1
            have HXY : Hid (2 ≤ x ∧ x < y ∧ y < 2 * n1 ∧ vs (mdl M mn) L n1 = (val (mdl M mn) L x && val (mdl M mn) L y) ∧ ins (L.take (n1 + 1 - 1)) = ins (L.take (n1 - 1))) := by
              obtain ⟨i, hi1, hi2⟩ := HNX.out
              subst hi1
              have := HB.out.1.pair i x y hi2
              refine ⟨this.1, this.2.1, this.2.2.1, vs_and HB.out.1 hi2 _, ?_⟩
              show ins (L.take (i + 1)) = ins (L.take i)
              exact ins_take hi2
            have HC1 := Lib.hid ((HH2.out.drew.value x (by have := HXY.out; omega) (by have := HXY.out; omega) (by have := HXY.out; omega) (by omega)).mono fun _ _ q => (⟨q.1, q.2.symm⟩ : _ ∧ _ = _))
            have HC2 := Lib.hid ((HH2.out.drew.value y (by have := HXY.out; omega) (by have := HXY.out; omega) (by have := HXY.out; omega) (by omega)).mono fun _ _ q => (⟨q.1, q.2.symm⟩ : _ ∧ _ = _))
            have xne : ((x : Int) == 0) = false := by have := HXY.out; simp; omega
            have yne : ((y : Int) == 0) = false := by have := HXY.out; simp; omega
            have hx0 : (wr.alloc (.cells #[.int .i64 (x : Int), .int .i64 (y : Int)] 69)).cell? ⟨wr.heap.size, 0, none⟩ = some (.int .i64 (x : Int)) := by simp only [World.cell?, heap_alloc_new]; rfl
            have hx1 : (wr.alloc (.cells #[.int .i64 (x : Int), .int .i64 (y : Int)] 69)).cell? ⟨wr.heap.size, 1, none⟩ = some (.int .i64 (y : Int)) := by simp only [World.cell?, heap_alloc_new]; rfl
            have nB : wr.heap.size ≠ B := by omega
            have HV : Hid (vs (mdl M mn) L n1 = (val (mdl M mn) L x && val (mdl M mn) L y)) := HXY.out.2.2.2.1
            have HINS := Lib.hid HXY.out.2.2.2.2
            clear hcell e0 hc' hN r1 r2 r3 r4 r5 hd HH d0 d1
            cases hvx : val (mdl M mn) L x with
            | false =>
              rw [hvx] at HC1 HV
              rw [Bool.false_and] at HV
              clear hvx HXY
              go_wp2_with fail
              refine region_still_tail 13 (by kernel_rfl) (by kernel_rfl) ?_
              simp only [List.take_succ_cons, List.take_zero, List.drop_succ_cons, List.drop_zero]
              iterate 5 still_step
              still_call HC1.out
              iterate 7 still_step
              refine wpStill_nil ?_
              all_goals
                go_wp2_with fail
                go_roundw
                case rel => exact ⟨n1 + 1, by rw [HINS.out], by go_num, by omega, by omega, (HH2.out.drew.step HGB.out HV.out.symm)⟩
                case measure => simp [intOf]; omega
            | true =>
              rw [hvx] at HC1 HV
              rw [Bool.true_and] at HV
              clear hvx HXY
              go_wp2_with fail
              refine region_still_tail 13 (by kernel_rfl) (by kernel_rfl) ?_
              simp only [List.take_succ_cons, List.take_zero, List.drop_succ_cons, List.drop_zero]
              iterate 5 still_step
              still_call HC1.out
              iterate 4 still_step
              still_call HC2.out
              iterate 2 still_step
              refine wpStill_nil ?_
              all_goals
                go_wp2_with fail
                go_roundw
                case rel => exact ⟨n1 + 1, by rw [HINS.out], by go_num, by omega, by omega, (HH2.out.drew.step HGB.out HV.out.symm)⟩
                case measure => simp [intOf]; omega
        · obtain rfl : n1 = l + 1 := by omega
          have hlz2 : ¬ ((l + 1 : Nat) : Int) ≤ (l : Int) := by omega
          have HEV := Lib.hid HH.out
          have HVV : Hid (∀ w2, Below wr.heap.size wr w2 → ∀ e, e < 2 * (L.length + 1) → e / 2 ≤ l → Calls Try.prog 37 #[.int .i64 (e : Int), .pointer (some ⟨B + 1, 0, none⟩)] w2 fun r w' => r = .returned (.bool (val (mdl M mn) L e)) ∧ w2 = w') := fun w2 hb e he hel =>
            (HEV.out.below hb).value e (by omega) hel (by omega) (by have := HLL.out; omega)
          have HOO : Hid (∀ w2, Below wr.heap.size wr w2 → ∀ j, j < k → Calls Try.prog 36 #[.pointer (some ⟨G.h, 0, none⟩), .int .i64 (Z j)] w2 fun e' w' => e' = .returned (.int .i64 (own L (Z j) : Int)) ∧ w2 = w') := fun w2 hb j hj =>
            own_any (HEV.out.below hb).2.2.1 (Z j) (HB.out.2.2.1 j hj) (by omega)
          have HZC : Hid (∀ w2, Below wr.heap.size wr w2 → ∀ j, j < k → ∃ b off, a = some ⟨b, off, none⟩ ∧ w2.cell? ⟨b, off + j, none⟩ = some (.int .i64 (Z j))) := fun w2 hb j hj => by
            obtain ⟨b, off, e, hb1, hc⟩ := (HB.out.2.1).resolve_left (by omega)
            have hw := HEV.out.2.2.2.1
            have h1 : b < B := by rw [HBB.out]; exact hb1
            have h2 := hw.size
            exact ⟨b, off, e, (hb.cell (p := ⟨b, off + j, none⟩) (by have := HEV.out.1.lt; show b < _; omega)).trans ((hw.cell (p := ⟨b, off + j, none⟩) h1).trans (hc j hj))⟩
          have HFW : Hid (∀ w2, Below wr.heap.size wr w2 → Below W0.heap.size W0 w2 ∧ W0.heap.size ≤ wr.heap.size) := fun w2 hb => by
            have := HEV.out.2.2.2.1
            rw [HBB.out] at this
            exact ⟨this.trans (hb.mono this.size), this.size⟩
          obtain ⟨W2, hW2⟩ : ∃ W2, W2 = wr := ⟨_, rfl⟩
          subst hW2
          obtain ⟨R, hR⟩ : ∃ R, R = W2.heap.size := ⟨_, rfl⟩
          have START3 : Hid (RowAt (W2.alloc (.cells (madeCells #[.bool false] k) 4)) W2.heap.size 4 k (fun i => .bool (if i < 0 then val (mdl M mn) L (own L (Z i)) else false)) ∧ Below W2.heap.size W2 (W2.alloc (.cells (madeCells #[.bool false] k) 4))) :=
            ⟨RowAt.of_made (heap_alloc_new W2 _) (fun i _ => by simp), (Below.refl _ _).alloc (Nat.le_refl _) _⟩
          clear HH hR HEV
          go_wp2_with fail
          go_loopw [16, 17, 83] (fun _ _ iv wr => ∃ j : Nat, iv = .int .i64 (j : Int) ∧ j ≤ k ∧ Hid (RowAt wr W2.heap.size 4 k (fun i => .bool (if i < j then val (mdl M mn) L (own L (Z i)) else false)) ∧ Below W2.heap.size W2 wr)) (fun _ _ iv _ => k - (intOf iv).toNat)
          case atStart => exact ⟨0, rfl, Nat.zero_le _, START3⟩
          case round =>
            obtain ⟨j, rfl, hj, HH⟩ := hrel
            by_cases hlt3 : j < k
            · have hjz : (j : Int) < (k : Int) := by omega
              have j0 : (0 : Int) ≤ (j : Int) := by omega
              obtain ⟨s1, s2⟩ := HH.out
              obtain ⟨b, off, rfl, ck⟩ := HZC.out wr s2 j hlt3
              have HO := Lib.hid (HOO.out wr s2 j hlt3)
              have HV := Lib.hid (HVV.out wr s2 (own L (Z j)) (own_lt _ _) (HLE.out j hlt3))
              have cc : wr.cell? ⟨W2.heap.size, j, none⟩ = some (.bool false) := by rw [s1.cell (i := j) hlt3, if_neg (by omega)]
              have fz := s1.free j
              have HH2 : Hid (RowAt (wr.setCell ⟨W2.heap.size, j, none⟩ (.bool (val (mdl M mn) L (own L (Z j))))) W2.heap.size 4 k (fun i => .bool (if i < j + 1 then val (mdl M mn) L (own L (Z i)) else false)) ∧ Below W2.heap.size W2 (wr.setCell ⟨W2.heap.size, j, none⟩ (.bool (val (mdl M mn) L (own L (Z j)))))) := by
                refine ⟨(s1.set j _).congr fun i hi => ?_, s2.setCell (Nat.le_refl _) _⟩
                by_cases e : i = j
                · subst e; rw [upd_same, if_pos (by omega)]
                · rw [upd_ne _ _ _ e]
                  by_cases q : i < j
                  · rw [if_pos q, if_pos (by omega)]
                  · rw [if_neg q, if_neg (by omega)]
              clear HH s1 s2 HZC HOO HVV hm2
              generalize val (mdl M mn) L (own L (Z j)) = v at *
              generalize (own L (Z j) : Int) = u at *
              generalize Z j = z at *
              go_wp2_with fail
              refine HO.out.mono ?_
              rintro e w' ⟨rfl, rfl⟩
              go_wp2_with fail
              refine HV.out.mono ?_
              rintro e w' ⟨rfl, rfl⟩
              go_wp2_with fail
              go_roundw
              case rel => exact ⟨j + 1, by go_num, by omega, HH2⟩
              case measure => simp [intOf]; omega
            · obtain rfl : j = k := by omega
              have hjz : ¬ (j : Int) < (j : Int) := by omega
              obtain ⟨s1, s2⟩ := HH.out
              have HFIN : Hid (EvalE W0 j (fun i => val (mdl M mn) L (own L (Z i))) (.returned (.slice (some ⟨W2.heap.size, 0, none⟩) j j)) wr) :=
                ⟨W2.heap.size, rfl, (HFW.out _ s2).2, s1.congr fun i hi => by rw [if_pos hi], (HFW.out _ s2).1⟩
              clear HH s1 s2 HZC HOO HVV hm2
              go_wp2_with fail
              go_ret
              exact HFIN.out
end Go.Proofs.Ytbggenilngpjcaa.Gr
