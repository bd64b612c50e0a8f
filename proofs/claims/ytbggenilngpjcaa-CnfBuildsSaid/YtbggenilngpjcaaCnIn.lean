/- Contract of the maker's Inputs. -/
import Derived.Test.YtbggenilngpjcaaCnE
import Derived.Test.YtbggenilngpjcaaGrIn
namespace Go.Proofs.Ytbggenilngpjcaa.Cn
open Go Go.RowKit Go.Lib Go.Maps Go.Proofs.Ytbggenilngpjcaa.Gr

/-- The j-th input: its node, and how many are ahead of it. -/
theorem inE_get (L : List Nd) : ∀ j, j < ins L → ∃ k, k < L.length ∧ (inE L).getD j 0 = 2 * ((k : Int) + 1) ∧ L[k]? = some none ∧ ins (L.take k) = j := by
  refine snoc_ind (p := fun L => ∀ j, j < ins L → ∃ k, k < L.length ∧ (inE L).getD j 0 = 2 * ((k : Int) + 1) ∧ L[k]? = some none ∧ ins (L.take k) = j) (fun j hj => absurd hj (by simp [ins])) (fun L d ih j hj => ?_) L
  rw [ins_snoc] at hj
  by_cases h : j < ins L
  · obtain ⟨k, h1, h2, h3, h4⟩ := ih j h
    refine ⟨k, by rw [List.length_append]; omega, ?_, by rw [List.getElem?_append_left h1]; exact h3, by rw [List.take_append_of_le_length (by omega)]; exact h4⟩
    rw [inE_snoc, ← h2, List.getD_eq_getElem?_getD, List.getElem?_append_left (by rw [inE_len]; exact h), ← List.getD_eq_getElem?_getD]
  · cases d with
    | some p => simp at hj; omega
    | none =>
      have hj2 : j = ins L := by simp at hj; omega
      refine ⟨L.length, by simp, ?_, by simp, by rw [List.take_append_of_le_length (Nat.le_refl _), List.take_length]; exact hj2.symm⟩
      rw [inE_snoc, List.getD_eq_getElem?_getD, List.getElem?_append_right (by rw [inE_len]; omega), inE_len, hj2, Nat.sub_self]
      rfl
/-- The node of the j-th input. -/
def inN (L : List Nd) (j : Nat) : Nat := ((inE L).getD j 0).toNat / 2
theorem inN_get {L : List Nd} {j : Nat} (hj : j < ins L) : ∃ k, k < L.length ∧ (inE L).getD j 0 = 2 * ((inN L j : Nat) : Int) ∧ inN L j = k + 1 ∧ L[k]? = some none ∧ ins (L.take k) = j := by
  obtain ⟨k, h1, h2, h3, h4⟩ := inE_get L j hj
  have : inN L j = k + 1 := by unfold inN; rw [h2]; omega
  exact ⟨k, h1, by rw [h2, this]; omega, this, h3, h4⟩
/-- An input's value by a model. -/
def inB (L : List Nd) (vs : List Nat) (mn : Nat) (Mv : Nat → Bool) (j : Nat) : Bool := decide (inN L j ∈ vs) && (decide (var vs (inN L j) ≤ mn) && Mv (var vs (inN L j) - 1))

/-- What Inputs answers. -/
def MInE (w : World) (L : List Nd) (vs : List Nat) (mn : Nat) (Mv : Nat → Bool) (e : Ending) (w' : World) : Prop :=
  ∃ b, e = .returned (.slice (some ⟨b, 0, none⟩) (ins L) (ins L)) ∧ w.heap.size ≤ b ∧ RowAt w' b 4 (ins L) (fun i => .bool (inB L vs mn Mv i)) ∧ Below w.heap.size w w'

set_option maxRecDepth 100000 in
set_option maxHeartbeats 2000000 in
theorem MInputs_any {w : World} {G : Gr.Loc} {L : List Nd} {M : MLoc} {S : Mk} (h : Both w G L M S) (hl : L.length ≤ 400) (ma : Option Addr) (mn mc : Nat) (Mv : Nat → Bool) (hM : ArgV (fun j => .bool (Mv j)) w ma mn) (_hmn : mn ≤ 1000) :
    Calls Try.prog 18 #[.pointer (some ⟨M.h, 0, none⟩), .slice ma mn mc] w (MInE w L S.vs mn Mv) := by
  have HMD := Lib.hid (made_any h.m)
  have HIN := Lib.hid (InputsX_any h.g (by omega))
  have c0 := h.m.c0
  have hil : ins L ≤ L.length := List.countP_le_length
  have hm2 := fun W => run_make_row' (P := Try.prog) 23 4 (.bool false) 1 Try.underlying23 infoBool rfl .i64 .i64 (ins L) (by omega) (by omega) W
  have HB := Lib.hid (And.intro h (And.intro hM hl))
  obtain ⟨n, hn⟩ : ∃ n, n = ins L := ⟨_, rfl⟩
  have HNN := Lib.hid hn
  rw [← hn] at HIN hm2
  have n9 : (n : Int) ≤ 400 := by omega
  unfold MInE
  rw [← hn]
  clear h hM hil hn hl
  go_enter Try.func18, Try.ntmps18
  go_wp2_with fail
  refine HMD.out.mono ?_
  rintro e w' ⟨rfl, rfl⟩
  go_wp2_with fail
  refine HIN.out.mono ?_
  rintro e w1 ⟨ia, ic, rfl, hia, hb1⟩
  have H1 := Lib.hid (And.intro hia hb1)
  have START : Hid (RowAt (w1.alloc (.cells (madeCells #[.bool false] n) 4)) w1.heap.size 4 n (fun i => .bool (if i < 0 then inB L S.vs mn Mv i else false)) ∧ Below w1.heap.size w1 (w1.alloc (.cells (madeCells #[.bool false] n) 4))) :=
    ⟨RowAt.of_made (heap_alloc_new w1 _) (fun i _ => by simp), (Below.refl _ _).alloc (Nat.le_refl _) _⟩
  clear hia hb1 HIN HMD c0
  go_wp2_with fail
  go_loopw [24] (fun iv wr => ∃ k : Nat, iv = .int .i64 (k : Int) ∧ k ≤ n ∧ Hid (RowAt wr w1.heap.size 4 n (fun i => .bool (if i < k then inB L S.vs mn Mv i else false)) ∧ Below w1.heap.size w1 wr)) (fun iv _ => n - (RowKit.intOf iv).toNat)
  case atStart => exact ⟨0, rfl, Nat.zero_le _, START⟩
  case round =>
    obtain ⟨k, rfl, hk, HH⟩ := hrel
    obtain ⟨r1, r2⟩ := HH.out
    by_cases hlt : k < n
    · have hlz : (k : Int) < (n : Int) := by omega
      have k0 : (0 : Int) ≤ (k : Int) := by omega
      obtain ⟨b, off, rfl, hb, hc⟩ := H1.out.1.resolve_left (by omega)
      obtain ⟨q, hq1, hq2, hq3, _⟩ := inN_get (L := L) (j := k) (by have := HNN.out; omega)
      have hL9 := HB.out.2.2
      have cx : wr.cell? ⟨b, off + k, none⟩ = some (.int .i64 (2 * ((inN L k : Nat) : Int))) := by rw [← hq2]; exact (r2.cell (p := ⟨b, off + k, none⟩) hb).trans (hc k hlt)
      have hbw : Below w.heap.size w wr := H1.out.2.trans (r2.mono H1.out.2.size)
      have hm := HB.out.1.m.below hbw
      have c1 := hm.c1
      have hlook := hm.look_ok (n := inN L k) (by omega)
      have hvl := var_le S.vs (inN L k)
      have hvp := fun q => var_pos (vs := S.vs) (n := inN L k) q
      have hsv := HB.out.1.ok.len
      have HIB : Hid (inB L S.vs mn Mv k = (decide (inN L k ∈ S.vs) && (decide (var S.vs (inN L k) ≤ mn) && Mv (var S.vs (inN L k) - 1)))) := rfl
      have hnb : inN L k ≤ 400 := by omega
      have fz := r1.free k
      have cc := r1.cell hlt
      have HSET : Hid (∀ v, v = inB L S.vs mn Mv k → Hid (RowAt (wr.setCell ⟨w1.heap.size, k, none⟩ (.bool v)) w1.heap.size 4 n (fun i => .bool (if i < k + 1 then inB L S.vs mn Mv i else false)) ∧ Below w1.heap.size w1 (wr.setCell ⟨w1.heap.size, k, none⟩ (.bool v)))) := fun v hv => by
        refine ⟨(r1.set k _).congr fun i hi => ?_, r2.setCell (Nat.le_refl _) _⟩
        by_cases e : i = k
        · subst e; rw [upd_same, if_pos (by omega), hv]
        · rw [upd_ne _ _ _ e]
          by_cases q : i < k
          · rw [if_pos q, if_pos (by omega)]
          · rw [if_neg q, if_neg (by omega)]
      have HMO : Hid (∀ j, j < mn → ∃ mb mo, ma = some ⟨mb, mo, none⟩ ∧ wr.cell? ⟨mb, mo + j, none⟩ = some (.bool (Mv j))) := fun j hj => by
        obtain ⟨mb, mo, e, hml, hmc⟩ := HB.out.2.1.resolve_left (by omega)
        exact ⟨mb, mo, e, (hbw.cell (p := ⟨mb, mo + j, none⟩) hml).trans (hmc j hj)⟩
      have x9 : ((inN L k : Nat) : Int) ≤ 400 := by omega
      have x0 : (0 : Int) ≤ ((inN L k : Nat) : Int) := by omega
      have hdd : (2 * ((inN L k : Nat) : Int)).tdiv 2 = ((inN L k : Nat) : Int) := by rw [Int.tdiv_eq_ediv_of_nonneg (by omega)]; omega
      clear r1 r2 HH hbw hm hb hc hq1 hq2 hq3 START
      by_cases hin : inN L k ∈ S.vs
      · have d1 : decide (inN L k ∈ S.vs) = true := by simpa using hin
        have hvp := hvp hin
        rw [d1] at hlook HIB
        generalize var S.vs (inN L k) = v at *
        have v9 : (v : Int) ≤ 1000 := by omega
        have v1 : (1 : Int) ≤ (v : Int) := by omega
        generalize inN L k = x at *
        by_cases hvm : v ≤ mn
        · obtain ⟨mb, mo, rfl, cm⟩ := HMO.out (v - 1) (by omega)
          obtain ⟨u, rfl⟩ : ∃ u, v = u + 1 := ⟨v - 1, by omega⟩
          have cm' : wr.cell? ⟨mb, mo + u, none⟩ = some (.bool (Mv u)) := cm
          have HF := HSET.out (Mv u) (by rw [HIB.out, decide_eq_true hvm]; simp)
          have vm : decide (((u + 1 : Nat) : Int) ≤ (mn : Int)) = true := by rw [decide_eq_true_iff]; omega
          have vm2 : (u : Int) + 1 ≤ (mn : Int) := by omega
          have vm3 : (u : Int) < (mn : Int) := by omega
          have vm4 : u + 1 ≤ mn := hvm
          have vm5 : u < mn := by omega
          have u0 : (0 : Int) ≤ (u : Int) := by omega
          generalize Mv u = mv at *
          clear HIB HSET HMO hvp hvl hsv hin d1 cm hvm
          go_wp2_with fail
          go_roundw
          case rel => exact ⟨k + 1, by go_num, by omega, HF⟩
          case measure => simp [RowKit.intOf]; omega
        · have HF := HSET.out false (by rw [HIB.out, decide_eq_false hvm]; simp)
          have vm2 : ¬ (v : Int) ≤ (mn : Int) := by omega
          clear HIB HSET HMO hvp hvl hsv hin d1
          go_wp2_with fail
          go_roundw
          case rel => exact ⟨k + 1, by go_num, by omega, HF⟩
          case measure => simp [RowKit.intOf]; omega
      · have d1 : decide (inN L k ∈ S.vs) = false := by simpa using hin
        rw [d1] at hlook HIB
        have HF := HSET.out false (by rw [HIB.out]; simp)
        generalize var S.vs (inN L k) = v at *
        generalize inN L k = x at *
        clear HIB HSET HMO hvp hvl hsv hin d1
        go_wp2_with fail
        go_roundw
        case rel => exact ⟨k + 1, by go_num, by omega, HF⟩
        case measure => simp [RowKit.intOf]; omega
    · obtain rfl : k = n := by omega
      have hlz : ¬ (k : Int) < (k : Int) := by omega
      have HFIN : Hid (w.heap.size ≤ w1.heap.size ∧ RowAt wr w1.heap.size 4 k (fun i => .bool (inB L S.vs mn Mv i)) ∧ Below w.heap.size w wr) := ⟨H1.out.2.size, r1.congr fun i hi => by rw [if_pos hi], H1.out.2.trans (r2.mono H1.out.2.size)⟩
      clear r1 r2 HH START
      go_wp2_with fail
      go_ret
      exact ⟨_, rfl, HFIN.out⟩
end Go.Proofs.Ytbggenilngpjcaa.Cn
