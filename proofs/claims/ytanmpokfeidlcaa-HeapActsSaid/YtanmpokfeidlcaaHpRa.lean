/- The document's own heap in memory: is, Put, Bump, and the law's act. -/
import Derived.Test.YtanmpokfeidlcaaHpHalves
import Derived.Deep.AppendLies
namespace Go.Proofs.Ytanmpokfeidlcaa.Hp
open Go Go.RowKit Go.Lib

/-- Block b begins with n cells that hold f. -/
def RowPre (w : World) (b : Nat) (ty : TypeId) (n : Nat) (f : Nat → Value) : Prop :=
  ∃ arr : Array Value, w.heap[b]? = some (.cells arr ty (0, 0)) ∧ n ≤ arr.size ∧ ∀ i, i < n → arr[i]? = some (f i)

theorem RowPre.lt {w : World} {b : Nat} {ty : TypeId} {n : Nat} {f : Nat → Value} (h : RowPre w b ty n f) : b < w.heap.size := by
  obtain ⟨arr, h1, _⟩ := h; exact lt_of_block h1
theorem RowPre.cell {w : World} {b : Nat} {ty : TypeId} {n : Nat} {f : Nat → Value} (h : RowPre w b ty n f) {i : Nat} (hi : i < n) : w.cell? ⟨b, i, none⟩ = some (f i) := by
  obtain ⟨arr, h1, _, h3⟩ := h
  simp only [World.cell?, h1]
  simpa using h3 i hi
theorem RowPre.free {w : World} {b : Nat} {ty : TypeId} {n : Nat} {f : Nat → Value} (h : RowPre w b ty n f) (i : Nat) : w.frozen? ⟨b, i, none⟩ = false := by
  obtain ⟨arr, h1, _⟩ := h
  simp [World.frozen?, h1]
theorem RowPre.of_heap {w w' : World} {b : Nat} {ty : TypeId} {n : Nat} {f : Nat → Value} (h : RowPre w b ty n f) (e : w'.heap[b]? = w.heap[b]?) : RowPre w' b ty n f := by
  obtain ⟨arr, h1, h2, h3⟩ := h; exact ⟨arr, e.trans h1, h2, h3⟩
theorem RowPre.congr {w : World} {b : Nat} {ty : TypeId} {n : Nat} {f g : Nat → Value} (h : RowPre w b ty n f) (e : ∀ i, i < n → f i = g i) : RowPre w b ty n g := by
  obtain ⟨arr, h1, h2, h3⟩ := h; exact ⟨arr, h1, h2, fun i hi => by rw [h3 i hi, e i hi]⟩
theorem RowPre.set {w : World} {b : Nat} {ty : TypeId} {n : Nat} {f : Nat → Value} (h : RowPre w b ty n f) (i : Nat) (u : Value) : RowPre (w.setCell ⟨b, i, none⟩ u) b ty n (upd f i u) := by
  obtain ⟨arr, h1, h2, h3⟩ := h
  have hlt := lt_of_block h1
  have h' : w.heap[b] = .cells arr ty (0, 0) := by simpa [Array.getElem?_eq_getElem hlt] using h1
  refine ⟨arr.setIfInBounds i u, ?_, by simpa using h2, fun j hj => ?_⟩
  · show (w.heap.modify b _)[b]? = _
    rw [Array.getElem?_eq_getElem (by simpa using hlt), Array.getElem_modify_self, h']
    rfl
  · rw [Array.getElem?_setIfInBounds]
    by_cases e : i = j
    · subst e; rw [if_pos rfl, if_pos (by omega), upd_same]
    · rw [if_neg e, upd_ne _ _ _ (Ne.symm e)]; exact h3 j hj

structure RLoc where
  r : Nat
  i : Nat
  a : Nat
  ai : Option Addr
  aa : Option Addr
  ci : Nat
  ca : Nat
def RLoc.all (R : RLoc) : List Nat := [R.r, R.i, R.a]
/-- The blocks that its calls may write. -/
def RLoc.live (R : RLoc) (n : Nat) : List Nat := if n = 0 then [] else R.all
theorem RLoc.live_i {R : RLoc} {n : Nat} (h : n ≠ 0) : R.i ∈ R.live n := by simp [RLoc.live, RLoc.all, h]
theorem RLoc.live_a {R : RLoc} {n : Nat} (h : n ≠ 0) : R.a ∈ R.live n := by simp [RLoc.live, RLoc.all, h]
theorem RLoc.live_all {R : RLoc} {n b : Nat} (h : b ∈ R.live n) : b ∈ R.all := by unfold RLoc.live at h; split at h; cases h; exact h

def inF (In : Nat → Bool) : Nat → Value := fun j => .bool (In (j + 1))
def acF (A : Nat → Int) : Nat → Value := fun j => .int .i64 (A (j + 1))

/-- The document's heap. -/
structure IsRef (w : World) (B : Nat) (R : RLoc) (n : Nat) (In : Nat → Bool) (A : Nat → Int) : Prop where
  head : w.heap[R.r]? = some (.cells #[.slice R.ai n R.ci, .slice R.aa n R.ca] 40 (0, 0))
  ins : n = 0 ∨ (R.ai = some ⟨R.i, 0, none⟩ ∧ RowPre w R.i 4 n (inF In))
  acs : n = 0 ∨ (R.aa = some ⟨R.a, 0, none⟩ ∧ RowPre w R.a 2 n (acF A))
  ri : R.r ≠ R.i
  ra : R.r ≠ R.a
  ia : R.i ≠ R.a
  from' : ∀ b ∈ R.all, B ≤ b

theorem IsRef.c0 {w : World} {B : Nat} {R : RLoc} {n : Nat} {In : Nat → Bool} {A : Nat → Int} (h : IsRef w B R n In A) : w.cell? ⟨R.r, 0, none⟩ = some (.slice R.ai n R.ci) := by simp [World.cell?, h.head]
theorem IsRef.c1 {w : World} {B : Nat} {R : RLoc} {n : Nat} {In : Nat → Bool} {A : Nat → Int} (h : IsRef w B R n In A) : w.cell? ⟨R.r, 1, none⟩ = some (.slice R.aa n R.ca) := by simp [World.cell?, h.head]
theorem IsRef.of_heap {w w' : World} {B : Nat} {R : RLoc} {n : Nat} {In : Nat → Bool} {A : Nat → Int} (h : IsRef w B R n In A) (e : ∀ b ∈ R.all, b < w.heap.size → w'.heap[b]? = w.heap[b]?) : IsRef w' B R n In A :=
  { h with
    head := (e _ (by simp [RLoc.all]) (lt_of_block h.head)).trans h.head
    ins := h.ins.imp id fun ⟨h1, h2⟩ => ⟨h1, h2.of_heap (e _ (by simp [RLoc.all]) h2.lt)⟩
    acs := h.acs.imp id fun ⟨h1, h2⟩ => ⟨h1, h2.of_heap (e _ (by simp [RLoc.all]) h2.lt)⟩ }
theorem IsRef.drewN {w : World} {B : Nat} {R : RLoc} {n : Nat} {In : Nat → Bool} {A : Nat → Int} (h : IsRef w B R n In A) (q : Nat) : IsRef (w.drewN q) B R n In A := h.of_heap fun _ _ _ => rfl
theorem IsRef.only {S : List Nat} {w w' : World} {B : Nat} {R : RLoc} {n : Nat} {In : Nat → Bool} {A : Nat → Int} (h : IsRef w B R n In A) (ho : Only S w w') (hS : ∀ b ∈ S, b < B) : IsRef w' B R n In A :=
  h.of_heap fun b hb hl => ho.block b hl fun q => by have := hS b q; have := h.from' b hb; omega
theorem IsRef.alloc {w : World} {B : Nat} {R : RLoc} {n : Nat} {In : Nat → Bool} {A : Nat → Int} (h : IsRef w B R n In A) (o : Obj) : IsRef (w.alloc o) B R n In A := h.of_heap fun b _ hl => Below.heap_alloc _ _ _ hl
theorem IsRef.lt {w : World} {B : Nat} {R : RLoc} {n : Nat} {In : Nat → Bool} {A : Nat → Int} (h : IsRef w B R n In A) : ∀ b ∈ R.live n, b < w.heap.size := by
  intro b hb
  unfold RLoc.live at hb
  split at hb
  · cases hb
  · rename_i hn
    simp only [RLoc.all, List.mem_cons, List.not_mem_nil, or_false] at hb
    rcases hb with e | e | e
    · rw [e]; exact lt_of_block h.head
    · rw [e]; exact (h.ins.resolve_left hn).2.lt
    · rw [e]; exact (h.acs.resolve_left hn).2.lt
theorem IsRef.setIn {w : World} {B : Nat} {R : RLoc} {n : Nat} {In : Nat → Bool} {A : Nat → Int} (h : IsRef w B R n In A) (j : Nat) (x : Bool) : IsRef (w.setCell ⟨R.i, j, none⟩ (.bool x)) B R n (upd In (j + 1) x) A :=
  { h with
    head := (Below.heap_setCell _ _ _ _ h.ri).trans h.head
    ins := h.ins.imp id fun ⟨h1, h2⟩ => ⟨h1, (h2.set j _).congr fun k _ => by unfold upd inF; by_cases e : k = j <;> simp [e, upd]⟩
    acs := h.acs.imp id fun ⟨h1, h2⟩ => ⟨h1, h2.of_heap (Below.heap_setCell _ _ _ _ h.ia.symm)⟩ }
theorem IsRef.setAc {w : World} {B : Nat} {R : RLoc} {n : Nat} {In : Nat → Bool} {A : Nat → Int} (h : IsRef w B R n In A) (j : Nat) (x : Int) : IsRef (w.setCell ⟨R.a, j, none⟩ (.int .i64 x)) B R n In (upd A (j + 1) x) :=
  { h with
    head := (Below.heap_setCell _ _ _ _ h.ra).trans h.head
    ins := h.ins.imp id fun ⟨h1, h2⟩ => ⟨h1, h2.of_heap (Below.heap_setCell _ _ _ _ h.ia)⟩
    acs := h.acs.imp id fun ⟨h1, h2⟩ => ⟨h1, (h2.set j _).congr fun k _ => by unfold upd acF; by_cases e : k = j <;> simp [e, upd]⟩ }
theorem IsRef.congr {w : World} {B : Nat} {R : RLoc} {n : Nat} {In In' : Nat → Bool} {A A' : Nat → Int} (h : IsRef w B R n In A) (hI : ∀ v, 1 ≤ v → v ≤ n → In v = In' v) (hA : ∀ v, 1 ≤ v → v ≤ n → A v = A' v) : IsRef w B R n In' A' :=
  { h with
    ins := h.ins.imp id fun ⟨h1, h2⟩ => ⟨h1, h2.congr fun k hk => by unfold inF; rw [hI (k + 1) (by omega) (by omega)]⟩
    acs := h.acs.imp id fun ⟨h1, h2⟩ => ⟨h1, h2.congr fun k hk => by unfold acF; rw [hA (k + 1) (by omega) (by omega)]⟩ }

set_option maxHeartbeats 1000000 in
theorem is_ref {w : World} {B : Nat} {R : RLoc} {n : Nat} {In : Nat → Bool} {A : Nat → Int} (h : IsRef w B R n In A) (v : Int) :
    Calls Try.prog 27 #[.pointer (some ⟨R.r, 0, none⟩), .int .i64 v] w fun e w' => e = .returned (.bool (isV n v)) ∧ w = w' := by
  have h1 := h.c0
  clear h
  unfold isV
  by_cases a : 1 ≤ v
  · go_enter Try.func27, Try.ntmps27
    go_wp2
    go_ret
    simp [a]
  · have a2 : decide (1 ≤ v) = false := by simpa using a
    go_enter Try.func27, Try.ntmps27
    go_wp2
    go_ret
    simp [a]

set_option maxHeartbeats 2000000 in
theorem act_ref {w : World} {B : Nat} {R : RLoc} {n : Nat} {In : Nat → Bool} {A : Nat → Int} (h : IsRef w B R n In A) (v : Nat) (hv : v ≤ n + 1) (hn : n ≤ 100000) :
    Calls Try.prog 23 #[.pointer (some ⟨R.r, 0, none⟩), .int .i64 (v : Int)] w fun e w' => e = .returned (.int .i64 (if isV n (v : Int) = true then A v else 0)) ∧ w = w' := by
  have h1 := h.c1
  by_cases e : 1 ≤ v ∧ v ≤ n
  · rw [isV_nat e.1 e.2, if_pos rfl]
    obtain ⟨ha, hp⟩ := h.acs.resolve_left (by omega)
    rw [ha] at h1
    obtain ⟨u, rfl⟩ : ∃ u, v = u + 1 := ⟨v - 1, by omega⟩
    have hc := hp.cell (i := u) (by omega)
    have hz1 : ¬ ((u : Int) + 1) < 1 := by omega
    have hz2 : ¬ (n : Int) < (u : Int) + 1 := by omega
    have hz1d : decide (((u : Int) + 1) < 1) = false := by simpa using hz1
    have hz2d : decide ((n : Int) < (u : Int) + 1) = false := by simpa using hz2
    have ub : (u : Int) < (n : Int) := by omega
    have u0 : (0 : Int) ≤ (u : Int) := by omega
    unfold acF at hc
    generalize A (u + 1) = x at *
    clear h ha hp e hv
    push_cast
    go_enter Try.func23, Try.ntmps23
    go_wp2
    go_ret
    exact ⟨rfl, rfl⟩
  · have hf : isV n (v : Int) = false := by unfold isV; simp; omega
    rw [hf]
    clear h
    by_cases q : v < 1
    · have hz1 : (v : Int) < 1 := by omega
      go_enter Try.func23, Try.ntmps23
      go_wp2
      go_ret
      exact ⟨rfl, rfl⟩
    · have hz1 : ¬ (v : Int) < 1 := by omega
      have hz1d : decide ((v : Int) < 1) = false := by simpa using hz1
      have hz2 : (n : Int) < (v : Int) := by omega
      go_enter Try.func23, Try.ntmps23
      go_wp2
      go_ret
      exact ⟨rfl, rfl⟩

set_option maxHeartbeats 2000000 in
theorem Put_ref {w : World} {B : Nat} {R : RLoc} {n : Nat} {In : Nat → Bool} {A : Nat → Int} (h : IsRef w B R n In A) (v : Int) (hn : n ≤ 100000) :
    Calls Try.prog 12 #[.pointer (some ⟨R.r, 0, none⟩), .int .i64 v] w fun e w' => e = .returned (.bool (isV n v && !In v.toNat)) ∧ IsRef w' B R n (if isV n v = true then upd In v.toNat true else In) A ∧ Only (R.live n) w w' := by
  have hi := is_ref h v
  cases e : isV n v with
  | false =>
    rw [e] at hi
    have HR := Lib.hid h
    clear h e
    go_enter Try.func12, Try.ntmps12
    go_wp2_with fail
    refine hi.mono ?_
    rintro e w' ⟨rfl, rfl⟩
    go_wp2_with fail
    go_ret
    exact ⟨rfl, HR.out, Only.refl _ _⟩
  | true =>
    rw [e] at hi
    obtain ⟨u1, rfl, g1, g2⟩ := isV_cases e
    obtain ⟨u, rfl⟩ : ∃ u, u1 = u + 1 := ⟨u1 - 1, by omega⟩
    simp only [Int.toNat_natCast, if_true, Bool.true_and]
    obtain ⟨ha, hp⟩ := h.ins.resolve_left (by omega)
    have h0 := h.c0
    rw [ha] at h0
    have hc := hp.cell (i := u) (by omega)
    have hf := hp.free u
    have ub : (u : Int) < (n : Int) := by omega
    have u0 : (0 : Int) ≤ (u : Int) := by omega
    have HR1 : Hid (IsRef (w.setCell ⟨R.i, u, none⟩ (.bool true)) B R n (upd In (u + 1) true) A) := h.setIn u true
    have HO1 : Hid (Only (R.live n) w (w.setCell ⟨R.i, u, none⟩ (.bool true))) := (Only.refl _ _).set (RLoc.live_i (by omega)) _
    have HR0 := Lib.hid h
    unfold inF at hc
    have HE : Hid (In (u + 1) = In (u + 1)) := rfl
    cases q : In (u + 1) with
    | true =>
      rw [q] at hc
      rw [upd_self q]
      clear h ha hp e HE q
      push_cast at hi ⊢
      go_enter Try.func12, Try.ntmps12
      go_wp2_with fail
      refine hi.mono ?_
      rintro e w' ⟨rfl, rfl⟩
      go_wp2_with fail
      go_ret
      exact ⟨rfl, HR0.out, Only.refl _ _⟩
    | false =>
      rw [q] at hc
      clear h ha hp e HE q
      push_cast at hi ⊢
      go_enter Try.func12, Try.ntmps12
      go_wp2_with fail
      refine hi.mono ?_
      rintro e w' ⟨rfl, rfl⟩
      go_wp2_with fail
      go_ret
      exact ⟨rfl, HR1.out, HO1.out⟩

set_option maxHeartbeats 4000000 in
theorem Bump_ref {w : World} {B : Nat} {R : RLoc} {n : Nat} {In : Nat → Bool} {A : Nat → Int} (h : IsRef w B R n In A) (v b : Int) (hn : n ≤ 100000) (hb : b ≤ 9223372036854775807) (hA : ∀ u, u ≤ n → 0 ≤ A u ∧ A u ≤ 1152921504606846976) :
    Calls Try.prog 16 #[.pointer (some ⟨R.r, 0, none⟩), .int .i64 v, .int .i64 b] w fun e w' => e = .returned (.bool (isV n v && decide (0 ≤ b))) ∧ IsRef w' B R n In (if isV n v = true ∧ 0 ≤ b then upd A v.toNat (bump (A v.toNat) b) else A) ∧ Only (R.live n) w w' := by
  have hi := is_ref h v
  by_cases c : isV n v = true ∧ 0 ≤ b
  · obtain ⟨u1, rfl, g1, g2⟩ := isV_cases c.1
    obtain ⟨u, rfl⟩ : ∃ u, u1 = u + 1 := ⟨u1 - 1, by omega⟩
    rw [if_pos c, c.1, decide_eq_true c.2]
    rw [c.1] at hi
    have hb0 := c.2
    simp only [Int.toNat_natCast, Bool.and_self]
    obtain ⟨ha, hp⟩ := h.acs.resolve_left (by omega)
    have h1 := h.c1
    rw [ha] at h1
    have hc := hp.cell (i := u) (by omega)
    have hf := hp.free u
    have ub : (u : Int) < (n : Int) := by omega
    have u0 : (0 : Int) ≤ (u : Int) := by omega
    have hAu := hA (u + 1) (by omega)
    have HR1 : Hid (∀ x, bump (A (u + 1)) b = x → IsRef (w.setCell ⟨R.a, u, none⟩ (.int .i64 x)) B R n In (upd A (u + 1) (bump (A (u + 1)) b))) := by rintro x rfl; exact h.setAc u _
    have HO1 : Hid (∀ x, Only (R.live n) w (w.setCell ⟨R.a, u, none⟩ (.int .i64 x))) := fun x => (Only.refl _ _).set (RLoc.live_a (by omega)) _
    have HBD : Hid (bump (A (u + 1)) b = A (u + 1) + if b ≤ 1152921504606846976 - A (u + 1) then b else 1152921504606846976 - A (u + 1)) := rfl
    unfold acF at hc
    generalize bump (A (u + 1)) b = y at *
    generalize A (u + 1) = x at *
    clear h ha hp c hA
    push_cast at hi ⊢
    by_cases q : 1152921504606846976 - x < b
    · have HY : Hid (y = 1152921504606846976) := by unfold Hid; rw [HBD.out, if_neg (by omega)]; omega
      go_enter Try.func16, Try.ntmps16
      go_wp2_with fail
      refine hi.mono ?_
      rintro e w' ⟨rfl, rfl⟩
      go_wp2_with fail
      go_ret
      exact ⟨rfl, HR1.out _ HY.out, HO1.out _⟩
    · have HY : Hid (y = x + b) := by unfold Hid; rw [HBD.out, if_pos (by omega)]
      have q2 : b ≤ 1152921504606846976 - x := by omega
      have qd : decide (1152921504606846976 - x < b) = false := by simpa using q2
      go_enter Try.func16, Try.ntmps16
      go_wp2_with fail
      refine hi.mono ?_
      rintro e w' ⟨rfl, rfl⟩
      go_wp2_with fail
      go_region
      go_wp2_with fail
      go_ret
      exact ⟨rfl, (HR1.out _ HY.out).drewN 1, (HO1.out _).drewN 1⟩
  · rw [if_neg c]
    have e : (isV n v && decide (0 ≤ b)) = false := by
      cases q : isV n v with
      | false => rfl
      | true => simp; exact Int.not_le.1 (fun z => c ⟨q, z⟩)
    rw [e]
    have HR := Lib.hid h
    cases q : isV n v with
    | false =>
      rw [q] at hi
      clear h e c q hA
      go_enter Try.func16, Try.ntmps16
      go_wp2_with fail
      refine hi.mono ?_
      rintro e w' ⟨rfl, rfl⟩
      go_wp2_with fail
      go_ret
      exact ⟨rfl, HR.out, Only.refl _ _⟩
    | true =>
      rw [q] at hi
      have hb2 : b < 0 := Int.not_le.1 (fun z => c ⟨q, z⟩)
      clear h e c q hA
      go_enter Try.func16, Try.ntmps16
      go_wp2_with fail
      refine hi.mono ?_
      rintro e w' ⟨rfl, rfl⟩
      go_wp2_with fail
      go_ret
      exact ⟨rfl, HR.out, Only.refl _ _⟩
end Go.Proofs.Ytanmpokfeidlcaa.Hp
