/- A checker in memory: each block has a role; what a call may turn is told by roles. -/
import Derived.Test.YthpamogomfleoaaDoorChecked
import Derived.Test.YthpamogomfleoaaDoorRcPlain
import Derived.WalkKit
import Derived.OneCell
import Derived.Lib.Hide
import Derived.Deep.QuietTactic
import Derived.BigQuiet
import Derived.Deep.LoopGhost
import Derived.Laws.AppendOwnNone
import Derived.OwnWalk
import Derived.Deep.AppendLies
import Derived.Maps.OwnSet
import Derived.Sort.Row
namespace Go.Proofs.YthpamogomfleoaaDoor.Rc
open Go Go.RowKit Go.Lib

/-- Block b is a row of n cells that hold f. -/
def RowAt (w : World) (b : Nat) (ty : TypeId) (n : Nat) (f : Nat → Value) : Prop :=
  ∃ arr : Array Value, w.heap[b]? = some (.cells arr ty (0, 0)) ∧ arr.size = n ∧ ∀ i, i < n → arr[i]? = some (f i)
theorem RowAt.lt {w : World} {b : Nat} {ty : TypeId} {n : Nat} {f : Nat → Value} (h : RowAt w b ty n f) : b < w.heap.size := by
  obtain ⟨arr, h1, _⟩ := h; exact lt_of_block h1
theorem RowAt.cell {w : World} {b : Nat} {ty : TypeId} {n : Nat} {f : Nat → Value} (h : RowAt w b ty n f) {i : Nat} (hi : i < n) : w.cell? ⟨b, i, none⟩ = some (f i) := by
  obtain ⟨arr, h1, _, h3⟩ := h
  simp only [World.cell?, h1]
  simpa using h3 i hi
theorem RowAt.free {w : World} {b : Nat} {ty : TypeId} {n : Nat} {f : Nat → Value} (h : RowAt w b ty n f) (i : Nat) : w.frozen? ⟨b, i, none⟩ = false := by
  obtain ⟨arr, h1, _⟩ := h
  simp [World.frozen?, h1]
theorem RowAt.of_heap {w w' : World} {b : Nat} {ty : TypeId} {n : Nat} {f : Nat → Value} (h : RowAt w b ty n f) (e : w'.heap[b]? = w.heap[b]?) : RowAt w' b ty n f := by
  obtain ⟨arr, h1, h2, h3⟩ := h; exact ⟨arr, e.trans h1, h2, h3⟩
theorem RowAt.congr {w : World} {b : Nat} {ty : TypeId} {n : Nat} {f g : Nat → Value} (h : RowAt w b ty n f) (e : ∀ i, i < n → f i = g i) : RowAt w b ty n g := by
  obtain ⟨arr, h1, h2, h3⟩ := h; exact ⟨arr, h1, h2, fun i hi => by rw [h3 i hi, e i hi]⟩
theorem block_set {w : World} {b : Nat} {arr : Array Value} {ty : TypeId} {fr : Nat × Nat} (h1 : w.heap[b]? = some (.cells arr ty fr)) (i : Nat) (u : Value) : (w.setCell ⟨b, i, none⟩ u).heap[b]? = some (.cells (arr.setIfInBounds i u) ty fr) := by
  have hlt : b < w.heap.size := lt_of_block h1
  have h' : w.heap[b] = .cells arr ty fr := by simpa [Array.getElem?_eq_getElem hlt] using h1
  show (w.heap.modify b _)[b]? = _
  rw [Array.getElem?_eq_getElem (by simpa using hlt), Array.getElem_modify_self, h']
  rfl
theorem RowAt.set {w : World} {b : Nat} {ty : TypeId} {n : Nat} {f : Nat → Value} (h : RowAt w b ty n f) (i : Nat) (u : Value) : RowAt (w.setCell ⟨b, i, none⟩ u) b ty n (upd f i u) := by
  obtain ⟨arr, h1, h2, h3⟩ := h
  refine ⟨arr.setIfInBounds i u, block_set h1 i u, by simpa using h2, fun j hj => ?_⟩
  rw [Array.getElem?_setIfInBounds]
  by_cases e : i = j
  · subst e; rw [if_pos rfl, if_pos (by omega), upd_same]
  · rw [if_neg e, upd_ne _ _ _ (Ne.symm e)]; exact h3 j hj

inductive Role where
  | old | chk | asg | hol | rsn | rcs | lit (p : Nat) | map | sht | wat | wl (n : Int)

/-- Of the blocks that were there, those alone may have turned whose role S allows. -/
structure Frm (ρ : Nat → Role) (S : Role → Bool) (w w' : World) : Prop where
  os : w'.os = w.os
  tape : w'.tape = w.tape
  output : w'.output = w.output
  size : w.heap.size ≤ w'.heap.size
  block : ∀ k, k < w.heap.size → S (ρ k) = false → w'.heap[k]? = w.heap[k]?

section
variable {ρ ρ' : Nat → Role} {S T : Role → Bool} {a b c w w' : World}
theorem Frm.refl (ρ : Nat → Role) (S : Role → Bool) (w : World) : Frm ρ S w w := ⟨rfl, rfl, rfl, Nat.le_refl _, fun _ _ _ => rfl⟩
theorem Frm.trans (h : Frm ρ S a b) (k : Frm ρ' S b c) (e : ∀ i, i < a.heap.size → ρ' i = ρ i) : Frm ρ S a c :=
  ⟨k.os.trans h.os, k.tape.trans h.tape, k.output.trans h.output, Nat.le_trans h.size k.size, fun i hi hn => (k.block i (Nat.lt_of_lt_of_le hi h.size) (by rw [e i hi]; exact hn)).trans (h.block i hi hn)⟩
theorem Frm.mono (h : Frm ρ S a b) (e : ∀ r, T r = false → S r = false) : Frm ρ T a b := ⟨h.os, h.tape, h.output, h.size, fun k hk hn => h.block k hk (e _ hn)⟩
theorem Frm.alloc (h : Frm ρ S a w) (o : Obj) : Frm ρ S a (w.alloc o) :=
  h.trans (ρ' := ρ) ⟨rfl, rfl, rfl, by simp, fun k hk _ => Below.heap_alloc _ _ _ hk⟩ (fun _ _ => rfl)
theorem Frm.set (h : Frm ρ S a w) {p : Addr} (hp : p.block < a.heap.size → S (ρ p.block) = true) (u : Value) : Frm ρ S a (w.setCell p u) :=
  ⟨h.os, h.tape, h.output, by simpa [World.setCell] using h.size, fun k hk hn => (Below.heap_setCell _ _ _ _ (fun e => by subst e; rw [hp hk] at hn; cases hn)).trans (h.block k hk hn)⟩
theorem Frm.drewN (h : Frm ρ S a w) (n : Nat) : Frm ρ S a (w.drewN n) := ⟨h.os, h.tape, h.output, h.size, h.block⟩
theorem Frm.drew (h : Frm ρ S a w) : Frm ρ S a w.drew := ⟨h.os, h.tape, h.output, h.size, h.block⟩
theorem Frm.grown {row : Option Nat} (h : w.grownBy w' row) (e : ∀ k, row = some k → k < w.heap.size → S (ρ k) = true) : Frm ρ S w w' :=
  ⟨h.os, h.tape, h.output, h.size, fun k hk hn => h.block k hk fun hm => by rw [e k hm.symm hk] at hn; cases hn⟩
theorem Frm.below {B : Nat} (h : Below B w w') (hB : w.heap.size ≤ B) (hs : w.heap.size ≤ w'.heap.size) : Frm ρ S w w' :=
  ⟨h.os, h.tape, h.output, hs, fun k hk _ => h.block k (by omega)⟩
theorem Frm.belowOf (h : Frm ρ S w w') {B : Nat} (hB : B ≤ w.heap.size) (e : ∀ k, k < B → S (ρ k) = false) : Below B w w' :=
  ⟨h.os, h.tape, h.output, h.size, fun k hk => h.block k (by omega) (e k hk)⟩
end

theorem rowKeep {w w' : World} {b : Nat} {ty : TypeId} {n : Nat} {f : Nat → Value} {ρ : Nat → Role} {S : Role → Bool} (h : RowAt w b ty n f) (F : Frm ρ S w w') (hb : S (ρ b) = false) : RowAt w' b ty n f :=
  h.of_heap (F.block b h.lt hb)

/-- A slice of the checker's own: its block's role, its cells. -/
def OwnR (w : World) (ρ : Nat → Role) (r : Role) (ty : TypeId) (sz : Nat) (v : Value) (n : Nat) (xs : List Value) : Prop :=
  w.ownsRow 0 ty sz v n xs ∧ ∀ g, v.ownBlock = some g → ρ g = r
theorem owns_of_heap {w w' : World} {base : Nat} {e : TypeId} {size : Nat} {v : Value} {n : Nat} {xs : List Value} (h : w.ownsRow base e size v n xs) (hb : ∀ g, v.ownBlock = some g → w'.heap[g]? = w.heap[g]?) : w'.ownsRow base e size v n xs := by
  obtain ⟨h1, h2⟩ := h
  refine ⟨h1, ?_⟩
  rcases h2 with h2 | ⟨g, cap, cur, hv, hg, hh, r⟩
  · exact Or.inl h2
  · exact Or.inr ⟨g, cap, cur, hv, hg, by rw [hb g (by rw [hv]; rfl)]; exact hh, r⟩
theorem OwnR.keep {w w' : World} {ρ ρ' : Nat → Role} {r : Role} {ty : TypeId} {sz : Nat} {v : Value} {n : Nat} {xs : List Value} {S : Role → Bool} (h : OwnR w ρ r ty sz v n xs) (F : Frm ρ S w w') (hS : S r = false) (E : ∀ k, k < w.heap.size → ρ' k = ρ k) : OwnR w' ρ' r ty sz v n xs :=
  ⟨owns_of_heap h.1 fun g hg => F.block g (h.1.lt g hg).2 (by rw [h.2 g hg]; exact hS), fun g hg => by rw [E g (h.1.lt g hg).2]; exact h.2 g hg⟩

/-- An array of the checker's own, all of its cells in use. -/
def ArrR (w : World) (ρ : Nat → Role) (r : Role) (ty : TypeId) (v : Value) (n : Nat) (f : Nat → Value) : Prop :=
  ∃ b, v = .slice (some ⟨b, 0, none⟩) n n ∧ RowAt w b ty n f ∧ ρ b = r
theorem ArrR.keep {w w' : World} {ρ ρ' : Nat → Role} {r : Role} {ty : TypeId} {v : Value} {n : Nat} {f : Nat → Value} {S : Role → Bool} (h : ArrR w ρ r ty v n f) (F : Frm ρ S w w') (hS : S r = false) (E : ∀ k, k < w.heap.size → ρ' k = ρ k) : ArrR w' ρ' r ty v n f := by
  obtain ⟨b, h1, h2, h3⟩ := h
  exact ⟨b, h1, rowKeep h2 F (by rw [h3]; exact hS), by rw [E b h2.lt]; exact h3⟩

/-- A clause's literals: a slice of a block of their own (what lies behind them is not told). -/
def LitR (w : World) (ρ : Nat → Role) (p : Nat) (v : Value) (ls : List Int) : Prop :=
  ∃ a c, v = .slice a ls.length c ∧ (ls = [] ∨ ∃ g arr, a = some ⟨g, 0, none⟩ ∧ w.heap[g]? = some (.cells arr 3 (0, 0)) ∧ ρ g = .lit p ∧ ∀ i, i < ls.length → arr[i]? = some (.int .i64 ls[i]!))
theorem LitR.keep {w w' : World} {ρ ρ' : Nat → Role} {p : Nat} {v : Value} {ls : List Int} {S : Role → Bool} (h : LitR w ρ p v ls) (F : Frm ρ S w w') (hS : S (.lit p) = false) (E : ∀ k, k < w.heap.size → ρ' k = ρ k) : LitR w' ρ' p v ls := by
  obtain ⟨a, c, h1, h2⟩ := h
  refine ⟨a, c, h1, ?_⟩
  rcases h2 with h2 | ⟨g, arr, rfl, h3, h4, h5⟩
  · exact Or.inl h2
  · exact Or.inr ⟨g, arr, rfl, (F.block g (lt_of_block h3) (by rw [h4]; exact hS)).trans h3, by rw [E g (lt_of_block h3)]; exact h4, h5⟩

def encL (l : Int) : Value := .int .i64 l
def encN (l : Nat) : Value := .int .i64 (l : Int)
/-- The records' cells: a slice and a number each. -/
def recC (lv : Nat → Value) (cp : Nat → Nat) : Nat → List Value
  | 0 => []
  | n + 1 => recC lv cp n ++ [lv n, encN (cp n)]

/-- What a checker knows, without its memory. -/
structure St where
  V : Nat
  asg : List Int
  head : Nat
  val : Int → Bool
  rsn : Int → Int
  N : Nat
  lits : Nat → List Int
  cps : Nat → Nat
  plc : List UInt8 → Option Nat
  sh : List Nat
  wat : Int → List Nat
  conf : Int
  stale : Bool

/-- Where it lies. -/
structure Lay where
  ρ : Nat → Role
  s : Nat
  hd : Nat → Value
  watV : Nat → Value
  litV : Nat → Value

inductive Fld where
  | chk | vars | asg | head | hol | rsn | rcs | lts | plc | sht | wat | wls | conf | stl

/-- The map's datum tells the places. -/
def Plc (D : DataW Unit) (f : List UInt8 → Option Nat) : Prop :=
  Maps.IsMap D ∧ ∀ k, (∀ p, f k = some p → Maps.has D (.string k) = true ∧ D.atKey (.string k) (.lit (.int .i64 0)) = .lit (.int .i64 (p : Int))) ∧ (f k = none → Maps.has D (.string k) = false)

/-- One part of the memory. x: the literal whose list is under way. -/
def Comp (w : World) (Y : Lay) (σ : St) (x : Option Int) : Fld → Prop
  | .chk => RowAt w Y.s 58 11 Y.hd ∧ Y.ρ Y.s = .chk ∧ σ.V ≤ 100000 ∧ ∀ k, w.heap.size ≤ k → Y.ρ k = .old
  | .vars => Y.hd 0 = .int .i64 (σ.V : Int)
  | .asg => OwnR w Y.ρ .asg 3 1 (Y.hd 1) σ.asg.length (σ.asg.map encL)
  | .head => Y.hd 2 = .int .i64 (σ.head : Int)
  | .hol => ArrR w Y.ρ .hol 4 (Y.hd 3) (2 * σ.V + 1) (fun i => .bool (σ.val ((i : Int) - (σ.V : Int))))
  | .rsn => ArrR w Y.ρ .rsn 3 (Y.hd 4) (2 * σ.V + 1) (fun i => encL (σ.rsn ((i : Int) - (σ.V : Int))))
  | .rcs => OwnR w Y.ρ .rcs 72 2 (Y.hd 5) σ.N (recC Y.litV σ.cps σ.N)
  | .lts => ∀ p, p < σ.N → LitR w Y.ρ p (Y.litV p) (σ.lits p)
  | .plc => ∃ B D, Y.hd 6 = .map (some B) ∧ Y.ρ B = .map ∧ w.ownsMap Tryd.prog 9 (plainElem Tryd.prog 3) B σ.N D ∧ Plc D σ.plc
  | .sht => OwnR w Y.ρ .sht 3 1 (Y.hd 7) σ.sh.length (σ.sh.map encN)
  | .wat => ArrR w Y.ρ .wat 23 (Y.hd 8) (2 * σ.V + 1) Y.watV
  | .wls => ∀ n, In σ.V n → some n ≠ x → OwnR w Y.ρ (.wl n) 3 1 (Y.watV (ix σ.V n)) (σ.wat n).length ((σ.wat n).map encN)
  | .conf => Y.hd 9 = .int .i64 σ.conf ∧ -1 ≤ σ.conf ∧ σ.conf ≤ 9223372036854775807
  | .stl => Y.hd 10 = .bool σ.stale

def Mem (w : World) (Y : Lay) (σ : St) (x : Option Int) : Prop := ∀ f, Comp w Y σ x f

/-- Which roles S must leave alone that a part stays. -/
def Clr (S : Role → Bool) : Fld → Prop
  | .chk => S .chk = false
  | .asg => S .asg = false
  | .hol => S .hol = false
  | .rsn => S .rsn = false
  | .rcs => S .rcs = false
  | .lts => ∀ p, S (.lit p) = false
  | .plc => S .map = false
  | .sht => S .sht = false
  | .wat => S .wat = false
  | .wls => ∀ n, S (.wl n) = false
  | _ => True

theorem map_of_heap {H : Type} {w w' : World} {P : Program} {k : TypeId} {R : Value → Option (DataW H × List MemPlace)} {b n : Nat} {D : DataW H} (h : w.ownsMap P k R b n D) (e : w'.heap[b]? = w.heap[b]?) : w'.ownsMap P k R b n D := by
  obtain ⟨es, clock, hb, F, hs, hD⟩ := h
  exact ⟨es, clock, e.trans hb, F, hs, hD⟩

theorem Comp.keep {w w' : World} {Y : Lay} {σ : St} {x : Option Int} {S : Role → Bool} {ρ' : Nat → Role} {f : Fld} (h : Comp w Y σ x f) (F : Frm Y.ρ S w w') (E : ∀ k, k < w.heap.size → ρ' k = Y.ρ k) (D : ∀ k, w'.heap.size ≤ k → ρ' k = .old) (hS : Clr S f) : Comp w' { Y with ρ := ρ' } σ x f := by
  cases f with
  | chk => exact ⟨rowKeep h.1 F (by rw [h.2.1]; exact hS), by show ρ' Y.s = _; rw [E _ h.1.lt]; exact h.2.1, h.2.2.1, D⟩
  | asg => exact OwnR.keep h F hS E
  | hol => exact ArrR.keep h F hS E
  | rsn => exact ArrR.keep h F hS E
  | rcs => exact OwnR.keep h F hS E
  | lts => exact fun p hp => (h p hp).keep F (hS p) E
  | plc => obtain ⟨B, D, h1, h2, h3, h4⟩ := h
           exact ⟨B, D, h1, by show ρ' B = _; rw [E _ h3.lt]; exact h2, map_of_heap h3 (F.block B h3.lt (by rw [h2]; exact hS)), h4⟩
  | sht => exact OwnR.keep h F hS E
  | wat => exact ArrR.keep h F hS E
  | wls => exact fun n h0 h1 => (h n h0 h1).keep F (hS n) E
  | vars => exact h
  | head => exact h
  | conf => exact h
  | stl => exact h

/-- From one state of the memory to a later one. -/
structure Nxt (S : Role → Bool) (w : World) (Y : Lay) (w' : World) (Y' : Lay) : Prop where
  frm : Frm Y.ρ S w w'
  s : Y'.s = Y.s
  ext : ∀ k, k < w.heap.size → Y'.ρ k = Y.ρ k
theorem Nxt.refl (S : Role → Bool) (w : World) (Y : Lay) : Nxt S w Y w Y := ⟨Frm.refl _ _ _, rfl, fun _ _ => rfl⟩
theorem Nxt.trans {S : Role → Bool} {a b c : World} {X Y Z : Lay} (h : Nxt S a X b Y) (k : Nxt S b Y c Z) : Nxt S a X c Z :=
  ⟨h.frm.trans k.frm h.ext, k.s.trans h.s, fun i hi => (k.ext i (Nat.lt_of_lt_of_le hi h.frm.size)).trans (h.ext i hi)⟩
theorem Nxt.mono {S T : Role → Bool} {a b : World} {X Y : Lay} (h : Nxt S a X b Y) (e : ∀ r, T r = false → S r = false) : Nxt T a X b Y := ⟨h.frm.mono e, h.s, h.ext⟩
theorem Nxt.same {S : Role → Bool} {w w' : World} {Y : Lay} (F : Frm Y.ρ S w w') : Nxt S w Y w' Y := ⟨F, rfl, fun _ _ => rfl⟩
theorem Nxt.drewN {S : Role → Bool} {a b : World} {X Y : Lay} (h : Nxt S a X b Y) (n : Nat) : Nxt S a X (b.drewN n) Y := ⟨h.frm.drewN n, h.s, h.ext⟩
theorem Nxt.alloc {S : Role → Bool} {a b : World} {X Y : Lay} (h : Nxt S a X b Y) (o : Obj) : Nxt S a X (b.alloc o) Y := ⟨h.frm.alloc o, h.s, h.ext⟩

/-- All but the caller's. -/
def sAny : Role → Bool | .old => false | _ => true
theorem sAny_le {S : Role → Bool} (h : S .old = false) : ∀ r, sAny r = false → S r = false := by
  intro r hr; cases r <;> first | exact h | cases hr

section
variable {w w' : World} {Y : Lay} {σ : St} {x : Option Int}
theorem Mem.dom (h : Mem w Y σ x) (hs : w.heap.size ≤ w'.heap.size) : ∀ k, w'.heap.size ≤ k → Y.ρ k = .old := fun k hk => (h .chk).2.2.2 k (Nat.le_trans hs hk)
/-- What has changed nothing of the checker's. -/
theorem Mem.frm (h : Mem w Y σ x) (F : Frm Y.ρ (fun r => match r with | .old => true | _ => false) w w') : Mem w' Y σ x := by
  intro f
  have := (h f).keep (ρ' := Y.ρ) F (fun _ _ => rfl) (h.dom F.size) (by cases f <;> first | exact True.intro | rfl | exact fun _ => rfl)
  exact this
theorem Mem.drewN (h : Mem w Y σ x) (q : Nat) : Mem (w.drewN q) Y σ x := h.frm ((Frm.refl _ _ _).drewN q)
theorem Mem.drew (h : Mem w Y σ x) : Mem w.drew Y σ x := h.frm ((Frm.refl _ _ _).drew)
theorem Mem.alloc (h : Mem w Y σ x) (o : Obj) : Mem (w.alloc o) Y σ x := h.frm ((Frm.refl _ _ _).alloc o)
theorem Mem.below (h : Mem w Y σ x) (hb : Below w.heap.size w w') : Mem w' Y σ x := h.frm (Frm.below hb (Nat.le_refl _) hb.size)
theorem Mem.cell (h : Mem w Y σ x) (i : Nat) (hi : i < 11) : w.cell? ⟨Y.s, i, none⟩ = some (Y.hd i) := (h .chk).1.cell hi
theorem Mem.free (h : Mem w Y σ x) (i : Nat) : w.frozen? ⟨Y.s, i, none⟩ = false := (h .chk).1.free i
theorem Mem.slt (h : Mem w Y σ x) : Y.s < w.heap.size := (h .chk).1.lt
theorem Mem.srole (h : Mem w Y σ x) : Y.ρ Y.s = .chk := (h .chk).2.1
theorem Mem.nle (h : Mem w Y σ x) : σ.V ≤ 100000 := (h .chk).2.2.1
/-- A store into a block that is none of the checker's. -/
theorem Mem.other (h : Mem w Y σ x) {p : Addr} (hp : p.block < w.heap.size → Y.ρ p.block = .old) (u : Value) : Mem (w.setCell p u) Y σ x :=
  h.frm ((Frm.refl _ _ _).set (fun hk => by rw [hp hk]) u)
end
end Go.Proofs.YthpamogomfleoaaDoor.Rc
