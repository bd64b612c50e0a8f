/- Vectors and edges by what they are worth, as the laws carry them; the model of a law's numbers. -/
import Derived.Test.YtnkcdgpaphphaaaBtW
import Derived.Test.YtnkcdgpaphphaaaBtF
import Derived.Test.YtnkcdgpaphphaaaBtG
namespace Go.Proofs.Ytnkcdgpaphphaaa.Gr
open Go Go.RowKit Go.Lib Go.Maps

/-- A vector of n edges that is worth F. -/
structure VX (P : Prop) (w : World) (G : Loc) (L : List Nd) (a : Option Addr) (es : List Nat) (n : Nat) (F : (Nat → Bool) → List Bool) : Prop where
  vec : Vec w G a es
  len : es.length = n
  own : ∀ e ∈ es, e < 2 * (L.length + 1)
  val : ∀ m, es.map (Gr.val m L) = F m
  con : P → ∀ e ∈ es, e ≤ 1
/-- An edge that is worth g. -/
structure EX (P : Prop) (L : List Nd) (e : Nat) (g : (Nat → Bool) → Bool) : Prop where
  own : e < 2 * (L.length + 1)
  val : ∀ m, Gr.val m L e = g m
  con : P → e ≤ 1
theorem VX.op {P Q : Prop} {w w' : World} {G G' : Loc} {L L' : List Nd} {a : Option Addr} {es fs : List Nat} {n k : Nat} {F g : (Nat → Bool) → List Bool} (h : VX P w G L a es n F) (hf : Fr G w w' G') (ho : Out Q L k L' fs g) : VX P w' G' L' a es n F :=
  ⟨h.vec.fr hf, h.len, ho.lts h.own, fun m => (ho.olds h.own m).trans (h.val m), h.con⟩
theorem VX.after {P : Prop} {w w' : World} {G : Loc} {L : List Nd} {a : Option Addr} {es : List Nat} {n : Nat} {F : (Nat → Bool) → List Bool} (h : VX P w G L a es n F) (hb : Below w.heap.size w w') : VX P w' G L a es n F :=
  ⟨h.vec.below hb, h.len, h.own, h.val, h.con⟩
theorem EX.op {P Q : Prop} {L L' : List Nd} {e k : Nat} {fs : List Nat} {g : (Nat → Bool) → Bool} {f : (Nat → Bool) → List Bool} (h : EX P L e g) (ho : Out Q L k L' fs f) : EX P L' e g :=
  ⟨ho.lt h.own, fun m => (ho.old h.own m).trans (h.val m), h.con⟩
theorem VX.two {P : Prop} {w : World} {G : Loc} {L : List Nd} {a b : Option Addr} {xs ys : List Nat} {n : Nat} {F H : (Nat → Bool) → List Bool} (hr : Rep w G L) (hw : Wf L) (x : VX P w G L a xs n F) (y : VX P w G L b ys n H) (h2 : n ≤ 16) : Two w G P L a xs b ys :=
  ⟨hr, hw, x.vec, y.vec, by rw [x.len]; omega, by rw [y.len]; omega, x.own, y.own, fun p => ⟨x.con p, y.con p⟩⟩

/-- A vector that a call answers. -/
def VXE (w : World) (G : Loc) (P : Prop) (L : List Nd) (k n : Nat) (F : (Nat → Bool) → List Bool) (e : Ending) (w' : World) : Prop :=
  ∃ (b c : Nat) (G' : Loc) (L' : List Nd) (es : List Nat), e = .returned (.slice (some ⟨b, 0, none⟩) n c) ∧ Rep w' G' L' ∧ Fr G w w' G' ∧ VX P w' G' L' (some ⟨b, 0, none⟩) es n F ∧ Out P L k L' es F
/-- An edge that a call answers. -/
def EXE (w : World) (G : Loc) (P : Prop) (L : List Nd) (k : Nat) (g : (Nat → Bool) → Bool) (e : Ending) (w' : World) : Prop :=
  ∃ (G' : Loc) (L' : List Nd) (c : Nat), e = .returned (.int .i64 (c : Int)) ∧ Rep w' G' L' ∧ Fr G w w' G' ∧ EX P L' c g ∧ Out P L k L' [c] (fun m => [g m])
theorem OwnE.vxe {w : World} {G : Loc} {P : Prop} {L : List Nd} {k n : Nat} {F : (Nat → Bool) → List Bool} {e : Ending} {w' : World} (h : OwnE w G P L k n F e w') (hn : 1 ≤ n) : VXE w G P L k n F e w' := by
  obtain ⟨b, c, G', L', es, h1, h2, h3, h4, h5, h6⟩ := h
  rw [← h2] at h5
  obtain ⟨b', c', e', _, _, _, _, _, q, _⟩ := h5.form (by omega)
  cases e'
  exact ⟨b, c, G', L', es, h1, h3, h4, ⟨q, h2, h6.own, h6.val, fun p => (h6.con p).2⟩, h6⟩
theorem RowE.vxe {w : World} {G : Loc} {P : Prop} {L : List Nd} {k n : Nat} {F : (Nat → Bool) → List Bool} {e : Ending} {w' : World} (h : RowE w G P L k n F e w') (hn : 1 ≤ n) (h2 : n ≤ 16) : VXE w G P L k n F e w' := (h.own h2).vxe hn
theorem VXE.congr {w : World} {G : Loc} {P : Prop} {L : List Nd} {k n : Nat} {F F' : (Nat → Bool) → List Bool} {e : Ending} {w' : World} (h : VXE w G P L k n F e w') (q : ∀ m, F m = F' m) : VXE w G P L k n F' e w' := by
  obtain rfl : F = F' := funext q
  exact h
theorem VXE.more {w : World} {G : Loc} {P : Prop} {L : List Nd} {k k' n : Nat} {F : (Nat → Bool) → List Bool} {e : Ending} {w' : World} (h : VXE w G P L k n F e w') (q : k ≤ k') : VXE w G P L k' n F e w' := by
  obtain ⟨b, c, G', L', es, h1, h2, h3, h4, h5⟩ := h
  exact ⟨b, c, G', L', es, h1, h2, h3, h4, h5.more q⟩
theorem EdgE.exe {w : World} {G : Loc} {P : Prop} {L : List Nd} {k : Nat} {g g' : (Nat → Bool) → Bool} {e : Ending} {w' : World} (h : EdgE w G P L k g e w') (q : ∀ m, g m = g' m) : EXE w G P L k g' e w' := by
  obtain rfl : g = g' := funext q
  obtain ⟨G', L', c, h1, h2, h3, h4⟩ := h
  exact ⟨G', L', c, h1, h2, h3, ⟨h4.own c (by simp), fun m => by have := h4.val m; simpa using this, fun p => (h4.con p).2 c (by simp)⟩, h4⟩

section
variable {P : Prop} {w : World} {G : Loc} {L : List Nd} {a b : Option Addr} {xs ys : List Nat} {n : Nat} {F H : (Nat → Bool) → List Bool}
theorem add_vx (hr : Rep w G L) (hw : Wf L) (x : VX P w G L a xs n F) (y : VX P w G L b ys n H) (h1 : 1 ≤ n) (h2 : n ≤ 16) (hl : L.length < 80000) (c c2 : Nat) :
    Calls Try.prog 45 #[.pointer (some ⟨G.h, 0, none⟩), .slice a n c, .slice b n c2] w (VXE w G P L 4200 n (fun m => doF 0 (F m) (H m))) := by
  have hd := wd_same x.len y.len h1 h2
  have A := Add_any a xs c b ys c2 (VX.two hr hw x y h2) (by omega)
  rw [hd.1, hd.2.1, hd.2.2, x.len, y.len] at A
  exact A.mono fun e w' h => ((h.vxe h1 h2).more (by omega)).congr fun m => by rw [x.val, y.val]; rfl
theorem sub_vx (hr : Rep w G L) (hw : Wf L) (x : VX P w G L a xs n F) (y : VX P w G L b ys n H) (h1 : 1 ≤ n) (h2 : n ≤ 16) (hl : L.length < 80000) (c c2 : Nat) :
    Calls Try.prog 46 #[.pointer (some ⟨G.h, 0, none⟩), .slice a n c, .slice b n c2] w (VXE w G P L 4200 n (fun m => doF 1 (F m) (H m))) := by
  have hd := wd_same x.len y.len h1 h2
  have A := Sub_any a xs c b ys c2 (VX.two hr hw x y h2) (by omega)
  rw [hd.1, hd.2.1, hd.2.2, x.len, y.len] at A
  exact A.mono fun e w' h => ((h.vxe h1 h2).more (by omega)).congr fun m => by rw [x.val, y.val]; rfl
theorem mul_vx (hr : Rep w G L) (hw : Wf L) (x : VX P w G L a xs n F) (y : VX P w G L b ys n H) (h1 : 1 ≤ n) (h2 : n ≤ 16) (hl : L.length < 80000) (c c2 : Nat) :
    Calls Try.prog 47 #[.pointer (some ⟨G.h, 0, none⟩), .slice a n c, .slice b n c2] w (VXE w G P L 4200 n (fun m => doF 2 (F m) (H m))) := by
  have hd := wd_same x.len y.len h1 h2
  have A := Mul_any a xs c b ys c2 (VX.two hr hw x y h2) (by omega)
  rw [hd.1, hd.2.1, hd.2.2, x.len, y.len] at A
  exact A.mono fun e w' h => ((h.vxe h1).more (by omega)).congr fun m => by rw [x.val, y.val]; rfl
theorem div_vx (hr : Rep w G L) (hw : Wf L) (x : VX P w G L a xs n F) (y : VX P w G L b ys n H) (h1 : 1 ≤ n) (h2 : n ≤ 16) (hl : L.length < 80000) (c c2 : Nat) :
    Calls Try.prog 48 #[.pointer (some ⟨G.h, 0, none⟩), .slice a n c, .slice b n c2] w (VXE w G P L 4200 n (fun m => doF 3 (F m) (H m))) := by
  have hd := wd_same x.len y.len h1 h2
  have A := Div_any a xs c b ys c2 (VX.two hr hw x y h2) (by omega)
  rw [hd.1, hd.2.1, hd.2.2, x.len, y.len] at A
  exact A.mono fun e w' h => ((h.vxe h1 h2).more (by omega)).congr fun m => by rw [x.val, y.val]; rfl
theorem rem_vx (hr : Rep w G L) (hw : Wf L) (x : VX P w G L a xs n F) (y : VX P w G L b ys n H) (h1 : 1 ≤ n) (h2 : n ≤ 16) (hl : L.length < 80000) (c c2 : Nat) :
    Calls Try.prog 49 #[.pointer (some ⟨G.h, 0, none⟩), .slice a n c, .slice b n c2] w (VXE w G P L 4200 n (fun m => doF 4 (F m) (H m))) := by
  have hd := wd_same x.len y.len h1 h2
  have A := Rem_any a xs c b ys c2 (VX.two hr hw x y h2) (by omega)
  rw [hd.1, hd.2.1, hd.2.2, x.len, y.len] at A
  exact A.mono fun e w' h => ((h.vxe h1 h2).more (by omega)).congr fun m => by rw [x.val, y.val]; rfl
theorem same_ex (hr : Rep w G L) (hw : Wf L) (x : VX P w G L a xs n F) (y : VX P w G L b ys n H) (h1 : 1 ≤ n) (h2 : n ≤ 16) (hl : L.length < 80000) (c c2 : Nat) :
    Calls Try.prog 38 #[.pointer (some ⟨G.h, 0, none⟩), .slice a n c, .slice b n c2] w (EXE w G P L 64 (fun m => decide (F m = H m))) := by
  have hd := wd_same x.len y.len h1 h2
  have A := Same_any a xs c b ys c2 (VX.two hr hw x y h2) (by omega)
  rw [hd.2.1, hd.2.2, x.len, y.len] at A
  exact A.mono fun e w' h => h.exe fun m => by rw [x.val, y.val]
theorem less_ex (hr : Rep w G L) (hw : Wf L) (x : VX P w G L a xs n F) (y : VX P w G L b ys n H) (h1 : 1 ≤ n) (h2 : n ≤ 16) (hl : L.length < 80000) (c c2 : Nat) :
    Calls Try.prog 39 #[.pointer (some ⟨G.h, 0, none⟩), .slice a n c, .slice b n c2] w (EXE w G P L 64 (fun m => lessS (F m) (H m))) := by
  have hd := wd_same x.len y.len h1 h2
  have A := Less_any a xs c b ys c2 (VX.two hr hw x y h2) (by omega)
  rw [hd.2.1, hd.2.2, x.len, y.len] at A
  exact A.mono fun e w' h => h.exe fun m => by rw [x.val, y.val]
theorem some_ex (hr : Rep w G L) (hw : Wf L) (x : VX P w G L a xs n F) (h1 : 1 ≤ n) (h2 : n ≤ 16) (hl : L.length < 80000) (c : Nat) :
    Calls Try.prog 40 #[.pointer (some ⟨G.h, 0, none⟩), .slice a n c] w (EXE w G P L 16 (fun m => (F m).any id)) := by
  have A := Some_any hr hw a xs c x.vec (by rw [x.len]; omega) x.own x.con (by omega)
  rw [x.len, vecE_of (by rw [x.len]; exact h1) (by rw [x.len]; exact h2)] at A
  exact A.mono fun e w' h => h.exe fun m => by rw [x.val]
end

/-! ### The model -/
/-- A row of bools that the call made. -/
def OwnB (W w : World) (v : Value) (bs : List Bool) : Prop := w.ownsRow W.heap.size 4 1 v bs.length (bs.map Value.bool)
theorem OwnB.of_row {W w : World} {b n : Nat} {bs : List Bool} {f : Nat → Bool} (h : RowAt w b 4 n (fun i => .bool (f i))) (hb : W.heap.size ≤ b) (hn : bs.length = n) (hv : ∀ i, i < n → bs.getD i false = f i) (hm : n ≤ 1000) : OwnB W w (.slice (some ⟨b, 0, none⟩) n n) bs := by
  obtain ⟨arr, h1, h2, h3⟩ := h
  refine ⟨by simp, Or.inr ⟨b, n, arr, by rw [hn], hb, h1, by omega, by unfold maxLen; omega, by omega, ?_⟩⟩
  apply List.ext_getElem?
  intro i
  rw [List.getElem?_take, List.getElem?_map]
  by_cases q : i < n
  · have hb : i < bs.length := by omega
    rw [if_pos (by omega), show bs[i]? = some bs[i] from List.getElem?_eq_getElem hb]
    have := h3 i q
    rw [show arr.toList[i]? = arr[i]? by simp, this]
    show some (Value.bool (f i)) = _
    rw [← hv i q]
    simp [hb]
  · rw [if_neg (by omega), show bs[i]? = none from List.getElem?_eq_none (by omega)]; rfl
theorem OwnB.arg {W w : World} {v : Value} {bs : List Bool} (h : OwnB W w v bs) (hn : 0 < bs.length) : ∃ b c, v = .slice (some ⟨b, 0, none⟩) bs.length c ∧ W.heap.size ≤ b ∧ b < w.heap.size ∧ ArgV (fun j => .bool (bs.getD j false)) w (some ⟨b, 0, none⟩) bs.length := by
  obtain ⟨b, c, e, h1, h2⟩ := World.ownsRow.form h hn
  have ho := h
  unfold OwnB at ho
  rw [e] at ho
  refine ⟨b, c, e, h1, h2, Or.inr ⟨b, 0, rfl, h2, fun j hj => ?_⟩⟩
  rw [Nat.zero_add]
  refine own_cell ho ?_
  rw [List.getElem?_map, List.getElem?_eq_getElem hj]
  simp [hj]
theorem OwnB.below {W w w' : World} {v : Value} {bs : List Bool} (h : OwnB W w v bs) (hb : Below w.heap.size w w') : OwnB W w' v bs := owns_of_heap h fun g hg => hb.block g (World.ownsRow.lt h g hg).2
/-- A model that lies where the graph doesn't write. -/
def ModV (w : World) (G : Loc) (a : Option Addr) (bs : List Bool) : Prop := ∃ b, a = some ⟨b, 0, none⟩ ∧ b < w.heap.size ∧ ¬ G.has b ∧ ∀ j, j < bs.length → w.cell? ⟨b, j, none⟩ = some (.bool (bs.getD j false))
theorem ModV.fr {w w' : World} {G G' : Loc} {a : Option Addr} {bs : List Bool} (h : ModV w G a bs) (f : Fr G w w' G') : ModV w' G' a bs := by
  obtain ⟨b, rfl, h1, h2, h3⟩ := h
  refine ⟨b, rfl, Nat.lt_of_lt_of_le h1 f.size, fun q => ?_, fun j hj => (cell_of_heap (f.block b h1 h2) _).trans (h3 j hj)⟩
  rcases f.own b q with q | q
  · exact h2 q
  · omega
theorem ModV.arg {w : World} {G : Loc} {a : Option Addr} {bs : List Bool} (h : ModV w G a bs) : ArgV (fun j => .bool (bs.getD j false)) w a bs.length := by
  obtain ⟨b, rfl, h1, _, h3⟩ := h
  exact Or.inr ⟨b, 0, rfl, h1, fun j hj => by rw [Nat.zero_add]; exact h3 j hj⟩
/-- The inputs' values by a list of bools. -/
def mdlL (bs : List Bool) : Nat → Bool := mdl (fun j => bs.getD j false) bs.length
theorem mdl_part (p q r : List Bool) : (List.range q.length).map (fun i => mdlL (p ++ q ++ r) (p.length + i)) = q := by
  apply List.ext_getElem
  · simp
  · intro i h1 h2
    simp only [List.getElem_map, List.getElem_range]
    show (decide (p.length + i < (p ++ q ++ r).length) && (p ++ q ++ r).getD (p.length + i) false) = _
    have : p.length + i < (p ++ q ++ r).length := by simp; omega
    rw [decide_eq_true this, Bool.true_and, List.getD_eq_getElem?_getD, List.getElem?_append_left (by simp; omega), List.getElem?_append_right (by omega), Nat.add_sub_cancel_left, List.getElem?_eq_getElem h2]
    rfl
end Go.Proofs.Ytnkcdgpaphphaaa.Gr
