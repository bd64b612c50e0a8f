/- The document's own graph and maker of layer 7: told, New, Var, lit. -/
import Derived.Test.YtbggenilngpjcaaCnG
import Derived.Test.YtbggenilngpjcaaGrRef
namespace Go.Proofs.Ytbggenilngpjcaa.Cn
open Go Go.RowKit Go.Lib Go.Maps Go.Proofs.Ytbggenilngpjcaa.Gr

/-- Of the blocks that were there those of A alone may have turned; those of B were A's, or are new. -/
structure XFr (A : Nat → Prop) (w w' : World) (B : Nat → Prop) : Prop where
  os : w'.os = w.os
  tape : w'.tape = w.tape
  output : w'.output = w.output
  size : w.heap.size ≤ w'.heap.size
  block : ∀ k, k < w.heap.size → ¬ A k → w'.heap[k]? = w.heap[k]?
  own : ∀ k, B k → A k ∨ w.heap.size ≤ k
theorem XFr.refl (A : Nat → Prop) (w : World) : XFr A w w A := ⟨rfl, rfl, rfl, Nat.le_refl _, fun _ _ _ => rfl, fun _ h => Or.inl h⟩
theorem XFr.trans {A B C : Nat → Prop} {w w' w'' : World} (a : XFr A w w' B) (b : XFr B w' w'' C) : XFr A w w'' C :=
  ⟨b.os.trans a.os, b.tape.trans a.tape, b.output.trans a.output, Nat.le_trans a.size b.size,
    fun k hk hn => (b.block k (Nat.lt_of_lt_of_le hk a.size) (fun q => (a.own k q).elim hn (fun r => by omega))).trans (a.block k hk hn),
    fun k hk => (b.own k hk).elim (fun q => a.own k q) (fun q => Or.inr (Nat.le_trans a.size q))⟩
theorem XFr.ofBelow {A : Nat → Prop} {w w' : World} (a : Below w.heap.size w w') : XFr A w w' A := ⟨a.os, a.tape, a.output, a.size, fun k hk _ => a.block k hk, fun _ h => Or.inl h⟩
theorem XFr.below {A B : Nat → Prop} {w w' : World} (a : XFr A w w' B) {b : Nat} (hb : b ≤ w.heap.size) (hA : ∀ k, A k → b ≤ k) : Below b w w' :=
  ⟨a.os, a.tape, a.output, a.size, fun k hk => a.block k (by omega) fun q => by have := hA k q; omega⟩
theorem XFr.from {A B : Nat → Prop} {w w' : World} (a : XFr A w w' B) {b : Nat} (hb : b ≤ w.heap.size) (hA : ∀ k, A k → b ≤ k) : ∀ k, B k → b ≤ k :=
  fun k hk => (a.own k hk).elim (hA k) fun q => by omega
theorem XFr.keep {A B C : Nat → Prop} {w w' : World} (a : XFr A w w' B) (hC : ∀ k, C k → k < w.heap.size) (hd : ∀ k, C k → ¬ A k) : (∀ k, C k → w'.heap[k]? = w.heap[k]?) ∧ ∀ k, C k → ¬ B k :=
  ⟨fun k hk => a.block k (hC k hk) (hd k hk), fun k hk q => (a.own k q).elim (hd k hk) fun r => by have := hC k hk; omega⟩
theorem MFr.x {M M' : MLoc} {w w' : World} (a : MFr M w w' M') : XFr M.has w w' M'.has := ⟨a.os, a.tape, a.output, a.size, a.block, a.own⟩

/-! ### told -/
/-- What told answers: the same graph, as the document has it. -/
def ToldE (w : World) (L : List Nd) (e : Ending) (w' : World) : Prop := ∃ r lv, e = .returned (.pointer (some ⟨r, 0, none⟩)) ∧ RRep w' r lv L ∧ Below w.heap.size w w' ∧ w.heap.size ≤ r ∧ ∀ k, lv.ownBlock = some k → w.heap.size ≤ k
def ToldI (w : World) (L : List Nd) (k : Nat) (wr : World) : Prop := ∃ lv, RRep wr w.heap.size lv (L.take k) ∧ Below w.heap.size w wr ∧ ∀ k, lv.ownBlock = some k → w.heap.size ≤ k

theorem ToldI.push {w wr w2 w3 : World} {L : List Nd} {k : Nat} {d : Nd} (h : ToldI w L k wr) (hd : L[k]? = some d) (hb : Below wr.heap.size wr w2) (o : Obj) {lv : Value} (hlv : wr.cell? ⟨w.heap.size, 0, none⟩ = some lv) {g cap : Nat}
    (hgrow : (w2.alloc o).grownBy w3 lv.ownBlock) (hat : lv.ownBlock = some g ∨ g = w2.heap.size + 1) (hown : w3.ownsRow 0 62 3 (.slice (some ⟨g, 0, none⟩) (k + 1) cap) (k + 1) ((L.take k).flatMap refC ++ refC d)) :
    ToldI w L (k + 1) (w3.setCell ⟨w.heap.size, 0, none⟩ (.slice (some ⟨g, 0, none⟩) (k + 1) cap)) := by
  obtain ⟨lv', h1, h2, h3⟩ := h
  obtain rfl : lv' = lv := Option.some.inj (h1.c0.symm.trans hlv)
  have hk : k < L.length := (List.getElem?_eq_some_iff.1 hd).1
  have hl : (L.take k).length = k := by rw [List.length_take]; omega
  have hb2 : Below wr.heap.size wr (w2.alloc o) := hb.alloc hb.size o
  have R := (h1.below hb2).push (d := d) (g := g) (cap := cap) (w3 := w3) hgrow (hat.imp id (fun e => by simp; omega)) (by rw [hl]; exact hown)
  rw [hl] at R
  have e1 : L.take (k + 1) = L.take k ++ [d] := by rw [List.take_add_one, hd]; rfl
  refine ⟨_, by rw [e1]; exact R.1, ?_, fun j hj => ?_⟩
  · have hs := h2.size
    refine h2.trans ((hb2.mono hs).trans ⟨R.2.os, R.2.tape, R.2.output, R.2.size, fun j hj => R.2.block j (by have := hb2.size; omega) (by omega) (fun q => ?_)⟩)
    have := h3 j q; omega
  · rcases R.2.own j hj with q | q
    · exact h3 j q
    · have := hb2.size; have := h2.size; omega

set_option maxRecDepth 100000 in
set_option maxHeartbeats 4000000 in
theorem told_any {w : World} {G : Gr.Loc} {L : List Nd} (h : Rep w G L) (hW : Wf L) (hl : L.length ≤ 400) :
    Calls Try.prog 8 #[.pointer (some ⟨G.h, 0, none⟩)] w (ToldE w L) := by
  have HR := Lib.hid (And.intro h hW)
  have START : Hid (ToldI w L (1 - 1) (w.alloc (.cells #[.slice none 0 0] 60))) := by
    refine ⟨.slice none 0 0, ⟨⟨_, heap_alloc_new w _, rfl, fun i hi => ?_⟩, World.ownsRow_nil _ _ _ _, by simp [Value.ownBlock]⟩, (Below.refl _ _).alloc (Nat.le_refl _) _, fun k hk => by simp [Value.ownBlock] at hk⟩
    obtain rfl : i = 0 := by omega
    rfl
  obtain ⟨N, hN⟩ : ∃ N, N = L.length + 1 := ⟨_, rfl⟩
  have HND : Hid (∀ w', Below w.heap.size w w' → Calls Try.prog 30 #[.pointer (some ⟨G.h, 0, none⟩)] w' fun e w'' => e = .returned (.int .i64 (N : Int)) ∧ w' = w'') := fun w' hb => Nodes_any (h.below hb (Nat.le_refl _)) N hN
  have HNO : Hid (∀ w' (n : Nat), Below w.heap.size w w' → n < L.length + 1 → Calls Try.prog 21 #[.pointer (some ⟨G.h, 0, none⟩), .int .i64 (n : Int)] w' fun e w'' => e = .returned (.tuple #[.int .i64 (lo (nd L n) : Int), .int .i64 (Gr.hi (nd L n) : Int), .bool (nd L n).isSome]) ∧ Below w'.heap.size w' w'') := fun w' n hb hn => by
    have := Node_any (h.below hb (Nat.le_refl _)) hW (n : Int) (by omega) (by omega)
    rw [ndI_nat hn] at this; exact this
  have HNN := Lib.hid hN
  have N9 : (N : Int) ≤ 401 := by omega
  have HWF := Lib.hid hW
  clear h hW hN
  go_enter Try.func8, Try.ntmps8
  go_wp2_with fail
  go_loopw [4] (fun iv wr => ∃ n : Nat, iv = .int .i64 (n : Int) ∧ 1 ≤ n ∧ n ≤ N ∧ Hid (ToldI w L (n - 1) wr)) (fun iv _ => N - (intOf iv).toNat)
  case atStart => exact ⟨1, rfl, Nat.le_refl _, by have := HNN.out; omega, START⟩
  case round =>
    obtain ⟨n, rfl, hn1, hn2, HH⟩ := hrel
    obtain ⟨lv, r1, r2, r3⟩ := HH.out
    have HD := Lib.hid (HND.out wr r2)
    by_cases hlt : n < N
    · have hlz : (n : Int) < (N : Int) := by omega
      obtain ⟨d, hd⟩ : ∃ d, L[n - 1]? = some d := ⟨_, List.getElem?_eq_getElem (by have := HNN.out; omega)⟩
      have hnd : nd L n = d := by
        obtain ⟨q, rfl⟩ : ∃ q, n = q + 1 := ⟨n - 1, by omega⟩
        rw [nd_succ, show L[q]? = some d from hd]; rfl
      have HO := HNO.out wr n r2 (by have := HNN.out; omega)
      rw [hnd] at HO
      obtain ⟨ga, gc, elv, c0⟩ := r1.form
      have hl2 : (L.take (n - 1)).length = n - 1 := by rw [List.length_take]; have := HNN.out; omega
      rw [hl2] at elv c0
      obtain ⟨k, hk⟩ : ∃ k, k = n - 1 := ⟨_, rfl⟩
      rw [← hk] at elv c0 HH hd r1 hl2
      have z0 := r1.head.free 0
      have hs := r1.head.lt
      have hne := Ne.symm r1.hn
      have ho := r1.nodes
      rw [hl2] at ho
      rw [elv] at ho hne
      have HOW := Lib.hid ho
      have HST : Hid (∀ w2 w3 o g cap, Below wr.heap.size wr w2 → (w2.alloc o).grownBy w3 (Value.slice ga k gc).ownBlock → ((Value.slice ga k gc).ownBlock = some g ∨ g = w2.heap.size + 1) → w3.ownsRow 0 62 3 (.slice (some ⟨g, 0, none⟩) (k + 1) cap) (k + 1) ((L.take k).flatMap refC ++ refC d) → Hid (ToldI w L (k + 1) (w3.setCell ⟨w.heap.size, 0, none⟩ (.slice (some ⟨g, 0, none⟩) (k + 1) cap)))) :=
        fun w2 w3 o g cap q1 q2 q3 q4 => HH.out.push hd q1 o c0 q2 q3 q4
      have HKN : Hid (k + 1 = n) := by show _ = _; omega
      have n500 : ¬ (500 : Int) < (n : Int) := by omega
      have k9 : k ≤ 400 := by omega
      have HLN : Hid (k + 1 ≤ maxLen ∧ (k + 1) * 24 ≤ 140737488355328) := ⟨by unfold maxLen; omega, by omega⟩
      obtain ⟨ii, hi, hz0, hz1, hz2⟩ := info_parts infoNode
      cases d with
      | none =>
        have HO2 : Hid (Calls Try.prog 21 #[.pointer (some ⟨G.h, 0, none⟩), .int .i64 (n : Int)] wr fun e w'' => e = .returned (.tuple #[.int .i64 0, .int .i64 0, .bool false]) ∧ Below wr.heap.size wr w'') := HO
        have np : ¬ (n : Int) ≤ 0 := by omega
        clear HO HH r1 r2 r3 ho elv hk hl2 hd hnd START
        go_wp2_with fail
        refine HD.out.mono ?_
        rintro e w' ⟨rfl, rfl⟩
        go_wp2_with fail
        refine HO2.out.mono ?_
        rintro e w2 ⟨rfl, hb⟩
        have c02 : w2.cell? ⟨w.heap.size, 0, none⟩ = some (.slice ga k gc) := (hb.cell (p := ⟨w.heap.size, 0, none⟩) hs).trans c0
        have z02 : w2.frozen? ⟨w.heap.size, 0, none⟩ = false := (hb.frozen (p := ⟨w.heap.size, 0, none⟩) hs).trans z0
        have hs2 : w.heap.size < w2.heap.size := Nat.lt_of_lt_of_le hs hb.size
        have HOW2 : Hid (w2.ownsRow 0 62 3 (.slice ga k gc) k ((L.take k).flatMap refC)) := owns_of_heap HOW.out fun j hj => hb.block j (HOW.out.lt j hj).2
        have HST2 := Lib.hid (fun w3 o g cap => HST.out w2 w3 o g cap hb)
        clear hb c0 z0 hs
        go_wp2_with (at_builtin; refine wpList_append_lies _ rfl _ _ 58 rfl 0 62 ii _ 3 24 Try.underlying58 hi hz0 hz1 hz2 rfl (by decide) _ _ _ rfl (HOW2.out.alloc _) ⟨w2.heap.size, 0, none⟩ 1 1 [.bool true, .int .i64 0, .int .i64 0] rfl rfl (World.news_of_block (cs := #[.bool true, .int .i64 0, .int .i64 0]) (t := 62) (fr := (0, 0)) (heap_alloc_new w2 _)) (by simp [Value.oneCell']) (by decide) HLN.out.1 HLN.out.2 (Nat.zero_le _) (w2.heap.size + 1) (by simp) ?_; intro g cap w3 hown hgrow hat hlt1; have cl := hgrow.cell ((World.cell?_of_block (a := ⟨w.heap.size, 0, none⟩) (Below.heap_alloc w2 _ _ hs2)).trans c02) hne; have fz := (hgrow.frozen_far ⟨w.heap.size, 0, none⟩ (by simp; omega) hne).trans ((World.frozen?_of_block (Below.heap_alloc w2 _ _ hs2)).trans z02))
        have HF := HST2.out w3 _ g cap hgrow hat hown
        clear hown hgrow hat hlt1
        go_wp2_with fail
        go_roundw
        case rel => exact ⟨n + 1, by go_num, by omega, by omega, by rw [Nat.add_sub_cancel, ← HKN.out]; exact HF⟩
        case measure => simp [intOf]; omega
      | some p =>
        obtain ⟨a, b⟩ := p
        obtain ⟨q1, q2, q3, _⟩ := nd_pair HWF.out hnd
        have HO2 : Hid (Calls Try.prog 21 #[.pointer (some ⟨G.h, 0, none⟩), .int .i64 (n : Int)] wr fun e w'' => e = .returned (.tuple #[.int .i64 (a : Int), .int .i64 (b : Int), .bool true]) ∧ Below wr.heap.size wr w'') := HO
        obtain ⟨x, hx⟩ : ∃ x, x = a / 2 := ⟨_, rfl⟩
        obtain ⟨y, hy⟩ : ∃ y, y = b / 2 := ⟨_, rfl⟩
        have hda : (a : Int).tdiv 2 = (x : Int) := by rw [Int.tdiv_eq_ediv_of_nonneg (by omega), hx]; omega
        have hdb : (b : Int).tdiv 2 = (y : Int) := by rw [Int.tdiv_eq_ediv_of_nonneg (by omega), hy]; omega
        have a0 : ¬ (a : Int) < 0 := by omega
        have b0 : ¬ (b : Int) < 0 := by omega
        have a9 : (a : Int) ≤ 1000 := by omega
        have b9 : (b : Int) ≤ 1000 := by omega
        have x9 : (x : Int) ≤ 1000 := by omega
        have y9 : (y : Int) ≤ 1000 := by omega
        have xn : ¬ n ≤ x := by omega
        have yn : ¬ n ≤ y := by omega
        have xn1 : (x : Int) < (n : Int) := by omega
        have yn1 : (y : Int) < (n : Int) := by omega
        clear HO HH r1 r2 r3 ho elv hk hl2 hd hnd START hx hy q1 q2 q3
        go_wp2_with fail
        refine HD.out.mono ?_
        rintro e w' ⟨rfl, rfl⟩
        go_wp2_with fail
        refine HO2.out.mono ?_
        rintro e w2 ⟨rfl, hb⟩
        have c02 : w2.cell? ⟨w.heap.size, 0, none⟩ = some (.slice ga k gc) := (hb.cell (p := ⟨w.heap.size, 0, none⟩) hs).trans c0
        have z02 : w2.frozen? ⟨w.heap.size, 0, none⟩ = false := (hb.frozen (p := ⟨w.heap.size, 0, none⟩) hs).trans z0
        have hs2 : w.heap.size < w2.heap.size := Nat.lt_of_lt_of_le hs hb.size
        have HOW2 : Hid (w2.ownsRow 0 62 3 (.slice ga k gc) k ((L.take k).flatMap refC)) := owns_of_heap HOW.out fun j hj => hb.block j (HOW.out.lt j hj).2
        have HST2 := Lib.hid (fun w3 o g cap => HST.out w2 w3 o g cap hb)
        clear hb c0 z0 hs
        go_wp2_with (at_builtin; refine wpList_append_lies _ rfl _ _ 58 rfl 0 62 ii _ 3 24 Try.underlying58 hi hz0 hz1 hz2 rfl (by decide) _ _ _ rfl (HOW2.out.alloc _) ⟨w2.heap.size, 0, none⟩ 1 1 [.bool false, .int .i64 (a : Int), .int .i64 (b : Int)] rfl rfl (World.news_of_block (cs := #[.bool false, .int .i64 (a : Int), .int .i64 (b : Int)]) (t := 62) (fr := (0, 0)) (heap_alloc_new w2 _)) (by simp [Value.oneCell']) (by decide) HLN.out.1 HLN.out.2 (Nat.zero_le _) (w2.heap.size + 1) (by simp) ?_; intro g cap w3 hown hgrow hat hlt1; have cl := hgrow.cell ((World.cell?_of_block (a := ⟨w.heap.size, 0, none⟩) (Below.heap_alloc w2 _ _ hs2)).trans c02) hne; have fz := (hgrow.frozen_far ⟨w.heap.size, 0, none⟩ (by simp; omega) hne).trans ((World.frozen?_of_block (Below.heap_alloc w2 _ _ hs2)).trans z02))
        have HF := HST2.out w3 _ g cap hgrow hat hown
        clear hown hgrow hat hlt1
        go_wp2_with fail
        go_roundw
        case rel => exact ⟨n + 1, by go_num, by omega, by omega, by rw [Nat.add_sub_cancel, ← HKN.out]; exact HF⟩
        case measure => simp [intOf]; omega
    · obtain rfl : n = N := by omega
      have hlz : ¬ (n : Int) < (n : Int) := by omega
      have HFIN : Hid (ToldE w L (.returned (.pointer (some ⟨w.heap.size, 0, none⟩))) wr) := by
        have e : L.take (n - 1) = L := List.take_of_length_le (by have := HNN.out; omega)
        rw [e] at r1
        exact ⟨_, lv, rfl, r1, r2, Nat.le_refl _, r3⟩
      clear HH r1 r2 r3 START
      go_wp2_with fail
      refine HD.out.mono ?_
      rintro e w' ⟨rfl, rfl⟩
      go_wp2_with fail
      go_ret
      exact HFIN.out
end Go.Proofs.Ytbggenilngpjcaa.Cn
