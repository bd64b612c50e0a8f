/- Contract of assign. -/
import Derived.Test.YtbggenilngpjcaaCnB
namespace Go.Proofs.Ytbggenilngpjcaa.Cn
open Go Go.RowKit Go.Lib Go.Maps Go.Proofs.Ytbggenilngpjcaa.Gr

/-- What a call on the maker answers that answers nothing. -/
def AsgE (w : World) (G : Gr.Loc) (L : List Nd) (M : MLoc) (S' : Mk) (e : Ending) (w' : World) : Prop :=
  e = .returned (.tuple #[]) ∧ ∃ M', Both w' G L M' S' ∧ MFr M w w' M'

set_option maxRecDepth 100000 in
set_option maxHeartbeats 1000000 in
theorem assign_old {w : World} {G : Gr.Loc} {L : List Nd} {M : MLoc} {S : Mk} (h : Both w G L M S) (n : Nat) (hn : n ∈ S.vs) (hl : L.length < 150000) :
    Calls Try.prog 44 #[.pointer (some ⟨M.h, 0, none⟩), .int .i64 (n : Int)] w (AsgE w G L M S) := by
  have hv := var_pos hn
  have hlook := h.m.look (n := n) (by have := h.ok.own n hn; omega)
  have c1 := h.m.c1
  have HH := Lib.hid h
  have hne : ((var S.vs n : Int) != 0) = true := by simp; omega
  generalize var S.vs n = v at *
  clear h hn hl hv
  go_enter Try.func44, Try.ntmps44
  go_wp2
  go_end0
  exact ⟨rfl, M, HH.out, MFr.refl _ _⟩

set_option maxRecDepth 100000 in
set_option maxHeartbeats 1000000 in
theorem assign_leaf {w : World} {G : Gr.Loc} {L : List Nd} {M : MLoc} {S : Mk} (h : Both w G L M S) (n : Nat) (hn : n ∉ S.vs) (hnl : n < L.length + 1) (e : nd L n = none) (hl : L.length < 150000) :
    Calls Try.prog 44 #[.pointer (some ⟨M.h, 0, none⟩), .int .i64 (n : Int)] w (AsgE w G L M (asn L S n)) := by
  have hvs := h.ok.len
  have hlook := h.m.look (n := n) (by omega)
  rw [var_zero hn] at hlook
  have c1 := h.m.c1
  have hlen := h.m.len
  obtain ⟨w1, hst, r1, r2⟩ := h.m.store (n := n) (by omega) hn (by omega)
  have hO := h.ok.snoc hn hnl (fun a b q => by rw [e] at q; cases q)
  have HB : Hid (Both w1 G L M ⟨S.vs ++ [n], S.cs⟩) := h.mk' r2 r1 hO
  have HN := Lib.hid (Node_any HB.out.g h.wf (n : Int) (by omega) hl)
  rw [ndI_nat hnl, e] at HN
  have HN2 : Hid (Calls Try.prog 21 #[.pointer (some ⟨G.h, 0, none⟩), .int .i64 (n : Int)] w1 fun e w' => e = .returned (.tuple #[.int .i64 0, .int .i64 0, .bool false]) ∧ Below w1.heap.size w1 w') := HN.out
  have HF := Lib.hid r2
  have HE : Hid (asn L S n = ⟨S.vs ++ [n], S.cs⟩) := by unfold Hid asn; rw [e]; simp [cls]
  have d0 := r1.c0
  have hst' : (Instr.mapUpdate 63 (.map (some M.b)) (.int .i64 (n : Int)) (.int .i64 ((S.vs.length : Int) + 1))).run Try.prog w = .ok () w1 := hst
  generalize S.vs.length = V at *
  have v9 : (V : Int) ≤ 1000000 := by omega
  have v0 : ¬ (V : Int) < 0 := by omega
  clear h hn hl hst r1 r2 hO HN e hnl hvs
  go_enter Try.func44, Try.ntmps44
  go_wp2_with fail
  refine HN2.out.mono ?_
  rintro e w2 ⟨rfl, hb⟩
  have HB2 := Lib.hid (HB.out.below hb)
  have HF2 := Lib.hid (HF.out.trans (MFr.ofBelow hb))
  clear hb
  go_wp2_with fail
  go_end0
  rw [HE.out]
  exact ⟨rfl, M, HB2.out, HF2.out⟩

theorem infoRow : (Try.prog.info? 26).map (fun i => (i.zero, i.size, i.bytes)) = some (some (.slice none 0 0), 1, 24) := by kernel_rfl
theorem at4 (w : World) (a b c d : Obj) : ((((w.alloc a).alloc b).alloc c).alloc d).heap[w.heap.size]? = some a ∧ ((((w.alloc a).alloc b).alloc c).alloc d).heap[w.heap.size + 1]? = some b ∧ ((((w.alloc a).alloc b).alloc c).alloc d).heap[w.heap.size + 1 + 1]? = some c := by
  show ((((w.heap.push a).push b).push c).push d)[w.heap.size]? = _ ∧ ((((w.heap.push a).push b).push c).push d)[w.heap.size + 1]? = _ ∧ ((((w.heap.push a).push b).push c).push d)[w.heap.size + 1 + 1]? = _
  simp only [Array.getElem?_push, Array.size_push]
  refine ⟨?_, ?_, ?_⟩
  · rw [if_neg (by omega), if_neg (by omega), if_neg (by omega), if_pos trivial]
  · rw [if_neg (by omega), if_neg (by omega), if_pos trivial]
  · rw [if_neg (by omega), if_pos trivial]

theorem below4 (w : World) (a b c d : Obj) : Below w.heap.size w ((((w.alloc a).alloc b).alloc c).alloc d) :=
  ((((Below.refl _ _).alloc (Nat.le_refl _) _).alloc (by simp) _).alloc (by simp only [World.size_alloc]; omega) _).alloc (by simp only [World.size_alloc]; omega) _
theorem cls3 {w : World} {p1 p2 q1 q2 r1 r2 r3 : Int} (o : Obj) : Cls ((((w.alloc (.cells #[.int .i64 p1, .int .i64 p2] 3)).alloc (.cells #[.int .i64 q1, .int .i64 q2] 3)).alloc (.cells #[.int .i64 r1, .int .i64 r2, .int .i64 r3] 3)).alloc o)
    [.slice (some ⟨w.heap.size, 0, none⟩) 2 2, .slice (some ⟨w.heap.size + 1, 0, none⟩) 2 2, .slice (some ⟨w.heap.size + 1 + 1, 0, none⟩) 3 3] [[p1, p2], [q1, q2], [r1, r2, r3]] := by
  obtain ⟨h1, h2, h3⟩ := at4 w (.cells #[.int .i64 p1, .int .i64 p2] 3) (.cells #[.int .i64 q1, .int .i64 q2] 3) (.cells #[.int .i64 r1, .int .i64 r2, .int .i64 r3] 3) o
  refine ⟨rfl, fun i v c g1 g2 => ?_⟩
  match i with
  | 0 => simp at g1 g2; subst g1 g2; exact ⟨_, rfl, h1⟩
  | 1 => simp at g1 g2; subst g1 g2; exact ⟨_, rfl, h2⟩
  | 2 => simp at g1 g2; subst g1 g2; exact ⟨_, rfl, h3⟩
  | i + 3 => simp at g1

set_option maxRecDepth 100000 in
set_option maxHeartbeats 1000000 in
theorem assign_and {w : World} {G : Gr.Loc} {L : List Nd} {M : MLoc} {S : Mk} (h : Both w G L M S) (n a b : Nat) (hn : n ∉ S.vs) (hnl : n < L.length + 1) (e : nd L n = some (a, b)) (ha : a / 2 ∈ S.vs) (hb : b / 2 ∈ S.vs) (hl : L.length < 150000) (hcs : S.cs.length ≤ 600000) :
    Calls Try.prog 44 #[.pointer (some ⟨M.h, 0, none⟩), .int .i64 (n : Int)] w (AsgE w G L M (asn L S n)) := by
  have hvs := h.ok.len
  obtain ⟨q1, q2, q3, _, q5, q6⟩ := nd_pair h.wf e
  have hlook := h.m.look (n := n) (by omega)
  rw [var_zero hn] at hlook
  have c1 := h.m.c1
  have hlen := h.m.len
  obtain ⟨w1, hst, r1, r2⟩ := h.m.store (n := n) (by omega) hn (by omega)
  have hO := h.ok.snoc hn hnl (fun a' b' q => by rw [e] at q; cases q; exact ⟨ha, hb⟩)
  have HB : Hid (Both w1 G L M ⟨S.vs ++ [n], S.cs⟩) := h.mk' r2 r1 hO
  have HN := Lib.hid (Node_any HB.out.g h.wf (n : Int) (by omega) hl)
  rw [ndI_nat hnl, e] at HN
  have HN2 : Hid (Calls Try.prog 21 #[.pointer (some ⟨G.h, 0, none⟩), .int .i64 (n : Int)] w1 fun e w' => e = .returned (.tuple #[.int .i64 (a : Int), .int .i64 (b : Int), .bool true]) ∧ Below w1.heap.size w1 w') := HN.out
  have HF := Lib.hid r2
  have HLV : Hid (S.vs.length < 900000) := by show _ < _; omega
  have HE : Hid (asn L S n = ⟨S.vs ++ [n], S.cs ++ [[-((S.vs.length : Int) + 1), lit (S.vs ++ [n]) a], [-((S.vs.length : Int) + 1), lit (S.vs ++ [n]) b], [(S.vs.length : Int) + 1, -lit (S.vs ++ [n]) a, -lit (S.vs ++ [n]) b]]⟩) := by unfold Hid asn; rw [e]; simp [cls]
  have HLA : Hid (∀ w2, MRep w2 G.h M ⟨S.vs ++ [n], S.cs⟩ → Calls Try.prog 33 #[.pointer (some ⟨M.h, 0, none⟩), .int .i64 (a : Int)] w2 fun r w' => r = .returned (.int .i64 (lit (S.vs ++ [n]) a)) ∧ w2 = w') := fun w2 hr => literal_any hr a (by omega) (by simp; omega)
  have HLB : Hid (∀ w2, MRep w2 G.h M ⟨S.vs ++ [n], S.cs⟩ → Calls Try.prog 33 #[.pointer (some ⟨M.h, 0, none⟩), .int .i64 (b : Int)] w2 fun r w' => r = .returned (.int .i64 (lit (S.vs ++ [n]) b)) ∧ w2 = w') := fun w2 hr => literal_any hr b (by omega) (by simp; omega)
  have d0 := r1.c0
  have hst' : (Instr.mapUpdate 63 (.map (some M.b)) (.int .i64 (n : Int)) (.int .i64 ((S.vs.length : Int) + 1))).run Try.prog w = .ok () w1 := hst
  have la := lit_bd (S.vs ++ [n]) a
  have lb := lit_bd (S.vs ++ [n]) b
  rw [List.length_append, List.length_singleton] at la lb
  generalize lit (S.vs ++ [n]) a = p at *
  generalize lit (S.vs ++ [n]) b = q at *
  obtain ⟨V, hV⟩ : ∃ V, V = S.vs.length := ⟨_, rfl⟩
  rw [← hV] at hst' HE la lb HLV hlen
  have v9 : (V : Int) ≤ 1000000 := by omega
  have v0 : ¬ (V : Int) < 0 := by omega
  have p1 : -1000000 ≤ p := by omega
  have p2 : p ≤ 1000000 := by omega
  have p3 : -1000000 ≤ q := by omega
  have p4 : q ≤ 1000000 := by omega
  clear h hn hl hst r1 r2 hO HN e hnl hvs ha hb q1 q2 q3 q5 q6 hV la lb
  go_enter Try.func44, Try.ntmps44
  go_wp2_with fail
  refine HN2.out.mono ?_
  rintro e w2 ⟨rfl, hb⟩
  have HB2 := Lib.hid (HB.out.below hb)
  have HF2 := Lib.hid (HF.out.trans (MFr.ofBelow hb))
  have HA2 := Lib.hid (HLA.out w2 HB2.out.m)
  have HB3 := Lib.hid (HLB.out w2 HB2.out.m)
  clear hb
  go_wp2_with fail
  refine HA2.out.mono ?_
  rintro e w' ⟨rfl, rfl⟩
  go_wp2_with fail
  refine HB3.out.mono ?_
  rintro e w' ⟨rfl, rfl⟩
  obtain ⟨a0, k0, e0, _⟩ := own_form HB2.out.m.rows
  have c2 := HB2.out.m.c2
  have z2 := HB2.out.m.head.free 2
  have hs := HB2.out.m.head.lt
  have HOW := Lib.hid HB2.out.m.rows
  have hne2 : some M.h ≠ M.cv.ownBlock := Ne.symm HB2.out.m.hc
  rw [e0] at c2 HOW hne2
  have E0 := Lib.hid e0
  clear e0
  have HOW2 : Hid (w2.ownsRow 0 26 1 (.slice a0 S.cs.length k0) S.cs.length M.rs) := HOW.out
  have c2' : w2.cell? ⟨M.h, 2, none⟩ = some (.slice a0 S.cs.length k0) := c2
  have hne2' : some M.h ≠ (Value.slice a0 S.cs.length k0).ownBlock := hne2
  have E02 : Hid (M.cv = .slice a0 S.cs.length k0) := E0.out
  clear c2 HOW hne2 E0
  obtain ⟨N, hN⟩ : ∃ N, N = S.cs.length := ⟨_, rfl⟩
  rw [← hN] at c2' HOW2 hne2' E02 hcs
  have HN := Lib.hid hN
  have HL1 : Hid (N + 3 ≤ maxLen) := by show _ ≤ _; unfold maxLen; omega
  have HL2 : Hid ((N + 3) * 24 ≤ 140737488355328) := by show _ ≤ _; omega
  obtain ⟨ii, hi, hz0, hz1, hz2⟩ := info_parts infoRow
  have HBL : Hid (∀ o1 o2 o3 o4, (((((w2.alloc o1).alloc o2).alloc o3).alloc o4).heap[w2.heap.size]? = some o1 ∧ ((((w2.alloc o1).alloc o2).alloc o3).alloc o4).heap[w2.heap.size + 1]? = some o2 ∧ ((((w2.alloc o1).alloc o2).alloc o3).alloc o4).heap[w2.heap.size + 1 + 1]? = some o3)) := at4 w2
  clear hN hcs HA2 HB3
  go_wp2_with (at_builtin; refine wpList_append_lies _ rfl _ _ 35 rfl 0 26 ii _ 1 24 Try.underlying35 hi hz0 hz1 hz2 rfl (by decide) _ _ _ rfl ((((HOW2.out.alloc _).alloc _).alloc _).alloc _) ⟨w2.heap.size + 1 + 1 + 1, 0, none⟩ 3 3 [.slice (some ⟨w2.heap.size, 0, none⟩) 2 2, .slice (some ⟨w2.heap.size + 1, 0, none⟩) 2 2, .slice (some ⟨w2.heap.size + 1 + 1, 0, none⟩) 3 3] rfl rfl (World.news_of_block (cs := #[.slice (some ⟨w2.heap.size, 0, none⟩) 2 2, .slice (some ⟨w2.heap.size + 1, 0, none⟩) 2 2, .slice (some ⟨w2.heap.size + 1 + 1, 0, none⟩) 3 3]) (t := 26) (fr := (0, 0)) (by have := heap_alloc_new (((w2.alloc (.cells #[.int .i64 (-((V : Int) + 1)), .int .i64 p] 3)).alloc (.cells #[.int .i64 (-((V : Int) + 1)), .int .i64 q] 3)).alloc (.cells #[.int .i64 ((V : Int) + 1), .int .i64 (-p), .int .i64 (-q)] 3)) (.cells #[.slice (some ⟨w2.heap.size, 0, none⟩) 2 2, .slice (some ⟨w2.heap.size + 1, 0, none⟩) 2 2, .slice (some ⟨w2.heap.size + 1 + 1, 0, none⟩) 3 3] 26); simpa using this)) (by simp [Value.oneCell']) (by decide) HL1.out HL2.out (Nat.zero_le _) (w2.heap.size + 1 + 1 + 1 + 1) (by simp) ?_; intro g cap w3 hown hgrow hat hlt1; have cl := World.grownBy.cell (row := (Value.slice a0 N k0).ownBlock) hgrow (((below4 w2 _ _ _ _).cell (p := ⟨M.h, 2, none⟩) hs).trans c2') hne2'; have fz := (World.grownBy.frozen_far (row := (Value.slice a0 N k0).ownBlock) hgrow ⟨M.h, 2, none⟩ (Nat.lt_of_lt_of_le hs (below4 w2 _ _ _ _).size) hne2').trans (((below4 w2 _ _ _ _).frozen (p := ⟨M.h, 2, none⟩) hs).trans z2))
  have hgr : World.grownBy ((((w2.alloc (.cells #[.int .i64 (-((V : Int) + 1)), .int .i64 p] 3)).alloc (.cells #[.int .i64 (-((V : Int) + 1)), .int .i64 q] 3)).alloc (.cells #[.int .i64 ((V : Int) + 1), .int .i64 (-p), .int .i64 (-q)] 3)).alloc (.cells #[.slice (some ⟨w2.heap.size, 0, none⟩) 2 2, .slice (some ⟨w2.heap.size + 1, 0, none⟩) 2 2, .slice (some ⟨w2.heap.size + 1 + 1, 0, none⟩) 3 3] 26)) w3 (Value.slice a0 N k0).ownBlock := hgrow
  have hat' : (Value.slice a0 N k0).ownBlock = some g ∨ g = w2.heap.size + 1 + 1 + 1 + 1 := hat
  clear hgrow hat
  go_wp2_with fail
  go_end0
  rw [HE.out]
  have R := (HB2.out.m.below (below4 w2 (.cells #[.int .i64 (-((V : Int) + 1)), .int .i64 p] 3) (.cells #[.int .i64 (-((V : Int) + 1)), .int .i64 q] 3) (.cells #[.int .i64 ((V : Int) + 1), .int .i64 (-p), .int .i64 (-q)] 3) (.cells #[.slice (some ⟨w2.heap.size, 0, none⟩) 2 2, .slice (some ⟨w2.heap.size + 1, 0, none⟩) 2 2, .slice (some ⟨w2.heap.size + 1 + 1, 0, none⟩) 3 3] 26))).push (m := N + 3) (by rw [HN.out]; rfl) (cls3 _) (fun v hv k hk q => by
    have := HB2.out.m.lt k q
    simp at hv
    rcases hv with rfl | rfl | rfl <;> (have e := Option.some.inj (show some _ = some k from hk); simp at e; omega)) (by rw [E02.out]; exact hgr) (by rw [E02.out]; exact hat'.imp id (fun e => by simp; omega)) hown
  have hfr : MFr M w2 (w3.setCell ⟨M.h, 2, none⟩ (.slice (some ⟨g, 0, none⟩) (N + 3) cap)) { M with cv := .slice (some ⟨g, 0, none⟩) (N + 3) cap, rs := M.rs ++ [.slice (some ⟨w2.heap.size, 0, none⟩) 2 2, .slice (some ⟨w2.heap.size + 1, 0, none⟩) 2 2, .slice (some ⟨w2.heap.size + 1 + 1, 0, none⟩) 3 3] } := by
    have b4 := below4 w2 (.cells #[.int .i64 (-((V : Int) + 1)), .int .i64 p] 3) (.cells #[.int .i64 (-((V : Int) + 1)), .int .i64 q] 3) (.cells #[.int .i64 ((V : Int) + 1), .int .i64 (-p), .int .i64 (-q)] 3) (.cells #[.slice (some ⟨w2.heap.size, 0, none⟩) 2 2, .slice (some ⟨w2.heap.size + 1, 0, none⟩) 2 2, .slice (some ⟨w2.heap.size + 1 + 1, 0, none⟩) 3 3] 26)
    refine ⟨rfl, hgr.os.trans b4.os, hgr.tape.trans b4.tape, hgr.output.trans b4.output, Nat.le_trans b4.size (by simpa [World.setCell] using hgr.size), fun k hk hn => ?_, fun k hk => ?_⟩
    · exact (R.2 k (Nat.lt_of_lt_of_le hk b4.size) (fun e => hn (Or.inl e)) (fun e => hn (Or.inr (Or.inr (Or.inl e))))).trans (b4.block k hk)
    · rcases hk with hk | hk | hk | ⟨v, hv, hk⟩
      · exact Or.inl (Or.inl hk)
      · exact Or.inl (Or.inr (Or.inl hk))
      · have : g = k := by simpa [Value.ownBlock] using hk
        subst this
        rcases hat' with q | q
        · exact Or.inl (Or.inr (Or.inr (Or.inl (by rw [E02.out]; exact q))))
        · exact Or.inr (by omega)
      · rcases List.mem_append.1 hv with q | q
        · exact Or.inl (Or.inr (Or.inr (Or.inr ⟨v, q, hk⟩)))
        · simp at q
          rcases q with rfl | rfl | rfl <;> (have e := Option.some.inj (show some _ = some k from hk); simp at e; exact Or.inr (by omega))
  exact ⟨rfl, _, HB2.out.mk' hfr R.1 HB2.out.ok, HF2.out.trans hfr⟩


theorem assign_any {w : World} {G : Gr.Loc} {L : List Nd} {M : MLoc} {S : Mk} (h : Both w G L M S) (n : Nat) (hnl : n < L.length + 1) (hk : n ∉ S.vs → ∀ a b, nd L n = some (a, b) → a / 2 ∈ S.vs ∧ b / 2 ∈ S.vs) (hl : L.length < 150000) (hcs : S.cs.length ≤ 600000) :
    Calls Try.prog 44 #[.pointer (some ⟨M.h, 0, none⟩), .int .i64 (n : Int)] w (AsgE w G L M (asg L S n)) := by
  unfold asg
  by_cases hn : n ∈ S.vs
  · rw [if_pos hn]; exact assign_old h n hn hl
  · rw [if_neg hn]
    cases e : nd L n with
    | none => exact assign_leaf h n hn hnl e hl
    | some p => obtain ⟨a, b⟩ := p; exact assign_and h n a b hn hnl e (hk hn a b e).1 (hk hn a b e).2 hl hcs
end Go.Proofs.Ytbggenilngpjcaa.Cn
