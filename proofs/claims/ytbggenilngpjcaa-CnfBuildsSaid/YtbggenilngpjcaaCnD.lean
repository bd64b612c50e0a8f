/- Contracts of need, Lit. -/
import Derived.Test.YtbggenilngpjcaaCnC
import Derived.Test.YtbggenilngpjcaaGrOnce
import Derived.Deep.LoopGhost
namespace Go.Proofs.Ytbggenilngpjcaa.Cn
open Go Go.RowKit Go.Lib Go.Maps Go.Proofs.Ytbggenilngpjcaa.Gr

theorem own_pop {w : World} {base : Nat} {e : TypeId} {g n c : Nat} {xs : List Value} {x : Value} (h : w.ownsRow base e 1 (.slice (some ⟨g, 0, none⟩) (n + 1) c) (n + 1) (xs ++ [x])) : w.ownsRow base e 1 (.slice (some ⟨g, 0, none⟩) n c) n xs := by
  obtain ⟨h1, h2⟩ := h
  have hl : xs.length = n := by simp at h1; omega
  refine ⟨by omega, ?_⟩
  rcases h2 with ⟨q, _⟩ | ⟨g', cap, cur, q, h3, h4, h5, h6, h7, h8⟩
  · cases q
  · simp only [Value.slice.injEq, Option.some.injEq, Addr.mk.injEq, and_true, true_and] at q
    obtain ⟨rfl, rfl⟩ := q
    refine Or.inr ⟨g, c, cur, rfl, h3, h4, by omega, h6, h7, ?_⟩
    have h9 := congrArg (List.take n) h8
    rw [List.take_take, Nat.min_eq_left (by omega), List.take_append_of_le_length (by omega), List.take_of_length_le (l := xs) (by omega)] at h9
    rw [Nat.mul_one]; exact h9

theorem Both.of_heap {w w' : World} {G : Gr.Loc} {L : List Nd} {M : MLoc} {S : Mk} (h : Both w G L M S) (e : ∀ k, G.has k ∨ M.has k → w'.heap[k]? = w.heap[k]?) : Both w' G L M S :=
  ⟨h.g.of_heap fun k hk => e k (Or.inl hk), h.m.of_heap fun k hk => e k (Or.inr hk), h.wf, h.ok, h.apart⟩
theorem MFr.grow {M M' : MLoc} {w wr w3 : World} (a : MFr M w wr M') {row : Option Nat} (hg : wr.grownBy w3 row) (hb : ∀ k, row = some k → w.heap.size ≤ k) : MFr M w w3 M' :=
  ⟨a.h, hg.os.trans a.os, hg.tape.trans a.tape, hg.output.trans a.output, Nat.le_trans a.size hg.size, fun k hk hn => (hg.block k (Nat.lt_of_lt_of_le hk a.size) (fun e => by have := hb k e.symm; omega)).trans (a.block k hk hn), a.own⟩

/-- Where need stands: the nodes st wait, at most k rounds are to come. -/
def NeedI (w : World) (G : Gr.Loc) (L : List Nd) (M : MLoc) (S' : Mk) (k : Nat) (st : List Nat) (wv : Value) (wr : World) : Prop :=
  ∃ M' S, Both wr G L M' S ∧ MFr M w wr M' ∧ Runs L st S S' ∧ Wait L S.vs st ∧ wr.ownsRow w.heap.size 3 1 wv st.length (st.map encN) ∧ (∀ j, wv.ownBlock = some j → ¬ G.has j ∧ ¬ M'.has j) ∧ S.cs.length ≤ 3 * S.vs.length ∧ (st = [] ∨ 2 * (L.length + 1 - S.vs.length) + 2 ≤ k + st.length)

set_option maxRecDepth 100000 in
set_option maxHeartbeats 2000000 in
theorem need_any {w : World} {G : Gr.Loc} {L : List Nd} {M : MLoc} {S S' : Mk} (h : Both w G L M S) (n : Nat) (hn : n < L.length + 1) (hl : L.length < 150000) (hcs : S.cs.length ≤ 3 * S.vs.length) (hN : Need L n S S') :
    Calls Try.prog 32 #[.pointer (some ⟨M.h, 0, none⟩), .int .i64 (n : Int)] w (AsgE w G L M S') := by
  have START : Hid (NeedI w G L M S' (2 * (L.length + 1 - S.vs.length) + 1) [n] (.slice (some ⟨w.heap.size, 0, none⟩) 1 1) (w.alloc (.cells #[.int .i64 (n : Int)] 3))) := by
    have hb : Below w.heap.size w (w.alloc (.cells #[.int .i64 (n : Int)] 3)) := (Below.refl _ _).alloc (Nat.le_refl _) _
    refine ⟨M, S, h.below hb, MFr.ofBelow hb, by have := Runs.cons hN (Runs.nil (L := L)); simpa using this, Wait.start hn, ⟨rfl, Or.inr ⟨w.heap.size, 1, _, rfl, Nat.le_refl _, heap_alloc_new w _, Nat.le_refl _, by decide, rfl, rfl⟩⟩, fun j hj => ?_, hcs, Or.inr (by simp)⟩
    have : w.heap.size = j := by simpa [Value.ownBlock] using hj
    subst this
    exact ⟨fun q => by have := h.g.lt _ q; omega, fun q => by have := h.m.lt _ q; omega⟩
  have HWF := Lib.hid (And.intro h.wf hl)
  have HM : Hid (M.h = M.h) := rfl
  clear h hn hcs hN hl
  go_enter Try.func32, Try.ntmps32
  go_wp2_with fail
  go_loopg [4] (2 * (L.length + 1 - S.vs.length) + 1) (fun k wv wr => ∃ st : List Nat, ∃ a c, wv = .slice a st.length c ∧ Hid (NeedI w G L M S' k st wv wr))
  case atStart => exact ⟨[n], _, _, rfl, START⟩
  case round =>
    obtain ⟨st, a, c, rfl, HH⟩ := hrel
    rcases List.eq_nil_or_concat st with rfl | ⟨st, x, rfl⟩
    · have HFIN : Hid (AsgE w G L M S' (.returned (.tuple #[])) wr) := by
        obtain ⟨M', S1, r1, r2, r3, _⟩ := HH.out
        rw [runs_done r3]
        exact ⟨rfl, M', r1, r2⟩
      have hz : ((([] : List Nat).length : Nat) : Int) = 0 := rfl
      clear HH START
      go_wp2_with fail
      go_end0
      exact HFIN.out
    · rw [List.concat_eq_append] at HH ⊢
      obtain ⟨N, hNl⟩ : ∃ N, N = st.length := ⟨_, rfl⟩
      have hlen : (st ++ [x]).length = N + 1 := by rw [List.length_append, hNl]; rfl
      rw [hlen] at HH ⊢
      obtain ⟨M', S1, r1, r2, r3, r4, r5, r6, r7, r8⟩ := HH.out
      rw [encN_snoc, hlen] at r5
      cases a with
      | none => exact absurd (r5.2.elim (fun q => q.2) (fun ⟨g, cap, cur, q, _⟩ => by cases q)) (by simp)
      | some ad =>
        obtain ⟨g, off, sp⟩ := ad
        obtain ⟨a', c', e', _, _, _, hof⟩ := own_form r5
        simp only [Value.slice.injEq, true_and] at e'
        obtain ⟨rfl, rfl⟩ := e'
        obtain ⟨rfl, rfl⟩ : off = 0 ∧ sp = none := hof _ rfl
        have hx := r4.own x (by simp)
        have hbd := r4.bound r1.ok
        have hvl := r1.ok.len
        have hll := HWF.out.2
        have r8' : 2 * (L.length + 1 - S1.vs.length) + 2 ≤ gk + (N + 1) := by
          rcases r8 with q | q
          · simp at q
          · rw [hlen] at q; exact q
        have hMh : M'.h = M.h := r2.h
        have cx : wr.cell? ⟨g, N, none⟩ = some (.int .i64 (x : Int)) := own_cell r5 (by rw [List.getElem?_append_right (by simp [hNl])]; simp [hNl])
        have hgl : g < wr.heap.size := (r5.lt g rfl).2
        have HLK := lacking_any r1 x hx hll
        rw [hMh] at HLK
        have HLK := Lib.hid HLK
        have n0 : ¬ (N : Int) < 0 := by omega
        have n9 : (N : Int) ≤ 1000000 := by rw [hlen] at hbd; omega
        have hNc : (N : Int) ≤ (c : Int) := by omega
        by_cases hy : lack L S1.vs x = x
        · obtain ⟨t1, t2⟩ := step_pop r3 hy (fun a b e => by obtain ⟨q1, q2, q3, _⟩ := nd_pair r1.wf e; omega)
          obtain ⟨t3, t4, t5⟩ := r4.pop
          rw [hy] at HLK
          have HASG : Hid (∀ w2, Below wr.heap.size wr w2 → Calls Try.prog 44 #[.pointer (some ⟨M.h, 0, none⟩), .int .i64 (x : Int)] w2 (AsgE w2 G L M' (asg L S1 x))) := fun w2 hb => by
            have := assign_any (r1.below hb) x hx t2 hll (by omega)
            rw [hMh] at this; exact this
          have HNEXT : Hid (∀ w2 w3 M3, Below wr.heap.size wr w2 → Both w3 G L M3 (asg L S1 x) → MFr M' w2 w3 M3 → Hid (NeedI w G L M S' (gk - 1) st (.slice (some ⟨g, 0, none⟩) N c) w3)) := fun w2 w3 M3 hb s1 s2 => by
            refine ⟨M3, _, s1, r2.trans ((MFr.ofBelow hb).trans s2), t1, ?_, ?_, fun j hj => ?_, ?_, ?_⟩
            · unfold asg; split
              · exact t3
              · exact t4
            · rw [← hNl]
              have q := own_pop r5
              exact owns_of_heap q fun k hk => by
                have : g = k := by simpa [Value.ownBlock] using hk
                subst this
                exact (s2.block g (Nat.lt_of_lt_of_le hgl hb.size) (r6 g rfl).2).trans (hb.block g hgl)
            · have : g = j := by simpa [Value.ownBlock] using hj
              subst this
              refine ⟨(r6 g rfl).1, fun q => (s2.own g q).elim (r6 g rfl).2 fun z => ?_⟩
              have := hb.size; omega
            · unfold asg; split
              · exact r7
              · show (S1.cs ++ cls _ _ _).length ≤ 3 * (S1.vs ++ [x]).length
                have : ∀ (v : Nat) vs (d : Nd), (cls v vs d).length ≤ 3 := fun v vs d => by cases d <;> simp [cls]
                have := this (S1.vs.length + 1) (S1.vs ++ [x]) (nd L x)
                rw [List.length_append, List.length_append, List.length_singleton]; omega
            · by_cases e : st = []
              · exact Or.inl e
              · right
                have h1 : 1 ≤ N := by rw [hNl]; exact List.length_pos_iff.2 e
                rw [hlen] at hbd
                unfold asg; split
                · rename_i q; exact absurd (t5 q) e
                · show 2 * (L.length + 1 - (S1.vs ++ [x]).length) + 2 ≤ _
                  rw [List.length_append, List.length_singleton]; omega
          have hg0 : Hid (gk - 1 < gk) := by show _ < _; omega
          have HCX : Hid (∀ w2, Below wr.heap.size wr w2 → w2.cell? ⟨g, N, none⟩ = some (.int .i64 (x : Int))) := fun w2 hb => (hb.cell (p := ⟨g, N, none⟩) hgl).trans cx
          have HNL := Lib.hid hNl
          clear r1 r2 r3 r4 r5 r6 r7 r8 r8' t1 t2 t3 t4 t5 HH hy START hbd hvl hx hof hlen hNl hgl hMh
          go_wp2_with fail
          refine HLK.out.mono ?_
          rintro e w2 ⟨rfl, hb⟩
          have cx2 := HCX.out w2 hb
          have HA := Lib.hid (HASG.out w2 hb)
          have HNE := Lib.hid (fun w3 M3 => HNEXT.out w2 w3 M3 hb)
          clear hb
          go_wp2_with fail
          refine HA.out.mono ?_
          rintro e w3 ⟨rfl, M3, s1, s2⟩
          have HF := HNE.out w3 M3 s1 s2
          clear s1 s2
          go_wp2_with fail
          go_roundg (gk - 1)
          case measure => exact hg0.out
          case rel => exact ⟨st, _, _, by rw [← HNL.out], by exact HF⟩
        · obtain ⟨y, hyd⟩ : ∃ y, y = lack L S1.vs x := ⟨_, rfl⟩
          rw [← hyd] at HLK hy
          obtain ⟨t1, t2, t3⟩ := step_push r1.wf rfl r3 hyd.symm hy r1.ok
          have t4 := r4.push t2 t3
          have hyx : ((y : Int) != (x : Int)) = true := by simp; omega
          have HNEXT : Hid (∀ w2 w3 (o : Obj) g' c', Below wr.heap.size wr w2 → (w2.alloc o).grownBy w3 (some g) → (some g = some g' ∨ g' = w2.heap.size + 1) → w3.ownsRow w.heap.size 3 1 (.slice (some ⟨g', 0, none⟩) (N + 1 + 1) c') (N + 1 + 1) ((st.map encN ++ [.int .i64 (x : Int)]) ++ [.int .i64 (y : Int)]) → Hid (NeedI w G L M S' (gk - 1) (st ++ [x] ++ [y]) (.slice (some ⟨g', 0, none⟩) (N + 1 + 1) c') w3)) := fun w2 w3 o g' c' hb hgr hat hown => by
            have hba : Below wr.heap.size wr (w2.alloc o) := hb.alloc hb.size o
            have hsame : ∀ k, G.has k ∨ M'.has k → w3.heap[k]? = wr.heap[k]? := fun k hk => by
              have hkl : k < wr.heap.size := hk.elim (r1.g.lt k) (r1.m.lt k)
              refine (hgr.block k (Nat.lt_of_lt_of_le hkl hba.size) fun e => ?_).trans (hba.block k hkl)
              obtain rfl : k = g := Option.some.inj e
              exact hk.elim (r6 k rfl).1 (r6 k rfl).2
            have hlen2 : (st ++ [x] ++ [y]).length = N + 1 + 1 := by rw [List.length_append, hlen]; rfl
            refine ⟨M', S1, r1.of_heap hsame, (r2.trans (MFr.ofBelow hba)).grow hgr fun k e => by obtain rfl : g = k := Option.some.inj e; exact (r5.lt g rfl).1, t1, t4, ?_, fun j hj => ?_, r7, Or.inr ?_⟩
            · rw [hlen2, encN_snoc, encN_snoc]; exact hown
            · have : g' = j := by simpa [Value.ownBlock] using hj
              subst this
              rcases hat with q | q
              · obtain rfl := Option.some.inj q; exact r6 _ rfl
              · have := hb.size
                exact ⟨fun z => by have := r1.g.lt _ z; omega, fun z => by have := r1.m.lt _ z; omega⟩
            · rw [hlen2]; omega
          have hg0 : Hid (gk - 1 < gk) := by show _ < _; rw [hlen] at hbd; omega
          have HCX : Hid (∀ w2, Below wr.heap.size wr w2 → w2.cell? ⟨g, N, none⟩ = some (.int .i64 (x : Int))) := fun w2 hb => (hb.cell (p := ⟨g, N, none⟩) hgl).trans cx
          have HOW : Hid (∀ w2, Below wr.heap.size wr w2 → w2.ownsRow w.heap.size 3 1 (.slice (some ⟨g, 0, none⟩) (N + 1) c) (N + 1) (st.map encN ++ [.int .i64 (x : Int)])) := fun w2 hb => owns_of_heap r5 fun k hk => by
            have : g = k := by simpa [Value.ownBlock] using hk
            subst this; exact hb.block g hgl
          have HWS : Hid (w.heap.size ≤ wr.heap.size) := r2.size
          have HL1 : Hid (N + 1 + 1 ≤ maxLen) := by show _ ≤ _; unfold maxLen; omega
          have HL2 : Hid ((N + 1 + 1) * 8 ≤ 140737488355328) := by show _ ≤ _; omega
          have HNL := Lib.hid hlen
          obtain ⟨ii, hi, hz0, hz1, hz2⟩ := info_parts Cn.infoInt
          clear r1 r2 r3 r4 r5 r6 r7 r8 r8' t1 t2 t3 t4 HH hy hyd START hbd hvl hx hof hlen hNl hgl hMh
          go_wp2_with fail
          refine HLK.out.mono ?_
          rintro e w2 ⟨rfl, hb⟩
          have cx2 := HCX.out w2 hb
          have HOW2 := Lib.hid (HOW.out w2 hb)
          have HNE := Lib.hid (fun w3 o g' c' => HNEXT.out w2 w3 o g' c' hb)
          have HWS2 : Hid (w.heap.size ≤ (w2.alloc (.cells #[.int .i64 (y : Int)] 3)).heap.size) := by have := hb.size; have := HWS.out; show _ ≤ _; simp; omega
          clear hb
          go_wp2_with (at_builtin; refine wpList_append_lies _ rfl _ _ 26 rfl w.heap.size 3 ii _ 1 8 Try.underlying26 hi hz0 hz1 hz2 rfl (by decide) _ _ _ rfl (HOW2.out.alloc _) ⟨w2.heap.size, 0, none⟩ 1 1 [.int .i64 (y : Int)] rfl rfl (World.news_of_block (cs := #[.int .i64 (y : Int)]) (t := 3) (fr := (0, 0)) (heap_alloc_new w2 _)) (by simp [Value.oneCell']) (by decide) HL1.out HL2.out HWS2.out (w2.heap.size + 1) (by simp) ?_; intro g' c' w3 hown hgrow hat hlt1)
          have HF := HNE.out w3 _ g' c' hgrow hat hown
          clear hown hgrow hat hlt1
          go_roundg (gk - 1)
          case measure => exact hg0.out
          case rel => exact ⟨st ++ [x] ++ [y], _, _, by rw [List.length_append, HNL.out]; rfl, by exact HF⟩
end Go.Proofs.Ytbggenilngpjcaa.Cn
