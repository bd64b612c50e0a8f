/- The law GraphOnce as a contract. -/
import Derived.Test.YtdenjeocmmhejaaGrH
namespace Go.Proofs.Ytdenjeocmmhejaa.Gr
open Go Go.RowKit Go.Lib Go.Maps

structure ActV where
  k : Int
  a : Int
  b : Int
  c : Int
instance : Inhabited ActV := ⟨⟨0, 0, 0, 0⟩⟩

/-- A slice of m acts that came in. -/
def ArgA (w : World) (a : Option Addr) (m : Nat) (K : Nat → ActV) : Prop :=
  m = 0 ∨ ∃ b off, a = some ⟨b, off, none⟩ ∧ b < w.heap.size ∧ ∀ j, j < m → w.cell? ⟨b, off + j * 4, none⟩ = some (.int .i64 (K j).k) ∧ w.cell? ⟨b, off + j * 4 + 1, none⟩ = some (.int .i64 (K j).a) ∧ w.cell? ⟨b, off + j * 4 + 2, none⟩ = some (.int .i64 (K j).b) ∧ w.cell? ⟨b, off + j * 4 + 3, none⟩ = some (.int .i64 (K j).c)
theorem ArgA.below {w w' : World} {a : Option Addr} {m : Nat} {K : Nat → ActV} (h : ArgA w a m K) (hb : Below w.heap.size w w') : ArgA w' a m K := by
  rcases h with h | ⟨b, off, h1, h2, h3⟩
  · exact Or.inl h
  · exact Or.inr ⟨b, off, h1, Nat.lt_of_lt_of_le h2 hb.size, fun j hj => ⟨(hb.cell (by exact h2)).trans (h3 j hj).1, (hb.cell (by exact h2)).trans (h3 j hj).2.1, (hb.cell (by exact h2)).trans (h3 j hj).2.2.1, (hb.cell (by exact h2)).trans (h3 j hj).2.2.2⟩⟩

/-- Not below 0. -/
def nat0 (x : Int) : Nat := (if x < 0 then 0 else x).toNat
theorem nat0_eq (x : Int) : (if x < 0 then (0 : Int) else x) = (nat0 x : Int) := by unfold nat0; split <;> omega
theorem nat0_le {x : Int} (h : x ≤ 9223372036854775807) : (nat0 x : Int) ≤ 9223372036854775807 := by unfold nat0; split <;> omega

/-- What is laid. -/
def nxt (s : List Nat × List Nd) (x y : Nat) : Nat × List Nd := andE s.2 (edgeF (fun j => s.1.getD j 0) s.1.length x) (edgeF (fun j => s.1.getD j 0) s.1.length y)
def laid (K : Nat → ActV) : Nat → List Nat × List Nd
  | 0 => ([0, 2, 4], [none, none])
  | i + 1 => ((laid K i).1 ++ [(nxt (laid K i) (nat0 (K i).a) (nat0 (K i).b)).1], (nxt (laid K i) (nat0 (K i).a) (nat0 (K i).b)).2)

structure LaidOk (s : List Nat × List Nd) (i : Nat) : Prop where
  wf : Wf s.2
  len : s.2.length ≤ i + 2
  esl : s.1.length = i + 3
  own : ∀ j, j < s.1.length → s.1.getD j 0 < 2 * (s.2.length + 1)
theorem LaidOk.nxt {s : List Nat × List Nd} {i : Nat} (h : LaidOk s i) (x y : Nat) : ∃ f, Ans s.2 1 (nxt s x y) f :=
  ⟨_, andE_ans h.wf (edgeF_lt (by have := h.esl; omega) h.own) (edgeF_lt (by have := h.esl; omega) h.own)⟩
theorem getD_snoc (l : List Nat) (x j : Nat) : (l ++ [x]).getD j 0 = if j < l.length then l.getD j 0 else if j = l.length then x else 0 := by
  rw [List.getD_eq_getElem?_getD]
  by_cases e : j < l.length
  · rw [if_pos e, List.getElem?_append_left e, ← List.getD_eq_getElem?_getD]
  · rw [if_neg e, List.getElem?_append_right (by omega)]
    by_cases q : j = l.length
    · rw [if_pos q, q]; simp
    · rw [if_neg q, List.getElem?_eq_none (by simp; omega)]; rfl
theorem LaidOk.step {s : List Nat × List Nd} {i : Nat} (h : LaidOk s i) {r : Nat × List Nd} {f : (Nat → Bool) → Bool} (hA : Ans s.2 1 r f) : LaidOk (s.1 ++ [r.1], r.2) (i + 1) := by
  have hl := hA.lenle
  have hl2 := hA.le
  have ho := hA.own
  have he := h.esl
  refine ⟨hA.wf, ?_, ?_, fun j hj => ?_⟩
  · show r.2.length ≤ _; have := h.len; omega
  · show (s.1 ++ [r.1]).length = _; rw [List.length_append, he]; rfl
  · show (s.1 ++ [r.1]).getD j 0 < 2 * (r.2.length + 1)
    rw [getD_snoc]
    split
    · rename_i e; have := h.own j e; omega
    · split <;> omega
theorem laid_ok (K : Nat → ActV) (i : Nat) : LaidOk (laid K i) i := by
  induction i with
  | zero =>
    refine ⟨Wf.nil.input.input, Nat.le_refl 2, rfl, fun j hj => ?_⟩
    show [0, 2, 4].getD j 0 < 6
    have : j < 3 := hj
    match j, this with | 0, _ => decide | 1, _ => decide | 2, _ => decide
  | succ i ih =>
    obtain ⟨f, hA⟩ := ih.nxt (nat0 (K i).a) (nat0 (K i).b)
    exact ih.step hA
theorem laid_ext (K : Nat → ActV) (i m : Nat) (h : i ≤ m) : ∃ X, (laid K m).2 = (laid K i).2 ++ X := by
  induction m with
  | zero => obtain rfl : i = 0 := by omega
            exact ⟨[], by simp⟩
  | succ m ih =>
    by_cases e : i = m + 1
    · subst e; exact ⟨[], by simp⟩
    · obtain ⟨X, hX⟩ := ih (by omega)
      obtain ⟨f, hA⟩ := (laid_ok K m).nxt (nat0 (K m).a) (nat0 (K m).b)
      obtain ⟨Y, hY, _⟩ := hA.ext
      exact ⟨X ++ Y, by rw [← List.append_assoc, ← hX]; exact hY⟩
/-- Laid again, in the other order, on whatever has been laid since. -/
theorem laid_again (K : Nat → ActV) (i m : Nat) (h : i < m) : nxt ((laid K i).1, (laid K m).2) (nat0 (K i).b) (nat0 (K i).a) = ((nxt (laid K i) (nat0 (K i).a) (nat0 (K i).b)).1, (laid K m).2) := by
  obtain ⟨X, hX⟩ := laid_ext K (i + 1) m h
  have hW := (laid_ok K m).wf
  have hX2 : (laid K m).2 = (nxt (laid K i) (nat0 (K i).a) (nat0 (K i).b)).2 ++ X := hX
  unfold nxt at hX2 ⊢
  rw [hX2] at hW ⊢
  rw [andE_comm]
  exact andE_stays hW

/-- Where the law stands: the graph, and a list of edges. -/
def OnceI (W : World) (h : Nat) (L : List Nd) (es : List Nat) (v : Value) (w : World) : Prop := ∃ G : Loc, G.h = h ∧ Law W w G L ∧ EsS W w G v es

theorem encN_snoc (es : List Nat) (e : Nat) : (es ++ [e]).map encN = es.map encN ++ [.int .i64 (e : Int)] := by rw [List.map_append]; rfl
theorem EsS.push {W w w1 : World} {G : Loc} {v : Value} {es : List Nat} {e g cap : Nat} {L : List Nd} (h : EsS W w G v es) (hr : Law W w G L) (o : Obj) (hgrow : (w.alloc o).grownBy w1 v.ownBlock) (hat : v.ownBlock = some g ∨ g = w.heap.size + 1)
    (hown : w1.ownsRow W.heap.size 3 1 (.slice (some ⟨g, 0, none⟩) (es.length + 1) cap) (es.length + 1) (es.map encN ++ [.int .i64 (e : Int)])) :
    OnceI W G.h L (es ++ [e]) (.slice (some ⟨g, 0, none⟩) (es.length + 1) cap) w1 := by
  have lt := hr.rep.lt
  have hk : ∀ k, k < w.heap.size → v.ownBlock ≠ some k → w1.heap[k]? = w.heap[k]? := fun k h1 h2 => (hgrow.block k (by simp; omega) (fun e => h2 e.symm)).trans (Below.heap_alloc _ _ _ h1)
  refine ⟨G, rfl, ⟨hr.rep.of_heap fun k hk' => hk k (lt k hk') (fun e => h.2 k e hk'), hr.wf, (hr.below.alloc hr.below.size o).grown hgrow (by have := hr.below.size; simp; omega) (fun k hk => (h.1.lt k hk).1), hr.new⟩, ?_, fun k hk' q => ?_⟩
  · rw [List.length_append, encN_snoc]; exact hown
  · have : g = k := by simpa [Value.ownBlock] using hk'
    subst this
    rcases hat with e | e
    · exact h.2 _ e q
    · have := lt _ q; omega

/-- .. and the list laid again. -/
def OnceJ (W : World) (h : Nat) (L : List Nd) (es : List Nat) (v : Value) (fs : List Nat) (u : Value) (w : World) : Prop :=
  ∃ G : Loc, G.h = h ∧ Law W w G L ∧ EsS W w G v es ∧ EsS W w G u fs ∧ ∀ k, v.ownBlock = some k → u.ownBlock ≠ some k
theorem OnceJ.push {W w w1 : World} {G : Loc} {v u : Value} {es fs : List Nat} {e g cap : Nat} {L : List Nd} (h : EsS W w G u fs) (h1 : EsS W w G v es) (hne : ∀ k, v.ownBlock = some k → u.ownBlock ≠ some k) (hr : Law W w G L) (o : Obj) (hgrow : (w.alloc o).grownBy w1 u.ownBlock) (hat : u.ownBlock = some g ∨ g = w.heap.size + 1)
    (hown : w1.ownsRow W.heap.size 3 1 (.slice (some ⟨g, 0, none⟩) (fs.length + 1) cap) (fs.length + 1) (fs.map encN ++ [.int .i64 (e : Int)])) :
    OnceJ W G.h L es v (fs ++ [e]) (.slice (some ⟨g, 0, none⟩) (fs.length + 1) cap) w1 := by
  have lt := hr.rep.lt
  have hk : ∀ k, k < w.heap.size → u.ownBlock ≠ some k → w1.heap[k]? = w.heap[k]? := fun k h1 h2 => (hgrow.block k (by simp; omega) (fun e => h2 e.symm)).trans (Below.heap_alloc _ _ _ h1)
  refine ⟨G, rfl, ⟨hr.rep.of_heap fun k hk' => hk k (lt k hk') (fun e => h.2 k e hk'), hr.wf, (hr.below.alloc hr.below.size o).grown hgrow (by have := hr.below.size; simp; omega) (fun k hk => (h.1.lt k hk).1), hr.new⟩, ⟨owns_of_heap h1.1 fun k hk' => hk k (h1.1.lt k hk').2 (hne k hk'), h1.2⟩, ⟨?_, fun k hk' q => ?_⟩, fun k hk' q => ?_⟩
  · rw [List.length_append, encN_snoc]; exact hown
  · have : g = k := by simpa [Value.ownBlock] using hk'
    subst this
    rcases hat with e | e
    · exact h.2 _ e q
    · have := lt _ q; omega
  · have : g = k := by simpa [Value.ownBlock] using q
    subst this
    rcases hat with e | e
    · exact hne _ hk' e
    · have := (h1.1.lt _ hk').2; omega

set_option maxRecDepth 100000 in
set_option maxHeartbeats 2000000 in
theorem GraphOnce_law (a : Option Addr) (m c : Nat) (K : Nat → ActV) (W : World) (ha : ArgA W a m K) (hmc : m ≤ 9223372036854775807) (hK : ∀ j, j < m → (K j).a ≤ 9223372036854775807 ∧ (K j).b ≤ 9223372036854775807) :
    Calls Try.prog 5 #[.slice a m c] W fun e w' => e = .returned (.bool true) ∧ Below W.heap.size W w' := by
  have HAW := Lib.hid awake_any
  by_cases hbig : (40 : Int) < (m : Int)
  · clear ha hK
    go_enter Try.func5, Try.ntmps5
    go_wp2_with fail
    refine (HAW.out W).mono ?_
    rintro e w1 ⟨rfl, hb1⟩
    have HB1 := Lib.hid hb1
    clear hb1
    go_wp2_with fail
    refine (HAW.out w1).mono ?_
    rintro e w2 ⟨rfl, hb2⟩
    have HB2 := Lib.hid (HB1.out.trans (hb2.mono HB1.out.size))
    clear hb2
    go_wp2_with fail
    go_ret
    exact ⟨rfl, HB2.out⟩
  · have HAK := Lib.hid (And.intro ha hK)
    have hm40 : m ≤ 40 := by omega
    clear ha hK
    go_enter Try.func5, Try.ntmps5
    go_wp2_with fail
    refine (HAW.out W).mono ?_
    rintro e w1 ⟨rfl, hb1⟩
    have HB1 := Lib.hid hb1
    have HN := Lib.hid (New_any w1)
    clear hb1
    go_wp2_with fail
    refine HN.out.mono ?_
    rintro e w2 ⟨G, rfl, r1, r2, r3⟩
    have HL : Hid (Law W w2 G []) := ⟨r1, Wf.nil, HB1.out.trans (r2.mono HB1.out.size), fun k hk => Nat.le_trans HB1.out.size (r3 k hk)⟩
    have HI := Lib.hid (Input_any r1 (by decide))
    clear r1 r2 r3 HN
    go_wp2_with fail
    refine HI.out.mono ?_
    intro e w3 hop
    obtain ⟨rfl, G2, g2, s1, s2⟩ := hop.thenE
    have HL2 : Hid (Law W w3 G2 [none]) := HL.out.op s1 s2 Wf.nil.input
    have HI2 : Hid (Calls Try.prog 11 #[.pointer (some ⟨G.h, 0, none⟩)] w3 (OpE w3 G2 (4, [none, none]))) := by rw [← g2]; exact Input_any s1 (by decide)
    clear s1 s2 hop HI HL
    go_wp2_with fail
    refine HI2.out.mono ?_
    intro e w4 hop
    obtain ⟨rfl, G3, g3, s1, s2⟩ := hop.thenE
    have HL3 : Hid (Law W w4 G3 [none, none]) := HL2.out.op s1 s2 HL2.out.wf.input
    have HG : Hid (G3.h = G.h) := by rw [Hid, g3, g2]
    clear s1 s2 hop HI2 HL2 g2 g3
    have START : Hid (OnceI W G.h (laid K 0).2 (laid K 0).1 (.slice (some ⟨w4.heap.size, 0, none⟩) (0 + 3) 3) (w4.alloc (.cells #[.int .i64 0, .int .i64 2, .int .i64 4] 3))) := by
      refine ⟨G3, HG.out, HL3.out.after ((Below.refl _ _).alloc (Nat.le_refl _) _), ⟨rfl, Or.inr ⟨w4.heap.size, 3, _, rfl, HL3.out.below.size, heap_alloc_new w4 _, Nat.le_refl _, by decide, rfl, rfl⟩⟩, fun k hk q => ?_⟩
      have : w4.heap.size = k := by simpa [Value.ownBlock] using hk
      have := HL3.out.rep.lt _ q
      omega
    go_wp2_with fail
    go_loopw [4, 5] (fun ev iv wr => ∃ i : Nat, iv = .int .i64 (i : Int) ∧ i ≤ m ∧ Hid (OnceI W G.h (laid K i).2 (laid K i).1 ev wr)) (fun _ iv _ => m - (intOf iv).toNat)
    case atStart => exact ⟨0, rfl, Nat.zero_le _, START⟩
    case round =>
      obtain ⟨i, rfl, hi, HH⟩ := hrel
      by_cases hlt : i < m
      · obtain ⟨G1, hg1, hL1, hE1⟩ := HH.out
        obtain ⟨b, off, rfl, hb, hc⟩ := (HAK.out.1).resolve_left (by omega)
        have hiz : (i : Int) < (m : Int) := by omega
        have i0 : (0 : Int) ≤ (i : Int) := by omega
        have hok := laid_ok K i
        obtain ⟨f, hA⟩ := hok.nxt (nat0 (K i).a) (nat0 (K i).b)
        have hAl := hA.lenle
        have hxa : wr.cell? ⟨b, off + i * 4 + 1, none⟩ = some (.int .i64 (K i).a) := (hL1.below.cell (p := ⟨b, off + i * 4 + 1, none⟩) hb).trans (hc i hlt).2.1
        have hxb : wr.cell? ⟨b, off + i * 4 + 2, none⟩ = some (.int .i64 (K i).b) := (hL1.below.cell (p := ⟨b, off + i * 4 + 2, none⟩) hb).trans (hc i hlt).2.2.1
        have mx1 := nat0_eq (K i).a
        have mx2 := nat0_eq (K i).b
        have p1 := nat0_le (HAK.out.2 i hlt).1
        have p2 := nat0_le (HAK.out.2 i hlt).2
        obtain ⟨ea, ec, rfl, hec, _, hEA⟩ := hE1.arg
        have hEA' : ArgI wr.drew ea (laid K i).1.length (fun j => ((laid K i).1.getD j 0 : Int)) := hEA
        have HC1 := Lib.hid (edge_any wr.drew ea (laid K i).1.length ec (fun j => (laid K i).1.getD j 0) hEA' (by have := hok.esl; omega) (by have := hok.esl; omega) (fun j hj => by have := hok.own j hj; have := hok.len; omega) (nat0 (K i).a) p1)
        have HC2 := Lib.hid (edge_any wr.drew ea (laid K i).1.length ec (fun j => (laid K i).1.getD j 0) hEA' (by have := hok.esl; omega) (by have := hok.esl; omega) (fun j hj => by have := hok.own j hj; have := hok.len; omega) (nat0 (K i).b) p2)
        have ho1 : edgeF (fun j => (laid K i).1.getD j 0) (laid K i).1.length (nat0 (K i).a) < 2 * ((laid K i).2.length + 1) := edgeF_lt (by have := hok.esl; omega) hok.own
        have ho2 : edgeF (fun j => (laid K i).1.getD j 0) (laid K i).1.length (nat0 (K i).b) < 2 * ((laid K i).2.length + 1) := edgeF_lt (by have := hok.esl; omega) hok.own
        have hAND := And_any (hL1.rep.drew) (edgeF (fun j => (laid K i).1.getD j 0) (laid K i).1.length (nat0 (K i).a) : Nat) (edgeF (fun j => (laid K i).1.getD j 0) (laid K i).1.length (nat0 (K i).b) : Nat) (by have := hok.len; omega) (by have := hok.len; omega) (by have := hok.len; omega)
        rw [own_nat ho1, own_nat ho2, hg1] at hAND
        have HR : Hid (laid K (i + 1) = ((laid K i).1 ++ [(nxt (laid K i) (nat0 (K i).a) (nat0 (K i).b)).1], (nxt (laid K i) (nat0 (K i).a) (nat0 (K i).b)).2)) := rfl
        have HAND : Hid (Calls Try.prog 13 #[.pointer (some ⟨G.h, 0, none⟩), .int .i64 (edgeF (fun j => (laid K i).1.getD j 0) (laid K i).1.length (nat0 (K i).a) : Int), .int .i64 (edgeF (fun j => (laid K i).1.getD j 0) (laid K i).1.length (nat0 (K i).b) : Int)] wr.drew (OpE wr.drew G1 (nxt (laid K i) (nat0 (K i).a) (nat0 (K i).b)))) := hAND
        have HES : Hid (EsS W wr.drew G1 (.slice ea (laid K i).1.length ec) (laid K i).1 ∧ Law W wr.drew G1 (laid K i).2 ∧ Wf (nxt (laid K i) (nat0 (K i).a) (nat0 (K i).b)).2 ∧ G1.h = G.h ∧ (laid K i).1.length ≤ 100) :=
          ⟨hE1.after (Below.drew (Below.refl _ _)), hL1.after (Below.drew (Below.refl _ _)), hA.wf, hg1, by have := hok.esl; omega⟩
        obtain ⟨ii, hi, hz0, hz1, hz2⟩ := info_parts infoInt
        generalize edgeF (fun j => (laid K i).1.getD j 0) (laid K i).1.length (nat0 (K i).a) = x at *
        generalize edgeF (fun j => (laid K i).1.getD j 0) (laid K i).1.length (nat0 (K i).b) = y at *
        generalize nxt (laid K i) (nat0 (K i).a) (nat0 (K i).b) = r at *
        generalize nat0 (K i).a = na at *
        generalize nat0 (K i).b = nb at *
        generalize (K i).a = za at *
        generalize (K i).b = zb at *
        obtain ⟨n, hn⟩ : ∃ n, n = (laid K i).1.length := ⟨_, rfl⟩
        rw [← hn] at HC1 HC2 HES
        have HN0 := Lib.hid hn
        rw [← hn]
        clear HH hL1 hE1 hc hb hok hA hAl hEA hEA' ho1 ho2 hAND hec hn
        go_wp2_with fail
        go_region_law (first | ((refine step_append_lies _ (by rfl) _ _ 31 (by rfl) W.heap.size 3 ii (.int .i64 0) 1 8 Try.underlying31 hi hz0 hz1 hz2 rfl (by decide) _ _ _ (by rfl) (HOW.out.alloc _) ⟨w5.heap.size, 0, none⟩ 1 1 [.int .i64 (r.1 : Int)] (by rfl) (by rfl) (World.news_of_block (cs := #[.int .i64 (r.1 : Int)]) (t := 3) (fr := (0, 0)) (heap_alloc_new w5 _)) (by simp [Value.oneCell']) (by decide) (by have := HES.out.2.2.2.2; unfold maxLen; omega) (by have := HES.out.2.2.2.2; omega) (by have := HLW.out.below.size; simp; omega) (w5.heap.size + 1) (by simp) ?_; intro g cap w6 hown hgrow hat hlt1)) | (go_simp; go_at_call_of 10 (Value.int .i64 (na : Int)); refine HC1.out.mono ?_; rintro e w' ⟨rfl, rfl⟩) | (go_simp; go_at_call_of 10 (Value.int .i64 (nb : Int)); refine HC2.out.mono ?_; rintro e w' ⟨rfl, rfl⟩) | (go_simp; go_at_call 13; refine HAND.out.mono ?_; intro e w5 hop; obtain ⟨rfl, G5, g5, s1, s2⟩ := hop.thenE; have HE2 := Lib.hid (HES.out.1.op s2); have HLW := Lib.hid (HES.out.2.1.op s1 s2 HES.out.2.2.1); have HOW : Hid (w5.ownsRow W.heap.size 3 1 (.slice ea n ec) n ((laid K i).1.map encN)) := (by have := HE2.out.1; rw [← HN0.out] at this; exact this); clear s1 s2 hop))
        all_goals
          have HFF : Hid (OnceI W G.h (laid K (i + 1)).2 (laid K (i + 1)).1 (.slice (some ⟨g, 0, none⟩) (n + 1) cap) w6) := by
            have := HE2.out.push (e := r.1) HLW.out (.cells #[.int .i64 (r.1 : Int)] 3) hgrow hat (by rw [← HN0.out]; exact hown)
            rw [HR.out]
            rw [g5, HES.out.2.2.2.1, ← HN0.out] at this
            exact this
          clear hown hgrow hat hlt1 HE2 HLW HOW
          go_wp2_with fail
          go_roundw
          case rel => exact ⟨i + 1, by go_num, by omega, HFF⟩
          case measure => simp [intOf]; omega
      · obtain rfl : i = m := by omega
        have hiz : ¬ (i : Int) < (i : Int) := by omega
        obtain ⟨ev, hev⟩ : ∃ ev, ev = u4 := ⟨_, rfl⟩
        subst hev
        obtain ⟨N, hN⟩ : ∃ N, N = (laid K i).2.length + 1 := ⟨_, rfl⟩
        have HND : Hid (∀ w2 G1, G1.h = G.h → Rep w2 G1 (laid K i).2 → Calls Try.prog 15 #[.pointer (some ⟨G.h, 0, none⟩)] w2 fun e w' => e = .returned (.int .i64 (N : Int)) ∧ w2 = w') := fun w2 G1 hg hr => by rw [← hg]; exact Nodes_any hr N hN
        have HND1 : Hid (Calls Try.prog 15 #[.pointer (some ⟨G.h, 0, none⟩)] wr fun e w' => e = .returned (.int .i64 (N : Int)) ∧ wr = w') := by
          obtain ⟨G1, hg1, hL1, _⟩ := HH.out; exact HND.out wr G1 hg1 hL1.rep
        have START2 : Hid (OnceJ W G.h (laid K i).2 (laid K i).1 ev (laid K 0).1 (.slice (some ⟨wr.heap.size, 0, none⟩) (0 + 3) 3) (wr.alloc (.cells #[.int .i64 0, .int .i64 2, .int .i64 4] 3))) := by
          obtain ⟨G1, hg1, hL1, hE1⟩ := HH.out
          have hba : Below wr.heap.size wr (wr.alloc (.cells #[.int .i64 0, .int .i64 2, .int .i64 4] 3)) := (Below.refl _ _).alloc (Nat.le_refl _) _
          refine ⟨G1, hg1, hL1.after hba, hE1.after hba, ⟨⟨rfl, Or.inr ⟨wr.heap.size, 3, _, rfl, hL1.below.size, heap_alloc_new wr _, Nat.le_refl _, by decide, rfl, rfl⟩⟩, fun k hk q => ?_⟩, fun k hk q => ?_⟩
          · have : wr.heap.size = k := by simpa [Value.ownBlock] using hk
            have := hL1.rep.lt _ q
            omega
          · have : wr.heap.size = k := by simpa [Value.ownBlock] using q
            have := (hE1.1.lt _ hk).2
            omega
        have HNN := Lib.hid hN
        clear HH START hN
        go_wp2_with fail
        refine HND1.out.mono ?_
        rintro e w' ⟨rfl, rfl⟩
        go_wp2_with fail
        obtain ⟨m, hm⟩ : ∃ m, m = i := ⟨_, rfl⟩
        subst hm
        go_loopw [7, 8] (fun fv iv wr => ∃ i : Nat, iv = .int .i64 (i : Int) ∧ i ≤ m ∧ Hid (OnceJ W G.h (laid K m).2 (laid K m).1 ev (laid K i).1 fv wr)) (fun _ iv _ => m - (intOf iv).toNat)
        case atStart => exact ⟨0, rfl, Nat.zero_le _, START2⟩
        case round =>
          obtain ⟨i, rfl, hi, HH⟩ := hrel
          by_cases hlt : i < m
          · obtain ⟨G1, hg1, hL1, hE0, hE1, hNE⟩ := HH.out
            obtain ⟨b, off, rfl, hb, hc⟩ := (HAK.out.1).resolve_left (by omega)
            have hiz : (i : Int) < (m : Int) := by omega
            have i0 : (0 : Int) ≤ (i : Int) := by omega
            have hok := laid_ok K i
            have hokm := laid_ok K m
            have hlm : (laid K i).2.length ≤ (laid K m).2.length := by obtain ⟨X, hX⟩ := laid_ext K i m hi; rw [hX, List.length_append]; omega
            have hxa : wr.cell? ⟨b, off + i * 4 + 1, none⟩ = some (.int .i64 (K i).a) := (hL1.below.cell (p := ⟨b, off + i * 4 + 1, none⟩) hb).trans (hc i hlt).2.1
            have hxb : wr.cell? ⟨b, off + i * 4 + 2, none⟩ = some (.int .i64 (K i).b) := (hL1.below.cell (p := ⟨b, off + i * 4 + 2, none⟩) hb).trans (hc i hlt).2.2.1
            have mx1 := nat0_eq (K i).a
            have mx2 := nat0_eq (K i).b
            have p1 := nat0_le (HAK.out.2 i hlt).1
            have p2 := nat0_le (HAK.out.2 i hlt).2
            obtain ⟨ea, ec, rfl, hec, _, hEA⟩ := hE1.arg
            have hEA' : ArgI wr.drew ea (laid K i).1.length (fun j => ((laid K i).1.getD j 0 : Int)) := hEA
            have HC1 := Lib.hid (edge_any wr.drew ea (laid K i).1.length ec (fun j => (laid K i).1.getD j 0) hEA' (by have := hok.esl; omega) (by have := hok.esl; omega) (fun j hj => by have := hok.own j hj; have := hok.len; omega) (nat0 (K i).a) p1)
            have HC2 := Lib.hid (edge_any wr.drew ea (laid K i).1.length ec (fun j => (laid K i).1.getD j 0) hEA' (by have := hok.esl; omega) (by have := hok.esl; omega) (fun j hj => by have := hok.own j hj; have := hok.len; omega) (nat0 (K i).b) p2)
            have ho1 : edgeF (fun j => (laid K i).1.getD j 0) (laid K i).1.length (nat0 (K i).a) < 2 * ((laid K m).2.length + 1) := edgeF_lt (by have := hok.esl; omega) (fun j hj => by have := hok.own j hj; omega)
            have ho2 : edgeF (fun j => (laid K i).1.getD j 0) (laid K i).1.length (nat0 (K i).b) < 2 * ((laid K m).2.length + 1) := edgeF_lt (by have := hok.esl; omega) (fun j hj => by have := hok.own j hj; omega)
            have hAND := And_any (hL1.rep.drew) (edgeF (fun j => (laid K i).1.getD j 0) (laid K i).1.length (nat0 (K i).b) : Nat) (edgeF (fun j => (laid K i).1.getD j 0) (laid K i).1.length (nat0 (K i).a) : Nat) (by have := hokm.len; omega) (by have := hokm.len; omega) (by have := hokm.len; omega)
            rw [own_nat ho1, own_nat ho2, hg1] at hAND
            have hag := laid_again K i m hlt
            unfold nxt at hag
            rw [hag] at hAND
            have HR : Hid (laid K (i + 1) = ((laid K i).1 ++ [(nxt (laid K i) (nat0 (K i).a) (nat0 (K i).b)).1], (nxt (laid K i) (nat0 (K i).a) (nat0 (K i).b)).2)) := rfl
            have HAND : Hid (Calls Try.prog 13 #[.pointer (some ⟨G.h, 0, none⟩), .int .i64 (edgeF (fun j => (laid K i).1.getD j 0) (laid K i).1.length (nat0 (K i).b) : Int), .int .i64 (edgeF (fun j => (laid K i).1.getD j 0) (laid K i).1.length (nat0 (K i).a) : Int)] wr.drew (OpE wr.drew G1 ((nxt (laid K i) (nat0 (K i).a) (nat0 (K i).b)).1, (laid K m).2))) := hAND
            have HES : Hid (EsS W wr.drew G1 (.slice ea (laid K i).1.length ec) (laid K i).1 ∧ Law W wr.drew G1 (laid K m).2 ∧ Wf (laid K m).2 ∧ G1.h = G.h ∧ (laid K i).1.length ≤ 100) :=
              ⟨hE1.after (Below.drew (Below.refl _ _)), hL1.after (Below.drew (Below.refl _ _)), hokm.wf, hg1, by have := hok.esl; omega⟩
            have HES0 : Hid (EsS W wr.drew G1 ev (laid K m).1) := hE0.after (Below.drew (Below.refl _ _))
            have HNE := Lib.hid hNE
            obtain ⟨ii, hi, hz0, hz1, hz2⟩ := info_parts infoInt
            generalize edgeF (fun j => (laid K i).1.getD j 0) (laid K i).1.length (nat0 (K i).a) = x at *
            generalize edgeF (fun j => (laid K i).1.getD j 0) (laid K i).1.length (nat0 (K i).b) = y at *
            generalize nxt (laid K i) (nat0 (K i).a) (nat0 (K i).b) = r at *
            generalize nat0 (K i).a = na at *
            generalize nat0 (K i).b = nb at *
            generalize (K i).a = za at *
            generalize (K i).b = zb at *
            obtain ⟨n, hn⟩ : ∃ n, n = (laid K i).1.length := ⟨_, rfl⟩
            rw [← hn] at HC1 HC2 HES
            have HN0 := Lib.hid hn
            rw [← hn]
            clear HH hL1 hE0 hE1 hNE hag hc hb hok hokm hlm hEA hEA' ho1 ho2 hAND hec hn
            go_wp2_with fail
            go_region_law (first | ((refine step_append_lies _ (by rfl) _ _ 31 (by rfl) W.heap.size 3 ii (.int .i64 0) 1 8 Try.underlying31 hi hz0 hz1 hz2 rfl (by decide) _ _ _ (by rfl) (HOW.out.alloc _) ⟨w5.heap.size, 0, none⟩ 1 1 [.int .i64 (r.1 : Int)] (by rfl) (by rfl) (World.news_of_block (cs := #[.int .i64 (r.1 : Int)]) (t := 3) (fr := (0, 0)) (heap_alloc_new w5 _)) (by simp [Value.oneCell']) (by decide) (by have := HES.out.2.2.2.2; unfold maxLen; omega) (by have := HES.out.2.2.2.2; omega) (by have := HLW.out.below.size; simp; omega) (w5.heap.size + 1) (by simp) ?_; intro g cap w6 hown hgrow hat hlt1)) | (go_simp; go_at_call_of 10 (Value.int .i64 (na : Int)); refine HC1.out.mono ?_; rintro e w' ⟨rfl, rfl⟩) | (go_simp; go_at_call_of 10 (Value.int .i64 (nb : Int)); refine HC2.out.mono ?_; rintro e w' ⟨rfl, rfl⟩) | (go_simp; go_at_call 13; refine HAND.out.mono ?_; intro e w5 hop; obtain ⟨rfl, G5, g5, s1, s2⟩ := hop.thenE; have HE2 := Lib.hid (HES.out.1.op s2); have HE0 := Lib.hid (HES0.out.op s2); have HLW := Lib.hid (HES.out.2.1.op s1 s2 HES.out.2.2.1); have HOW : Hid (w5.ownsRow W.heap.size 3 1 (.slice ea n ec) n ((laid K i).1.map encN)) := (by have := HE2.out.1; rw [← HN0.out] at this; exact this); clear s1 s2 hop))
            all_goals
              have HFF : Hid (OnceJ W G.h (laid K m).2 (laid K m).1 ev (laid K (i + 1)).1 (.slice (some ⟨g, 0, none⟩) (n + 1) cap) w6) := by
                have := OnceJ.push (e := r.1) HE2.out HE0.out (by first | exact HNE.out | (rw [HN0.out]; exact HNE.out)) HLW.out (.cells #[.int .i64 (r.1 : Int)] 3) hgrow hat (by rw [← HN0.out]; exact hown)
                rw [HR.out]
                rw [g5, HES.out.2.2.2.1, ← HN0.out] at this
                exact this
              clear hown hgrow hat hlt1 HE2 HE0 HLW HOW
              go_wp2_with fail
              go_roundw
              case rel => exact ⟨i + 1, by go_num, by omega, HFF⟩
              case measure => simp [intOf]; omega
          · obtain rfl : i = m := by omega
            have hiz : ¬ (i : Int) < (i : Int) := by omega
            obtain ⟨G1, hg1, hL1, hE0, hE1, _⟩ := HH.out
            have HND2 := Lib.hid (HND.out wr G1 hg1 hL1.rep)
            obtain ⟨ea, ec, e1, _, _, hA1⟩ := hE0.arg
            obtain ⟨fa, fc, e2, _, _, hA2⟩ := hE1.arg
            have hok := laid_ok K i
            have HIN := Lib.hid (Ints_eq wr ea fa (laid K i).1.length ec fc _ hA1 hA2 (by have := hok.esl; omega))
            have HBB := Lib.hid hL1.below
            subst e1
            subst e2
            clear HH hL1 hE0 hE1 hA1 hA2 hok HND
            go_wp2_with fail
            refine HND2.out.mono ?_
            rintro e w' ⟨rfl, rfl⟩
            go_wp2_with fail
            refine HIN.out.mono ?_
            rintro e w' ⟨rfl, q, rfl⟩
            go_wp2_with fail
            go_ret
            exact ⟨rfl, HBB.out.trans ⟨rfl, rfl, rfl, Nat.le_refl _, fun _ _ => rfl⟩⟩
end Go.Proofs.Ytdenjeocmmhejaa.Gr
