/- The law GraphMany as a contract. -/
import Derived.Test.YthnbocgippjhgaaGrLoop
import Derived.Laws.AppendOwnNone
namespace Go.Proofs.Ythnbocgippjhgaa.Gr
open Go Go.RowKit Go.Lib Go.Maps

/-- 'append(s, u...)', u nil or one of the call's own. -/
theorem wpList_append_es {P : Program} {w : World} {ops : Array Oper} {rest : List Oper} {o : Oper} {a : Act} {Q : Exit → Act → World → Prop} (hgd : o.guard = none) (s x : Operand) (t : TypeId)
    (ho : o.op = .call { callee := .builtin .append, args := #[s, x], argTypes := #[t, t] })
    (base : Nat) (e : TypeId) (i : TypeInfo) (z : Value) (bytes : Nat) (ht : P.underlying t = some (.slice e)) (hi : P.info? e = some i) (hz : i.zero = some z)
    (hsize : i.size = 1) (hby : i.bytes = bytes) (hzs : z.cells.size = 1)
    (v : Value) (n : Nat) (xs : List Value) (hs : a.eval s = v) (hown : w.ownsRow base e 1 v n xs)
    (base2 : Nat) (u : Value) (m : Nat) (ys : List Value) (hx : a.eval x = u) (hu : w.ownsRow base2 e 1 u m ys) (h1 : ∀ y ∈ ys, y.oneCell' = true)
    (h63 : n + m ≤ maxLen) (hbytes : (n + m) * bytes ≤ 140737488355328) (hbase : base ≤ w.heap.size)
    (h : ∀ v' w', w'.ownsRow base e 1 v' (n + m) (xs ++ ys) → w.grownBy w' v.ownBlock → wpList P ops Q rest (a.put o.dst v') w') : wpList P ops Q (o :: rest) a w := by
  have hu0 := hu
  obtain ⟨hl, hu⟩ := hu
  rcases hu with ⟨rfl, rfl⟩ | ⟨g, cap, cur, rfl, _, hh, hc, hm, hcs, ht2⟩
  · have : ys = [] := by simpa using hl
    subst this
    refine wpList_append_own_none hgd s x t ho base e i 1 ht hi v n xs hs hown hx ?_
    exact h v w (by simpa using hown) ⟨rfl, rfl, rfl, Nat.le_refl _, fun _ _ _ => rfl⟩
  · refine wpList_append_own w hgd s x t ho base e i z 1 bytes ht hi hz hsize hby hzs (by decide) v n xs hs hown ⟨g, 0, none⟩ m cap ys hx hl (fun j q hj => ?_) h1 h63 hbytes hbase fun v' w' g1 g2 _ => h v' w' g1 g2
    rw [Addr.add_lit, Nat.zero_add]
    exact own_cell hu0 hj

theorem Law.grow {W w w1 : World} {G : Loc} {L : List Nd} {row : Option Nat} (h : Law W w G L) (hg : w.grownBy w1 row) (hrow : ∀ k, row = some k → ¬ G.has k ∧ W.heap.size ≤ k) : Law W w1 G L :=
  ⟨h.rep.of_heap fun k hk => hg.block k (h.rep.lt k hk) (fun e => (hrow k e.symm).1 hk), h.wf, h.below.grown hg h.below.size (fun k e => (hrow k e).2), h.new⟩
theorem EsS.grow {W w w1 : World} {G : Loc} {u : Value} {fs : List Nat} {row : Option Nat} (h : EsS W w G u fs) (hg : w.grownBy w1 row) (hrow : ∀ k, row = some k → u.ownBlock ≠ some k) : EsS W w1 G u fs :=
  ⟨owns_of_heap h.1 fun k hk => hg.block k (h.1.lt k hk).2 (fun e => hrow k e.symm hk), h.2⟩

def E8 (k : Nat) : Nat := [0, 1, 2, 4, 6, 3, 5, 7].getD k 0
theorem E8_lt (k : Nat) : E8 k < 8 := by
  unfold E8
  match k with | 0 => decide | 1 => decide | 2 => decide | 3 => decide | 4 => decide | 5 => decide | 6 => decide | 7 => decide | n + 8 => (show (0 : Nat) < 8; decide)
/-- The picks, in order and from behind. -/
def lsF (P : Nat → Nat) : Nat → List Nat
  | 0 => []
  | i + 1 => lsF P i ++ [E8 (P i % 8)]
def rsF (P : Nat → Nat) : Nat → List Nat
  | 0 => []
  | i + 1 => E8 (P i % 8) :: rsF P i
theorem lsF_len (P : Nat → Nat) (i : Nat) : (lsF P i).length = i := by
  induction i with
  | zero => rfl
  | succ i ih => unfold lsF; rw [List.length_append, ih]; rfl
theorem rsF_len (P : Nat → Nat) (i : Nat) : (rsF P i).length = i := by
  induction i with
  | zero => rfl
  | succ i ih => unfold rsF; rw [List.length_cons, ih]
theorem lsF_lt (P : Nat → Nat) (i : Nat) : ∀ e ∈ lsF P i, e < 8 := by
  induction i with
  | zero => intro e he; cases he
  | succ i ih =>
    intro e he
    unfold lsF at he
    rcases List.mem_append.1 he with h | h
    · exact ih e h
    · rw [List.mem_singleton.1 h]; exact E8_lt _
theorem rsF_lt (P : Nat → Nat) (i : Nat) : ∀ e ∈ rsF P i, e < 8 := by
  induction i with
  | zero => intro e he; cases he
  | succ i ih =>
    intro e he
    unfold rsF at he
    rcases List.mem_cons.1 he with h | h
    · rw [h]; exact E8_lt _
    · exact ih e h
theorem rs_all (P : Nat → Nat) (f : Nat → Bool) (i : Nat) : (rsF P i).all f = (lsF P i).all f := by
  induction i with
  | zero => rfl
  | succ i ih => unfold rsF lsF; rw [List.all_cons, List.all_append, ih, Bool.and_comm]; simp
theorem rs_any (P : Nat → Nat) (f : Nat → Bool) (i : Nat) : (rsF P i).any f = (lsF P i).any f := by
  induction i with
  | zero => rfl
  | succ i ih => unfold rsF lsF; rw [List.any_cons, List.any_append, ih, Bool.or_comm]; simp
theorem edgesN_list {L : List Nd} {zs : List Nat} (h : ∀ e ∈ zs, e < 2 * (L.length + 1)) : edgesN L (fun j => ((zs.getD j 0 : Nat) : Int)) zs.length = zs := by
  refine List.ext_getElem (by simp [edgesN]) fun j h1 h2 => ?_
  have : zs.getD j 0 = zs[j] := by rw [List.getD_eq_getElem?_getD, List.getElem?_eq_getElem h2]; rfl
  simp only [edgesN, List.getElem_map, List.getElem_range]
  rw [this]
  exact own_nat (h _ (List.getElem_mem h2))
theorem all_congr {zs : List Nat} {f g : Nat → Bool} (h : ∀ e ∈ zs, f e = g e) : zs.all f = zs.all g := by
  induction zs with
  | nil => rfl
  | cons x zs ih => rw [List.all_cons, List.all_cons, h x (by simp), ih fun e he => h e (by simp [he])]
theorem any_congr {zs : List Nat} {f g : Nat → Bool} (h : ∀ e ∈ zs, f e = g e) : zs.any f = zs.any g := by
  induction zs with
  | nil => rfl
  | cons x zs ih => rw [List.any_cons, List.any_cons, h x (by simp), ih fun e he => h e (by simp [he])]
theorem take_succ' {zs : List Nat} {k : Nat} (h : k < zs.length) : zs.take (k + 1) = zs.take k ++ [zs.getD k 0] := by
  rw [List.take_add_one, List.getD_eq_getElem?_getD, List.getElem?_eq_getElem h]; rfl

/-- Where the law stands: i picks are on both lists. -/
def ManyI (W : World) (h : Nat) (P : Nat → Nat) (i eb : Nat) (lv mv : Value) (w : World) : Prop :=
  ∃ G : Loc, G.h = h ∧ Law W w G L3 ∧ EsS W w G (.slice (some ⟨eb, 0, none⟩) 8 8) [0, 1, 2, 4, 6, 3, 5, 7] ∧ EsS W w G lv (lsF P i) ∧ EsS W w G mv (rsF P i) ∧ ∀ k, lv.ownBlock = some k → k ≠ eb ∧ mv.ownBlock ≠ some k

/-- One pick more on the first list. -/
theorem many_l {W w w1 : World} {P : Nat → Nat} {i eb g cap : Nat} {lv mv : Value} {G : Loc} (hL : Law W w G L3) (hE : EsS W w G (.slice (some ⟨eb, 0, none⟩) 8 8) [0, 1, 2, 4, 6, 3, 5, 7]) (h1 : EsS W w G lv (lsF P i)) (h2 : EsS W w G mv (rsF P i)) (hne : ∀ k, lv.ownBlock = some k → k ≠ eb ∧ mv.ownBlock ≠ some k)
    (o : Obj) (hgrow : (w.alloc o).grownBy w1 lv.ownBlock) (hat : lv.ownBlock = some g ∨ g = w.heap.size + 1) (hown : w1.ownsRow W.heap.size 3 1 (.slice (some ⟨g, 0, none⟩) (i + 1) cap) (i + 1) ((lsF P i).map encN ++ [.int .i64 (E8 (P i % 8) : Int)])) :
    Law W w1 G L3 ∧ EsS W w1 G (.slice (some ⟨eb, 0, none⟩) 8 8) [0, 1, 2, 4, 6, 3, 5, 7] ∧ EsS W w1 G (.slice (some ⟨g, 0, none⟩) (i + 1) cap) (lsF P (i + 1)) ∧ EsS W w1 G mv (rsF P i) ∧ g ≠ eb ∧ mv.ownBlock ≠ some g ∧ ¬ G.has g := by
  have ba : Below w.heap.size w (w.alloc o) := (Below.refl _ _).alloc (Nat.le_refl _) _
  have hgh : ¬ G.has g := fun q => by
    rcases hat with e | e
    · exact h1.2 _ e q
    · have := hL.rep.lt _ q; omega
  refine ⟨(hL.after ba).grow hgrow fun k hk => ⟨h1.2 k hk, (h1.1.lt k hk).1⟩, (hE.after ba).grow hgrow fun k hk e => (hne k hk).1 (by simpa [Value.ownBlock] using e.symm), ⟨?_, fun k hk => ?_⟩, (h2.after ba).grow hgrow fun k hk => (hne k hk).2, ?_, ?_, hgh⟩
  · have e : (lsF P (i + 1)).map encN = (lsF P i).map encN ++ [.int .i64 (E8 (P i % 8) : Int)] := by show (lsF P i ++ [E8 (P i % 8)]).map encN = _; rw [List.map_append]; rfl
    rw [lsF_len, e]; exact hown
  · have : g = k := by simpa [Value.ownBlock] using hk
    rw [← this]; exact hgh
  · intro e
    rcases hat with q | q
    · exact (hne g q).1 e
    · have := (hE.1.lt eb rfl).2; omega
  · intro e
    rcases hat with q | q
    · exact (hne g q).2 e
    · have := (h2.1.lt g e).2; omega
/-- The graph and two lists of edges. -/
def PackI (W : World) (h : Nat) (L : List Nd) (a : List Nat) (u : Value) (b : List Nat) (v : Value) (w : World) : Prop := ∃ G : Loc, G.h = h ∧ Law W w G L ∧ EsS W w G u a ∧ EsS W w G v b
theorem Pack_arg {W w : World} {G : Loc} {x : Value} {zs : List Nat} {L : List Nd} (h : EsS W w G x zs) (hz : ∀ e ∈ zs, e < 2 * (L.length + 1)) (hl : L.length < 100000) : ∃ a c, x = .slice a zs.length c ∧ ArgI w a zs.length (fun j => ((zs.getD j 0 : Nat) : Int)) ∧ (∀ j, j < zs.length → ((zs.getD j 0 : Nat) : Int) ≤ 9223372036854775807) ∧ edgesN L (fun j => ((zs.getD j 0 : Nat) : Int)) zs.length = zs := by
  obtain ⟨a, c, e, _, _, ha⟩ := h.arg
  refine ⟨a, c, e, ha, fun j hj => ?_, edgesN_list hz⟩
  have := hz (zs.getD j 0) (by rw [List.getD_eq_getElem?_getD, List.getElem?_eq_getElem hj]; exact List.getElem_mem hj)
  omega
theorem All_pack {W w : World} {h : Nat} {L : List Nd} {a b : List Nat} {u v : Value} (hp : PackI W h L a u b v w) (zs : List Nat) (x : Value) (hx : (x = u ∧ zs = a) ∨ (x = v ∧ zs = b)) (hz : ∀ e ∈ zs, e < 2 * (L.length + 1)) (hlen : zs.length ≤ 1000) (hl : L.length < 100000) :
    Calls Try.prog 17 #[.pointer (some ⟨h, 0, none⟩), x] w fun e w' => e = .returned (.int .i64 ((allE L zs).1 : Int)) ∧ PackI W h (allE L zs).2 a u b v w' := by
  obtain ⟨G, rfl, hL, hu, hv⟩ := hp
  have hxs : EsS W w G x zs := by
    rcases hx with ⟨rfl, rfl⟩ | ⟨rfl, rfl⟩
    · exact hu
    · exact hv
  obtain ⟨ad, c, rfl, h1, h2, h3⟩ := Pack_arg hxs hz hl
  have hc := All_any hL.rep hL.wf ad zs.length c _ h1 hlen h2 (by omega)
  rw [h3] at hc
  refine hc.mono fun e w' hop => ?_
  obtain ⟨rfl, G', g', s1, s2⟩ := hop.thenE
  exact ⟨rfl, G', g', hL.op s1 s2 (allE_ans hL.wf zs hz).wf, hu.op s2, hv.op s2⟩
theorem Any_pack {W w : World} {h : Nat} {L : List Nd} {a b : List Nat} {u v : Value} (hp : PackI W h L a u b v w) (zs : List Nat) (x : Value) (hx : (x = u ∧ zs = a) ∨ (x = v ∧ zs = b)) (hz : ∀ e ∈ zs, e < 2 * (L.length + 1)) (hlen : zs.length ≤ 1000) (hl : L.length < 100000) :
    Calls Try.prog 21 #[.pointer (some ⟨h, 0, none⟩), x] w fun e w' => e = .returned (.int .i64 ((anyE L zs).1 : Int)) ∧ PackI W h (anyE L zs).2 a u b v w' := by
  obtain ⟨G, rfl, hL, hu, hv⟩ := hp
  have hxs : EsS W w G x zs := by
    rcases hx with ⟨rfl, rfl⟩ | ⟨rfl, rfl⟩
    · exact hu
    · exact hv
  obtain ⟨ad, c, rfl, h1, h2, h3⟩ := Pack_arg hxs hz hl
  have hc := Any_any hL.rep hL.wf ad zs.length c _ h1 hlen h2 (by omega)
  rw [h3] at hc
  refine hc.mono fun e w' hop => ?_
  obtain ⟨rfl, G', g', s1, s2⟩ := hop.thenE
  exact ⟨rfl, G', g', hL.op s1 s2 (anyE_ans hL.wf zs hz).wf, hu.op s2, hv.op s2⟩

/-- What the four answers are. -/
structure ManyV (ls : List Nat) (L1 L2 L3' L4 : List Nd) (x1 x2 x3 x4 : Nat) : Prop where
  len1 : 3 ≤ L1.length ∧ L1.length ≤ L2.length ∧ L2.length ≤ L3'.length ∧ L4.length ≤ 100
  own1 : x1 < 2 * (L4.length + 1) ∧ x2 < 2 * (L4.length + 1) ∧ x3 < 2 * (L4.length + 1) ∧ x4 < 2 * (L4.length + 1)
  v1 : ∀ m, val m L4 x1 = ls.all (val m L3)
  v2 : ∀ m, val m L4 x2 = ls.all (val m L3)
  v3 : ∀ m, val m L4 x3 = ls.any (val m L3)
  v4 : ∀ m, val m L4 x4 = ls.any (val m L3)
theorem manyV (P : Nat → Nat) (n : Nat) (hn : n ≤ 20) : ManyV (lsF P n) (allE L3 (lsF P n)).2 (allE (allE L3 (lsF P n)).2 (rsF P n)).2 (anyE (allE (allE L3 (lsF P n)).2 (rsF P n)).2 (lsF P n)).2 (anyE (anyE (allE (allE L3 (lsF P n)).2 (rsF P n)).2 (lsF P n)).2 (rsF P n)).2
    (allE L3 (lsF P n)).1 (allE (allE L3 (lsF P n)).2 (rsF P n)).1 (anyE (allE (allE L3 (lsF P n)).2 (rsF P n)).2 (lsF P n)).1 (anyE (anyE (allE (allE L3 (lsF P n)).2 (rsF P n)).2 (lsF P n)).2 (rsF P n)).1 := by
  have w0 : Wf L3 := Wf.nil.input.input.input
  have l0 : L3.length = 3 := rfl
  have A1 := allE_ans w0 (lsF P n) (fun e he => by have := lsF_lt P n e he; omega)
  have le1 := A1.le; have ln1 := A1.lenle
  have A2 := allE_ans A1.wf (rsF P n) (fun e he => by have := rsF_lt P n e he; omega)
  have le2 := A2.le; have ln2 := A2.lenle
  have A3 := anyE_ans A2.wf (lsF P n) (fun e he => by have := lsF_lt P n e he; omega)
  have le3 := A3.le; have ln3 := A3.lenle
  have A4 := anyE_ans A3.wf (rsF P n) (fun e he => by have := rsF_lt P n e he; omega)
  have le4 := A4.le; have ln4 := A4.lenle
  rw [lsF_len] at ln1 ln3
  rw [rsF_len] at ln2 ln4
  have o1 := A1.own; have o2 := A2.own; have o3 := A3.own; have o4 := A4.own
  have k1 : ∀ (m : Nat → Bool) e, e < 8 → val m (allE L3 (lsF P n)).2 e = val m L3 e := fun m e he => A1.old (by omega) m
  have k2 : ∀ (m : Nat → Bool) e, e < 8 → val m (allE (allE L3 (lsF P n)).2 (rsF P n)).2 e = val m L3 e := fun m e he => (A2.old (by omega) m).trans (k1 m e he)
  have k3 : ∀ (m : Nat → Bool) e, e < 8 → val m (anyE (allE (allE L3 (lsF P n)).2 (rsF P n)).2 (lsF P n)).2 e = val m L3 e := fun m e he => (A3.old (by omega) m).trans (k2 m e he)
  refine ⟨⟨by omega, by omega, by omega, by omega⟩, ⟨by omega, by omega, by omega, by omega⟩, fun m => ?_, fun m => ?_, fun m => ?_, fun m => ?_⟩
  · rw [A4.old (by omega), A3.old (by omega), A2.old (by omega), A1.val]
  · rw [A4.old (by omega), A3.old (by omega), A2.val, all_congr (g := val m L3) (fun e he => k1 m e (rsF_lt P n e he)), rs_all]
  · rw [A4.old (by omega), A3.val]
    exact any_congr fun e he => k2 m e (lsF_lt P n e he)
  · rw [A4.val, any_congr (g := val m L3) (fun e he => k3 m e (rsF_lt P n e he)), rs_any]


end Go.Proofs.Ythnbocgippjhgaa.Gr
