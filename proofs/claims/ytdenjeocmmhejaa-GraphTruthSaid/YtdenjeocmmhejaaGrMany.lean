/- The law GraphMany as a contract. -/
import Derived.Test.YtdenjeocmmhejaaGrLoop
import Derived.Laws.AppendOwnNone
namespace Go.Proofs.Ytdenjeocmmhejaa.Gr
open Go Go.RowKit Go.Lib Go.Maps

/-- 'append(s, u...)', u nil or one of the call's own. -/
theorem wpList_append_es {P : Program} {w : World} {ops : Array Oper} {rest : List Oper} {o : Oper} {a : Act} {Q : Exit → Act → World → Prop} (hgd : o.guard = none) (s x : Operand) (t : TypeId)
    (ho : o.op = .call { callee := .builtin .append, args := #[s, x], argTypes := #[t, t] })
    (base : Nat) (e : TypeId) (i : TypeInfo) (z : Value) (bytes : Nat) (ht : P.underlying t = some (.slice e)) (hi : P.info? e = some i) (hz : i.zero = some z)
    (hsize : i.size = 1) (hby : i.bytes = bytes) (hzs : z.cells.size = 1)
    (v : Value) (n : Nat) (xs : List Value) (hs : a.eval s = v) (hown : w.ownsRow base e 1 v n xs)
    (base2 : Nat) (u : Value) (m : Nat) (ys : List Value) (hx : a.eval x = u) (hu : w.ownsRow base2 e 1 u m ys) (h1 : ∀ y ∈ ys, y.oneCell' = true)
    (h63 : n + m ≤ maxLen) (hbytes : (n + m) * bytes ≤ 140737488355328) (hbase : base ≤ w.heap.size)
    (h : ∀ v' w', w'.ownsRow base e 1 v' (n + m) (xs ++ ys) → w.grownBy w' v.ownBlock → wpList P ops Q rest (a.put o.dst v') w') : wpList P ops Q (o :: rest) a w := by
  have hu0 := hu
  obtain ⟨hl, hu⟩ := hu
  rcases hu with ⟨rfl, rfl⟩ | ⟨g, cap, cur, rfl, _, hh, hc, hm, hcs, ht2⟩
  · have : ys = [] := by simpa using hl
    subst this
    refine wpList_append_own_none hgd s x t ho base e i 1 ht hi v n xs hs hown hx ?_
    exact h v w (by simpa using hown) ⟨rfl, rfl, rfl, Nat.le_refl _, fun _ _ _ => rfl⟩
  · refine wpList_append_own w hgd s x t ho base e i z 1 bytes ht hi hz hsize hby hzs (by decide) v n xs hs hown ⟨g, 0, none⟩ m cap ys hx hl (fun j q hj => ?_) h1 h63 hbytes hbase fun v' w' g1 g2 _ => h v' w' g1 g2
    rw [Addr.add_lit, Nat.zero_add]
    exact own_cell hu0 hj

theorem Law.grow {W w w1 : World} {G : Loc} {L : List Nd} {row : Option Nat} (h : Law W w G L) (hg : w.grownBy w1 row) (hrow : ∀ k, row = some k → ¬ G.has k ∧ W.heap.size ≤ k) : Law W w1 G L :=
  ⟨h.rep.of_heap fun k hk => hg.block k (h.rep.lt k hk) (fun e => (hrow k e.symm).1 hk), h.wf, h.below.grown hg h.below.size (fun k e => (hrow k e).2), h.new⟩
theorem EsS.grow {W w w1 : World} {G : Loc} {u : Value} {fs : List Nat} {row : Option Nat} (h : EsS W w G u fs) (hg : w.grownBy w1 row) (hrow : ∀ k, row = some k → u.ownBlock ≠ some k) : EsS W w1 G u fs :=
  ⟨owns_of_heap h.1 fun k hk => hg.block k (h.1.lt k hk).2 (fun e => hrow k e.symm hk), h.2⟩

def E8 (k : Nat) : Nat := [0, 1, 2, 4, 6, 3, 5, 7].getD k 0
theorem E8_lt (k : Nat) : E8 k < 8 := by
  unfold E8
  match k with | 0 => decide | 1 => decide | 2 => decide | 3 => decide | 4 => decide | 5 => decide | 6 => decide | 7 => decide | n + 8 => (show (0 : Nat) < 8; decide)
/-- The picks, in order and from behind. -/
def lsF (P : Nat → Nat) : Nat → List Nat
  | 0 => []
  | i + 1 => lsF P i ++ [E8 (P i % 8)]
def rsF (P : Nat → Nat) : Nat → List Nat
  | 0 => []
  | i + 1 => E8 (P i % 8) :: rsF P i
theorem lsF_len (P : Nat → Nat) (i : Nat) : (lsF P i).length = i := by
  induction i with
  | zero => rfl
  | succ i ih => unfold lsF; rw [List.length_append, ih]; rfl
theorem rsF_len (P : Nat → Nat) (i : Nat) : (rsF P i).length = i := by
  induction i with
  | zero => rfl
  | succ i ih => unfold rsF; rw [List.length_cons, ih]
theorem lsF_lt (P : Nat → Nat) (i : Nat) : ∀ e ∈ lsF P i, e < 8 := by
  induction i with
  | zero => intro e he; cases he
  | succ i ih =>
    intro e he
    unfold lsF at he
    rcases List.mem_append.1 he with h | h
    · exact ih e h
    · rw [List.mem_singleton.1 h]; exact E8_lt _
theorem rsF_lt (P : Nat → Nat) (i : Nat) : ∀ e ∈ rsF P i, e < 8 := by
  induction i with
  | zero => intro e he; cases he
  | succ i ih =>
    intro e he
    unfold rsF at he
    rcases List.mem_cons.1 he with h | h
    · rw [h]; exact E8_lt _
    · exact ih e h
theorem rs_all (P : Nat → Nat) (f : Nat → Bool) (i : Nat) : (rsF P i).all f = (lsF P i).all f := by
  induction i with
  | zero => rfl
  | succ i ih => unfold rsF lsF; rw [List.all_cons, List.all_append, ih, Bool.and_comm]; simp
theorem rs_any (P : Nat → Nat) (f : Nat → Bool) (i : Nat) : (rsF P i).any f = (lsF P i).any f := by
  induction i with
  | zero => rfl
  | succ i ih => unfold rsF lsF; rw [List.any_cons, List.any_append, ih, Bool.or_comm]; simp
theorem edgesN_list {L : List Nd} {zs : List Nat} (h : ∀ e ∈ zs, e < 2 * (L.length + 1)) : edgesN L (fun j => ((zs.getD j 0 : Nat) : Int)) zs.length = zs := by
  refine List.ext_getElem (by simp [edgesN]) fun j h1 h2 => ?_
  have : zs.getD j 0 = zs[j] := by rw [List.getD_eq_getElem?_getD, List.getElem?_eq_getElem h2]; rfl
  simp only [edgesN, List.getElem_map, List.getElem_range]
  rw [this]
  exact own_nat (h _ (List.getElem_mem h2))
theorem all_congr {zs : List Nat} {f g : Nat → Bool} (h : ∀ e ∈ zs, f e = g e) : zs.all f = zs.all g := by
  induction zs with
  | nil => rfl
  | cons x zs ih => rw [List.all_cons, List.all_cons, h x (by simp), ih fun e he => h e (by simp [he])]
theorem any_congr {zs : List Nat} {f g : Nat → Bool} (h : ∀ e ∈ zs, f e = g e) : zs.any f = zs.any g := by
  induction zs with
  | nil => rfl
  | cons x zs ih => rw [List.any_cons, List.any_cons, h x (by simp), ih fun e he => h e (by simp [he])]
theorem take_succ' {zs : List Nat} {k : Nat} (h : k < zs.length) : zs.take (k + 1) = zs.take k ++ [zs.getD k 0] := by
  rw [List.take_add_one, List.getD_eq_getElem?_getD, List.getElem?_eq_getElem h]; rfl

/-- Where the law stands: i picks are on both lists. -/
def ManyI (W : World) (h : Nat) (P : Nat → Nat) (i eb : Nat) (lv mv : Value) (w : World) : Prop :=
  ∃ G : Loc, G.h = h ∧ Law W w G L3 ∧ EsS W w G (.slice (some ⟨eb, 0, none⟩) 8 8) [0, 1, 2, 4, 6, 3, 5, 7] ∧ EsS W w G lv (lsF P i) ∧ EsS W w G mv (rsF P i) ∧ ∀ k, lv.ownBlock = some k → k ≠ eb ∧ mv.ownBlock ≠ some k

/-- One pick more on the first list. -/
theorem many_l {W w w1 : World} {P : Nat → Nat} {i eb g cap : Nat} {lv mv : Value} {G : Loc} (hL : Law W w G L3) (hE : EsS W w G (.slice (some ⟨eb, 0, none⟩) 8 8) [0, 1, 2, 4, 6, 3, 5, 7]) (h1 : EsS W w G lv (lsF P i)) (h2 : EsS W w G mv (rsF P i)) (hne : ∀ k, lv.ownBlock = some k → k ≠ eb ∧ mv.ownBlock ≠ some k)
    (o : Obj) (hgrow : (w.alloc o).grownBy w1 lv.ownBlock) (hat : lv.ownBlock = some g ∨ g = w.heap.size + 1) (hown : w1.ownsRow W.heap.size 3 1 (.slice (some ⟨g, 0, none⟩) (i + 1) cap) (i + 1) ((lsF P i).map encN ++ [.int .i64 (E8 (P i % 8) : Int)])) :
    Law W w1 G L3 ∧ EsS W w1 G (.slice (some ⟨eb, 0, none⟩) 8 8) [0, 1, 2, 4, 6, 3, 5, 7] ∧ EsS W w1 G (.slice (some ⟨g, 0, none⟩) (i + 1) cap) (lsF P (i + 1)) ∧ EsS W w1 G mv (rsF P i) ∧ g ≠ eb ∧ mv.ownBlock ≠ some g ∧ ¬ G.has g := by
  have ba : Below w.heap.size w (w.alloc o) := (Below.refl _ _).alloc (Nat.le_refl _) _
  have hgh : ¬ G.has g := fun q => by
    rcases hat with e | e
    · exact h1.2 _ e q
    · have := hL.rep.lt _ q; omega
  refine ⟨(hL.after ba).grow hgrow fun k hk => ⟨h1.2 k hk, (h1.1.lt k hk).1⟩, (hE.after ba).grow hgrow fun k hk e => (hne k hk).1 (by simpa [Value.ownBlock] using e.symm), ⟨?_, fun k hk => ?_⟩, (h2.after ba).grow hgrow fun k hk => (hne k hk).2, ?_, ?_, hgh⟩
  · have e : (lsF P (i + 1)).map encN = (lsF P i).map encN ++ [.int .i64 (E8 (P i % 8) : Int)] := by show (lsF P i ++ [E8 (P i % 8)]).map encN = _; rw [List.map_append]; rfl
    rw [lsF_len, e]; exact hown
  · have : g = k := by simpa [Value.ownBlock] using hk
    rw [← this]; exact hgh
  · intro e
    rcases hat with q | q
    · exact (hne g q).1 e
    · have := (hE.1.lt eb rfl).2; omega
  · intro e
    rcases hat with q | q
    · exact (hne g q).2 e
    · have := (h2.1.lt g e).2; omega
/-- The graph and two lists of edges. -/
def PackI (W : World) (h : Nat) (L : List Nd) (a : List Nat) (u : Value) (b : List Nat) (v : Value) (w : World) : Prop := ∃ G : Loc, G.h = h ∧ Law W w G L ∧ EsS W w G u a ∧ EsS W w G v b
theorem Pack_arg {W w : World} {G : Loc} {x : Value} {zs : List Nat} {L : List Nd} (h : EsS W w G x zs) (hz : ∀ e ∈ zs, e < 2 * (L.length + 1)) (hl : L.length < 100000) : ∃ a c, x = .slice a zs.length c ∧ ArgI w a zs.length (fun j => ((zs.getD j 0 : Nat) : Int)) ∧ (∀ j, j < zs.length → ((zs.getD j 0 : Nat) : Int) ≤ 9223372036854775807) ∧ edgesN L (fun j => ((zs.getD j 0 : Nat) : Int)) zs.length = zs := by
  obtain ⟨a, c, e, _, _, ha⟩ := h.arg
  refine ⟨a, c, e, ha, fun j hj => ?_, edgesN_list hz⟩
  have := hz (zs.getD j 0) (by rw [List.getD_eq_getElem?_getD, List.getElem?_eq_getElem hj]; exact List.getElem_mem hj)
  omega
theorem All_pack {W w : World} {h : Nat} {L : List Nd} {a b : List Nat} {u v : Value} (hp : PackI W h L a u b v w) (zs : List Nat) (x : Value) (hx : (x = u ∧ zs = a) ∨ (x = v ∧ zs = b)) (hz : ∀ e ∈ zs, e < 2 * (L.length + 1)) (hlen : zs.length ≤ 1000) (hl : L.length < 100000) :
    Calls Try.prog 20 #[.pointer (some ⟨h, 0, none⟩), x] w fun e w' => e = .returned (.int .i64 ((allE L zs).1 : Int)) ∧ PackI W h (allE L zs).2 a u b v w' := by
  obtain ⟨G, rfl, hL, hu, hv⟩ := hp
  have hxs : EsS W w G x zs := by
    rcases hx with ⟨rfl, rfl⟩ | ⟨rfl, rfl⟩
    · exact hu
    · exact hv
  obtain ⟨ad, c, rfl, h1, h2, h3⟩ := Pack_arg hxs hz hl
  have hc := All_any hL.rep hL.wf ad zs.length c _ h1 hlen h2 (by omega)
  rw [h3] at hc
  refine hc.mono fun e w' hop => ?_
  obtain ⟨rfl, G', g', s1, s2⟩ := hop.thenE
  exact ⟨rfl, G', g', hL.op s1 s2 (allE_ans hL.wf zs hz).wf, hu.op s2, hv.op s2⟩
theorem Any_pack {W w : World} {h : Nat} {L : List Nd} {a b : List Nat} {u v : Value} (hp : PackI W h L a u b v w) (zs : List Nat) (x : Value) (hx : (x = u ∧ zs = a) ∨ (x = v ∧ zs = b)) (hz : ∀ e ∈ zs, e < 2 * (L.length + 1)) (hlen : zs.length ≤ 1000) (hl : L.length < 100000) :
    Calls Try.prog 24 #[.pointer (some ⟨h, 0, none⟩), x] w fun e w' => e = .returned (.int .i64 ((anyE L zs).1 : Int)) ∧ PackI W h (anyE L zs).2 a u b v w' := by
  obtain ⟨G, rfl, hL, hu, hv⟩ := hp
  have hxs : EsS W w G x zs := by
    rcases hx with ⟨rfl, rfl⟩ | ⟨rfl, rfl⟩
    · exact hu
    · exact hv
  obtain ⟨ad, c, rfl, h1, h2, h3⟩ := Pack_arg hxs hz hl
  have hc := Any_any hL.rep hL.wf ad zs.length c _ h1 hlen h2 (by omega)
  rw [h3] at hc
  refine hc.mono fun e w' hop => ?_
  obtain ⟨rfl, G', g', s1, s2⟩ := hop.thenE
  exact ⟨rfl, G', g', hL.op s1 s2 (anyE_ans hL.wf zs hz).wf, hu.op s2, hv.op s2⟩

/-- What the four answers are. -/
structure ManyV (ls : List Nat) (L1 L2 L3' L4 : List Nd) (x1 x2 x3 x4 : Nat) : Prop where
  len1 : 3 ≤ L1.length ∧ L1.length ≤ L2.length ∧ L2.length ≤ L3'.length ∧ L4.length ≤ 100
  own1 : x1 < 2 * (L4.length + 1) ∧ x2 < 2 * (L4.length + 1) ∧ x3 < 2 * (L4.length + 1) ∧ x4 < 2 * (L4.length + 1)
  v1 : ∀ m, val m L4 x1 = ls.all (val m L3)
  v2 : ∀ m, val m L4 x2 = ls.all (val m L3)
  v3 : ∀ m, val m L4 x3 = ls.any (val m L3)
  v4 : ∀ m, val m L4 x4 = ls.any (val m L3)
theorem manyV (P : Nat → Nat) (n : Nat) (hn : n ≤ 20) : ManyV (lsF P n) (allE L3 (lsF P n)).2 (allE (allE L3 (lsF P n)).2 (rsF P n)).2 (anyE (allE (allE L3 (lsF P n)).2 (rsF P n)).2 (lsF P n)).2 (anyE (anyE (allE (allE L3 (lsF P n)).2 (rsF P n)).2 (lsF P n)).2 (rsF P n)).2
    (allE L3 (lsF P n)).1 (allE (allE L3 (lsF P n)).2 (rsF P n)).1 (anyE (allE (allE L3 (lsF P n)).2 (rsF P n)).2 (lsF P n)).1 (anyE (anyE (allE (allE L3 (lsF P n)).2 (rsF P n)).2 (lsF P n)).2 (rsF P n)).1 := by
  have w0 : Wf L3 := Wf.nil.input.input.input
  have l0 : L3.length = 3 := rfl
  have A1 := allE_ans w0 (lsF P n) (fun e he => by have := lsF_lt P n e he; omega)
  have le1 := A1.le; have ln1 := A1.lenle
  have A2 := allE_ans A1.wf (rsF P n) (fun e he => by have := rsF_lt P n e he; omega)
  have le2 := A2.le; have ln2 := A2.lenle
  have A3 := anyE_ans A2.wf (lsF P n) (fun e he => by have := lsF_lt P n e he; omega)
  have le3 := A3.le; have ln3 := A3.lenle
  have A4 := anyE_ans A3.wf (rsF P n) (fun e he => by have := rsF_lt P n e he; omega)
  have le4 := A4.le; have ln4 := A4.lenle
  rw [lsF_len] at ln1 ln3
  rw [rsF_len] at ln2 ln4
  have o1 := A1.own; have o2 := A2.own; have o3 := A3.own; have o4 := A4.own
  have k1 : ∀ (m : Nat → Bool) e, e < 8 → val m (allE L3 (lsF P n)).2 e = val m L3 e := fun m e he => A1.old (by omega) m
  have k2 : ∀ (m : Nat → Bool) e, e < 8 → val m (allE (allE L3 (lsF P n)).2 (rsF P n)).2 e = val m L3 e := fun m e he => (A2.old (by omega) m).trans (k1 m e he)
  have k3 : ∀ (m : Nat → Bool) e, e < 8 → val m (anyE (allE (allE L3 (lsF P n)).2 (rsF P n)).2 (lsF P n)).2 e = val m L3 e := fun m e he => (A3.old (by omega) m).trans (k2 m e he)
  refine ⟨⟨by omega, by omega, by omega, by omega⟩, ⟨by omega, by omega, by omega, by omega⟩, fun m => ?_, fun m => ?_, fun m => ?_, fun m => ?_⟩
  · rw [A4.old (by omega), A3.old (by omega), A2.old (by omega), A1.val]
  · rw [A4.old (by omega), A3.old (by omega), A2.val, all_congr (g := val m L3) (fun e he => k1 m e (rsF_lt P n e he)), rs_all]
  · rw [A4.old (by omega), A3.val]
    exact any_congr fun e he => k2 m e (lsF_lt P n e he)
  · rw [A4.val, any_congr (g := val m L3) (fun e he => k3 m e (rsF_lt P n e he)), rs_any]

set_option maxRecDepth 100000 in
set_option maxHeartbeats 2000000 in
theorem GraphMany_law (pa : Option Addr) (n pc : Nat) (P : Nat → Nat) (ma : Option Addr) (mn mc : Nat) (M : Nat → Bool) (W : World) (hp : ArgV (fun j => .int .u8 (P j : Int)) W pa n) (hP : ∀ j, P j < 256) (hn9 : n ≤ 9223372036854775807) (hm : ArgV (fun j => .bool (M j)) W ma mn) (hm9 : mn ≤ 9223372036854775807) :
    Calls Try.prog 6 #[.slice pa n pc, .slice ma mn mc] W fun e w' => e = .returned (.bool true) ∧ Below W.heap.size W w' := by
  have HAW := Lib.hid awake_any
  by_cases hbig : (20 : Int) < (n : Int) ∨ (20 : Int) < (mn : Int)
  · have HB : Hid (∀ (v : Bool), True) := fun _ => trivial
    by_cases h1 : (20 : Int) < (n : Int)
    all_goals
      have h2 : ¬ (20 : Int) < (n : Int) → (20 : Int) < (mn : Int) := fun q => hbig.resolve_left q
      try have h3 := h2 h1
      clear hbig h2 hp hm hP HB
      go_enter Try.func6, Try.ntmps6
      go_wp2_with fail
      refine (HAW.out W).mono ?_
      rintro e w1 ⟨rfl, hb1⟩
      have HB1 := Lib.hid hb1
      clear hb1
      go_wp2_with fail
      refine (HAW.out w1).mono ?_
      rintro e w2 ⟨rfl, hb2⟩
      have HB2 := Lib.hid (HB1.out.trans (hb2.mono HB1.out.size))
      clear hb2
      go_wp2_with fail
      go_ret
      exact ⟨rfl, HB2.out⟩
  · have h1 : ¬ (20 : Int) < (n : Int) := fun q => hbig (Or.inl q)
    have h2 : ¬ (20 : Int) < (mn : Int) := fun q => hbig (Or.inr q)
    have HA := Lib.hid (And.intro hp (And.intro hP hm))
    have hn20 : n ≤ 20 := by omega
    have hm20 : mn ≤ 20 := by omega
    clear hbig hp hm hP
    go_enter Try.func6, Try.ntmps6
    go_wp2_with fail
    refine (HAW.out W).mono ?_
    rintro e w1 ⟨rfl, hb1⟩
    have HB1 := Lib.hid hb1
    have HN := Lib.hid (New_any w1)
    clear hb1
    go_wp2_with fail
    refine HN.out.mono ?_
    rintro e w2 ⟨G, rfl, r1, r2, r3⟩
    have HL : Hid (Law W w2 G []) := ⟨r1, Wf.nil, HB1.out.trans (r2.mono HB1.out.size), fun k hk => Nat.le_trans HB1.out.size (r3 k hk)⟩
    have HI := Lib.hid (Input_any r1 (by decide))
    clear r1 r2 r3 HN
    go_wp2_with fail
    refine HI.out.mono ?_
    intro e w3 hop
    obtain ⟨rfl, G2, g2, s1, s2⟩ := hop.thenE
    have HL2 : Hid (Law W w3 G2 [none]) := HL.out.op s1 s2 Wf.nil.input
    have HI2 : Hid (Calls Try.prog 11 #[.pointer (some ⟨G.h, 0, none⟩)] w3 (OpE w3 G2 (4, [none, none]))) := by rw [← g2]; exact Input_any s1 (by decide)
    clear s1 s2 hop HI HL
    go_wp2_with fail
    refine HI2.out.mono ?_
    intro e w4 hop
    obtain ⟨rfl, G3, g3, s1, s2⟩ := hop.thenE
    have HL3 : Hid (Law W w4 G3 [none, none]) := HL2.out.op s1 s2 HL2.out.wf.input
    have HI3 : Hid (Calls Try.prog 11 #[.pointer (some ⟨G.h, 0, none⟩)] w4 (OpE w4 G3 (6, [none, none, none]))) := by rw [← g2, ← g3]; exact Input_any s1 (by decide)
    clear s1 s2 hop HI2 HL2
    go_wp2_with fail
    refine HI3.out.mono ?_
    intro e w5 hop
    obtain ⟨rfl, G4, g4, s1, s2⟩ := hop.thenE
    have HL4 : Hid (Law W w5 G4 L3) := HL3.out.op s1 s2 HL3.out.wf.input
    have HG : Hid (G4.h = G.h) := by rw [Hid, g4, g3, g2]
    clear s1 s2 hop HI3 HL3 g2 g3 g4
    have START : Hid (ManyI W G.h P 0 w5.heap.size (.slice none 0 0) (.slice none 0 0) (w5.alloc (.cells #[.int .i64 0, .int .i64 1, .int .i64 2, .int .i64 4, .int .i64 6, .int .i64 3, .int .i64 5, .int .i64 7] 3))) := by
      refine ⟨G4, HG.out, HL4.out.after ((Below.refl _ _).alloc (Nat.le_refl _) _), ⟨⟨rfl, Or.inr ⟨w5.heap.size, 8, _, rfl, HL4.out.below.size, heap_alloc_new w5 _, Nat.le_refl _, by decide, rfl, rfl⟩⟩, fun k hk q => ?_⟩, ⟨World.ownsRow_nil _ _ _ _, fun k hk => by simp [Value.ownBlock] at hk⟩, ⟨World.ownsRow_nil _ _ _ _, fun k hk => by simp [Value.ownBlock] at hk⟩, fun k hk => by simp [Value.ownBlock] at hk⟩
      have : w5.heap.size = k := by simpa [Value.ownBlock] using hk
      have := HL4.out.rep.lt _ q
      omega
    go_wp2_with fail
    go_loopw [7, 8, 9] (fun lv mv iv wr => ∃ i : Nat, iv = .int .i64 (i : Int) ∧ i ≤ n ∧ Hid (ManyI W G.h P i w5.heap.size lv mv wr)) (fun _ _ iv _ => n - (intOf iv).toNat)
    case atStart => exact ⟨0, rfl, Nat.zero_le _, START⟩
    case round =>
      obtain ⟨i, rfl, hi, HH⟩ := hrel
      by_cases hlt : i < n
      · obtain ⟨G1, hg1, hL1, hE1, hl, hm, hne⟩ := HH.out
        obtain ⟨b, off, rfl, hb, hc⟩ := (HA.out.1).resolve_left (by omega)
        have hiz : (i : Int) < (n : Int) := by omega
        have i0 : (0 : Int) ≤ (i : Int) := by omega
        have c1 : wr.cell? ⟨b, off + i, none⟩ = some (.int .u8 (P i : Int)) := (hL1.below.cell (p := ⟨b, off + i, none⟩) hb).trans (hc i hlt)
        have HC2 : Hid (∀ w6, Below W.heap.size W w6 → w6.cell? ⟨b, off + i, none⟩ = some (.int .u8 (P i : Int))) := fun w6 h6 => (h6.cell (p := ⟨b, off + i, none⟩) hb).trans (hc i hlt)
        obtain ⟨q1, hq1⟩ : ∃ q, q = P i % 8 := ⟨_, rfl⟩
        have hP1 := HA.out.2.1 i
        have m1 : (P i : Int).tmod 8 = (q1 : Int) := by rw [Int.tmod_eq_emod_of_nonneg (by omega), hq1]; omega
        have p1 : (P i : Int) < 256 := by omega
        have p10 : (0 : Int) ≤ (P i : Int) := by omega
        have q14 : (q1 : Int) < 8 := by omega
        have q10 : (0 : Int) ≤ (q1 : Int) := by omega
        have HCELL : Hid (∀ w6, EsS W w6 G1 (.slice (some ⟨w5.heap.size, 0, none⟩) 8 8) [0, 1, 2, 4, 6, 3, 5, 7] → w6.cell? ⟨w5.heap.size, q1, none⟩ = some (.int .i64 (E8 q1 : Int))) := fun w6 h6 => by
          have hq : q1 < 8 := by omega
          refine own_cell h6.1 ?_
          generalize q1 = q at hq
          match q, hq with | 0, _ => rfl | 1, _ => rfl | 2, _ => rfl | 3, _ => rfl | 4, _ => rfl | 5, _ => rfl | 6, _ => rfl | 7, _ => rfl
        have d1 := HCELL.out wr hE1
        have HS := Lib.hid (And.intro hL1 (And.intro hE1 (And.intro hl (And.intro hm (And.intro hne hg1)))))
        obtain ⟨ii, hi, hz0, hz1, hz2⟩ := info_parts infoInt
        obtain ⟨la, lc, el, _, _, _⟩ := hl.arg
        rw [lsF_len] at el
        subst el
        obtain ⟨me, mc2, em, _, _, _⟩ := hm.arg
        rw [rsF_len] at em
        subst em
        obtain ⟨y, hy⟩ : ∃ y, y = E8 q1 := ⟨_, rfl⟩
        have HY : Hid (y = E8 (P i % 8)) := by rw [Hid, hy, hq1]
        rw [← hy] at d1 HCELL
        have ho := hl.1
        rw [lsF_len] at ho
        have HO := Lib.hid ho
        have hbs := hL1.below.size
        clear HH hL1 hE1 hl hm hne hc hb hq1 hP1 hg1 hy ho START
        go_wp2_with (at_builtin; refine wpList_append_lies _ rfl _ _ 31 rfl W.heap.size 3 ii _ 1 8 Try.underlying31 hi hz0 hz1 hz2 rfl (by decide) _ _ _ rfl (HO.out.alloc _) ⟨wr.heap.size, 0, none⟩ 1 1 [.int .i64 (y : Int)] rfl rfl (World.news_of_block (cs := #[.int .i64 (y : Int)]) (t := 3) (fr := (0, 0)) (heap_alloc_new wr _)) (by simp [Value.oneCell']) (by decide) (by unfold maxLen; omega) (by omega) (by simp; omega) (wr.heap.size + 1) (by simp) ?_; intro g cap w6 hown6 hgrow6 hat6 hlt6; refine Hid.out ?_)
        refine Lib.hid ?_
        have HM := Lib.hid (many_l HS.out.1 HS.out.2.1 HS.out.2.2.1 HS.out.2.2.2.1 HS.out.2.2.2.2.1 _ hgrow6 hat6 (by rw [← HY.out]; exact hown6))
        have c2 := HC2.out w6 HM.out.1.below
        have d2 := HCELL.out w6 HM.out.2.1
        have HO2 : Hid ((w6.alloc (.cells #[.int .i64 (y : Int)] 3)).ownsRow w6.heap.size 3 1 (.slice (some ⟨w6.heap.size, 0, none⟩) 1 1) 1 [.int .i64 (y : Int)]) := ⟨rfl, Or.inr ⟨w6.heap.size, 1, _, rfl, Nat.le_refl _, heap_alloc_new w6 _, Nat.le_refl _, by decide, rfl, rfl⟩⟩
        have hmr := HM.out.2.2.2.1.1
        rw [rsF_len] at hmr
        have HMR := Lib.hid hmr
        clear hown6 hgrow6 hat6 hlt6 hmr HO HC2 HCELL c1 d1
        go_wp2_with (at_builtin; refine wpList_append_es rfl _ _ 31 rfl w6.heap.size 3 ii _ 8 Try.underlying31 hi hz0 hz1 hz2 rfl _ _ _ rfl HO2.out W.heap.size _ i ((rsF P i).map encN) rfl (HMR.out.alloc _) (by intro q hq; obtain ⟨z, _, rfl⟩ := List.mem_map.1 hq; rfl) (by unfold maxLen; omega) (by omega) (by simp) ?_; intro v7 w7 hown7 hgrow7; refine Hid.out ?_)
        refine Lib.hid ?_
        have HEND : Hid (ManyI W G.h P (i + 1) w5.heap.size (.slice (some ⟨g, 0, none⟩) (i + 1) cap) v7 w7) := by
          obtain ⟨k1, k2, k3, k4, k5, k6, k7⟩ := HM.out
          have ba : Below w6.heap.size w6 (w6.alloc (.cells #[.int .i64 (y : Int)] 3)) := (Below.refl _ _).alloc (Nat.le_refl _) _
          have hgr : (w6.alloc (.cells #[.int .i64 (y : Int)] 3)).grownBy w7 (some w6.heap.size) := hgrow7
          have hv7 : ∀ k, v7.ownBlock = some k → w6.heap.size ≤ k := fun k hk => (hown7.lt k hk).1
          refine ⟨G1, HS.out.2.2.2.2.2, (k1.after ba).grow hgr fun k hk => ?_, (k2.after ba).grow hgr fun k hk e => ?_, (k3.after ba).grow hgr fun k hk e => ?_, ⟨?_, fun k hk q => ?_⟩, fun k hk => ⟨?_, fun e => ?_⟩⟩
          · obtain rfl := Option.some.inj hk
            exact ⟨fun q => by have := k1.rep.lt _ q; omega, k1.below.size⟩
          · obtain rfl := Option.some.inj hk
            have := (k2.1.lt _ e).2; omega
          · obtain rfl := Option.some.inj hk
            have := (k3.1.lt _ e).2; omega
          · have e : (rsF P (i + 1)).map encN = [.int .i64 (y : Int)] ++ (rsF P i).map encN := by rw [HY.out]; rfl
            rw [rsF_len, e, Nat.add_comm i 1]
            exact ⟨hown7.1, hown7.2.imp id fun ⟨g', cap', cur, a1, a2, a3⟩ => ⟨g', cap', cur, a1, Nat.le_trans k1.below.size a2, a3⟩⟩
          · have := k1.rep.lt _ q; have := hv7 k hk; omega
          · have : g = k := by simpa [Value.ownBlock] using hk
            omega
          · have : g = k := by simpa [Value.ownBlock] using hk
            have := hv7 k e
            have := (k3.1.lt g rfl).2; omega
        clear hown7 hgrow7 HM HMR HO2
        go_wp2_with fail
        go_roundw
        case rel => exact ⟨i + 1, by go_num, by omega, HEND⟩
        case measure => simp [intOf]; omega
      · obtain rfl : i = n := by omega
        have hiz : ¬ (i : Int) < (i : Int) := by omega
        obtain ⟨G1, hg1, hL1, hE1, hl, hm, hne⟩ := HH.out
        obtain ⟨la, lc, el, hlc, hlm, hla⟩ := hl.arg
        obtain ⟨me, mc2, em, _, _, hma⟩ := hm.arg
        have hzl : ∀ e ∈ lsF P i, e < 2 * (L3.length + 1) := fun e he => lsF_lt P i e he
        have hzr : ∀ e ∈ rsF P i, e < 2 * (L3.length + 1) := fun e he => rsF_lt P i e he
        have hget : ∀ (zs : List Nat), (∀ e ∈ zs, e < 8) → ∀ j, j < zs.length → zs.getD j 0 < 8 := fun zs h j hj => by
          rw [List.getD_eq_getElem?_getD, List.getElem?_eq_getElem hj]; exact h _ (List.getElem_mem hj)
        have hgl := hget _ (lsF_lt P i)
        have hgr := hget _ (rsF_lt P i)
        rw [lsF_len] at el hla hgl
        rw [rsF_len] at em hma hgr
        subst el
        subst em
        have hEV := Eval_any hL1.rep hL1.wf ma mn mc M (HA.out.2.2.below (hL1.below.mono (Nat.le_refl _))) (by omega) la i lc _ hla (by omega) (fun j hj => by have := hgl j hj; omega) (by decide)
        rw [hg1] at hEV
        have HEV := Lib.hid hEV
        have HS := Lib.hid (And.intro hL1 (And.intro hl (And.intro hm (And.intro hla hma))))
        have HGH := Lib.hid hg1
        have HGL := Lib.hid (And.intro hgl hgr)
        have HZ := Lib.hid (And.intro hzl hzr)
        clear HH hL1 hE1 hl hm hne hla hma hEV hlc hlm hzl hzr hget hgl hgr START
        go_wp2_with fail
        refine HEV.out.mono ?_
        rintro e w7 ⟨vb, rfl, hvb, hrow, hb7⟩
        have HLW : Hid (Law W w7 G1 L3) := HS.out.1.after hb7
        have HAR : Hid (ArgI w7 la i (fun j => (((lsF P i).getD j 0 : Nat) : Int)) ∧ ArgI w7 me i (fun j => (((rsF P i).getD j 0 : Nat) : Int))) := ⟨HS.out.2.2.2.1.below (hb7.mono (Nat.le_refl _)), HS.out.2.2.2.2.below (hb7.mono (Nat.le_refl _))⟩
        have HPK : Hid (PackI W G.h L3 (lsF P i) (.slice la i lc) (rsF P i) (.slice me i mc2) w7) := ⟨G1, HGH.out, HLW.out, HS.out.2.1.after hb7, HS.out.2.2.1.after hb7⟩
        have HVC : Hid (∀ k, k < i → w7.cell? ⟨vb, k, none⟩ = some (.bool (val (mdl M mn) L3 ((lsF P i).getD k 0)))) := fun k hk => by
          rw [hrow.cell (i := k) hk]
          show some (Value.bool (val (mdl M mn) L3 (own L3 (((lsF P i).getD k 0 : Nat) : Int)))) = _
          rw [own_nat (show (lsF P i).getD k 0 < 8 from HGL.out.1 k hk)]
        have START2 : SameW w7 w7 := rfl
        clear hvb hrow hb7 HEV HS
        obtain ⟨f, hf⟩ : ∃ f, f = val (mdl M mn) L3 := ⟨_, rfl⟩
        rw [← hf] at HVC
        have HF := Lib.hid hf
        clear hf
        go_wp2_with fail
        obtain ⟨n, hn⟩ : ∃ n, n = i := ⟨_, rfl⟩
        subst hn
        go_loopw [11, 12, 13] (fun bv cv iv wr => ∃ k : Nat, iv = .int .i64 (k : Int) ∧ bv = .bool (((lsF P n).take k).all f) ∧ cv = .bool (((lsF P n).take k).any f) ∧ k ≤ n ∧ SameW wr w7) (fun _ _ iv _ => n - (intOf iv).toNat)
        case atStart => exact ⟨0, rfl, rfl, rfl, Nat.zero_le _, START2⟩
        case round =>
          obtain ⟨k, rfl, rfl, rfl, hi, HH⟩ := hrel
          unfold SameW at HH
          obtain rfl := HH
          by_cases hlt : k < n
          · have hkz : (k : Int) < (n : Int) := by omega
            have k0 : (0 : Int) ≤ (k : Int) := by omega
            have d1 := HVC.out k hlt
            have HN1 : Hid (((lsF P n).take (k + 1)).all f = (((lsF P n).take k).all f && f ((lsF P n).getD k 0))) := by rw [Hid, take_succ' (by rw [lsF_len]; exact hlt), List.all_append]; simp
            have HN2 : Hid (((lsF P n).take (k + 1)).any f = (((lsF P n).take k).any f || f ((lsF P n).getD k 0))) := by rw [Hid, take_succ' (by rw [lsF_len]; exact hlt), List.any_append]; simp
            generalize f ((lsF P n).getD k 0) = fv at *
            generalize ((lsF P n).take k).all f = av at *
            generalize ((lsF P n).take k).any f = ov at *
            clear HVC
            cases av <;> cases ov
            all_goals
              go_wp2_with fail
              go_roundw
              case rel => exact ⟨k + 1, by go_num, by rw [HN1.out]; cases fv <;> rfl, by rw [HN2.out]; cases fv <;> rfl, by omega, rfl⟩
              case measure => simp [intOf]; omega
          · obtain rfl : k = n := by omega
            have hkz : ¬ (k : Int) < (k : Int) := by omega
            have htk : (lsF P k).take k = lsF P k := List.take_of_length_le (by rw [lsF_len]; exact Nat.le_refl _)
            rw [htk]
            have hmv := manyV P k hn20
            have hv1 := hmv.v1 (mdl M mn)
            have hv2 := hmv.v2 (mdl M mn)
            have hv3 := hmv.v3 (mdl M mn)
            have hv4 := hmv.v4 (mdl M mn)
            have HLEN := Lib.hid hmv.len1
            have HOWN := Lib.hid hmv.own1
            have HC1 := Lib.hid (All_pack HPK.out (lsF P k) _ (Or.inl ⟨rfl, rfl⟩) HZ.out.1 (by rw [lsF_len]; omega) (by decide))
            have HP1 : Hid (∀ w8, PackI W G.h (allE L3 (lsF P k)).2 (lsF P k) (.slice la k lc) (rsF P k) (.slice me k mc2) w8 → Calls Try.prog 20 #[.pointer (some ⟨G.h, 0, none⟩), .slice me k mc2] w8 fun e w' => e = .returned (.int .i64 ((allE (allE L3 (lsF P k)).2 (rsF P k)).1 : Int)) ∧ PackI W G.h (allE (allE L3 (lsF P k)).2 (rsF P k)).2 (lsF P k) (.slice la k lc) (rsF P k) (.slice me k mc2) w') := fun w8 hp =>
              All_pack hp (rsF P k) _ (Or.inr ⟨rfl, rfl⟩) (fun e he => by have := rsF_lt P k e he; have := HLEN.out; omega) (by rw [rsF_len]; omega) (by have := (allE_ans (L := L3) Wf.nil.input.input.input (lsF P k) HZ.out.1).lenle; rw [lsF_len] at this; have : L3.length = 3 := rfl; omega)
            have w0 : Wf L3 := Wf.nil.input.input.input
            have A1 := allE_ans w0 (lsF P k) HZ.out.1
            have n1 := A1.lenle
            have A2 := allE_ans A1.wf (rsF P k) (fun e he => by have := rsF_lt P k e he; have := HLEN.out; omega)
            have n2 := A2.lenle
            have A3 := anyE_ans A2.wf (lsF P k) (fun e he => by have := lsF_lt P k e he; have := HLEN.out; omega)
            have n3 := A3.lenle
            have A4 := anyE_ans A3.wf (rsF P k) (fun e he => by have := rsF_lt P k e he; have := HLEN.out; omega)
            rw [lsF_len] at n1 n3
            rw [rsF_len] at n2
            have l30 : L3.length = 3 := rfl
            have HP2 : Hid (∀ w8, PackI W G.h (allE (allE L3 (lsF P k)).2 (rsF P k)).2 (lsF P k) (.slice la k lc) (rsF P k) (.slice me k mc2) w8 → Calls Try.prog 24 #[.pointer (some ⟨G.h, 0, none⟩), .slice la k lc] w8 fun e w' => e = .returned (.int .i64 ((anyE (allE (allE L3 (lsF P k)).2 (rsF P k)).2 (lsF P k)).1 : Int)) ∧ PackI W G.h (anyE (allE (allE L3 (lsF P k)).2 (rsF P k)).2 (lsF P k)).2 (lsF P k) (.slice la k lc) (rsF P k) (.slice me k mc2) w') := fun w8 hp =>
              Any_pack hp (lsF P k) _ (Or.inl ⟨rfl, rfl⟩) (fun e he => by have := lsF_lt P k e he; have := HLEN.out; omega) (by rw [lsF_len]; omega) (by omega)
            have HP3 : Hid (∀ w8, PackI W G.h (anyE (allE (allE L3 (lsF P k)).2 (rsF P k)).2 (lsF P k)).2 (lsF P k) (.slice la k lc) (rsF P k) (.slice me k mc2) w8 → Calls Try.prog 24 #[.pointer (some ⟨G.h, 0, none⟩), .slice me k mc2] w8 fun e w' => e = .returned (.int .i64 ((anyE (anyE (allE (allE L3 (lsF P k)).2 (rsF P k)).2 (lsF P k)).2 (rsF P k)).1 : Int)) ∧ PackI W G.h (anyE (anyE (allE (allE L3 (lsF P k)).2 (rsF P k)).2 (lsF P k)).2 (rsF P k)).2 (lsF P k) (.slice la k lc) (rsF P k) (.slice me k mc2) w') := fun w8 hp =>
              Any_pack hp (rsF P k) _ (Or.inr ⟨rfl, rfl⟩) (fun e he => by have := rsF_lt P k e he; have := HLEN.out; omega) (by rw [rsF_len]; omega) (by omega)
            have HW4 := Lib.hid A4.wf
            clear A1 A2 A3 A4 n1 n2 n3 w0 l30 hmv
            have HOV : Hid (∀ z ∈ [(allE L3 (lsF P k)).1, (allE (allE L3 (lsF P k)).2 (rsF P k)).1, (anyE (allE (allE L3 (lsF P k)).2 (rsF P k)).2 (lsF P k)).1, (anyE (anyE (allE (allE L3 (lsF P k)).2 (rsF P k)).2 (lsF P k)).2 (rsF P k)).1], z < 2 * ((anyE (anyE (allE (allE L3 (lsF P k)).2 (rsF P k)).2 (lsF P k)).2 (rsF P k)).2.length + 1)) := by
              intro z hz
              simp only [List.mem_cons, List.not_mem_nil, or_false] at hz
              rcases hz with rfl | rfl | rfl | rfl
              · exact HOWN.out.1
              · exact HOWN.out.2.1
              · exact HOWN.out.2.2.1
              · exact HOWN.out.2.2.2
            generalize (anyE (anyE (allE (allE L3 (lsF P k)).2 (rsF P k)).2 (lsF P k)).2 (rsF P k)) = r4 at *
            generalize (anyE (allE (allE L3 (lsF P k)).2 (rsF P k)).2 (lsF P k)) = r3 at *
            generalize (allE (allE L3 (lsF P k)).2 (rsF P k)) = r2 at *
            generalize (allE L3 (lsF P k)) = r1 at *
            rw [← HF.out] at hv1 hv2 hv3 hv4
            generalize (lsF P k).all f = av at *
            generalize (lsF P k).any f = ov at *
            have HVV := Lib.hid (And.intro hv1 (And.intro hv2 (And.intro hv3 hv4)))
            clear hv1 hv2 hv3 hv4 htk HVC START2 HPK
            go_wp2_with fail
            refine HC1.out.mono ?_
            rintro e w8 ⟨rfl, hp8⟩
            have HC2 := Lib.hid (HP1.out w8 hp8)
            clear hp8 HP1
            go_wp2_with fail
            refine HC2.out.mono ?_
            rintro e w9 ⟨rfl, hp8⟩
            have HC3 := Lib.hid (HP2.out w9 hp8)
            clear hp8 HP2
            go_wp2_with fail
            refine HC3.out.mono ?_
            rintro e w10 ⟨rfl, hp8⟩
            have HC4 := Lib.hid (HP3.out w10 hp8)
            clear hp8 HP3
            go_wp2_with fail
            refine HC4.out.mono ?_
            rintro e w11 ⟨rfl, hp8⟩
            obtain ⟨G9, g9, hL9, _, _⟩ := hp8
            have hba : Below w11.heap.size w11 (w11.alloc (.cells #[.int .i64 (r1.1 : Int), .int .i64 (r2.1 : Int), .int .i64 (r3.1 : Int), .int .i64 (r4.1 : Int)] 3)) := (Below.refl _ _).alloc (Nat.le_refl _) _
            have hL10 := hL9.after hba
            have hA4 : ArgI (w11.alloc (.cells #[.int .i64 (r1.1 : Int), .int .i64 (r2.1 : Int), .int .i64 (r3.1 : Int), .int .i64 (r4.1 : Int)] 3)) (some ⟨w11.heap.size, 0, none⟩) 4 (fun j => (([r1.1, r2.1, r3.1, r4.1].getD j 0 : Nat) : Int)) := by
              refine Or.inr ⟨w11.heap.size, 0, rfl, by simp, fun j hj => ?_⟩
              rw [Nat.zero_add]
              simp only [World.cell?, heap_alloc_new]
              match j, hj with | 0, _ => rfl | 1, _ => rfl | 2, _ => rfl | 3, _ => rfl
            have hEV := Eval_any hL10.rep hL10.wf ma mn mc M (HA.out.2.2.below (hL10.below.mono (Nat.le_refl _))) (by omega) (some ⟨w11.heap.size, 0, none⟩) 4 4 _ hA4 (by omega) (fun j hj => by
              have h := HOV.out
              have hl := HLEN.out
              have : [r1.1, r2.1, r3.1, r4.1].getD j 0 < 2 * (r4.2.length + 1) := by
                match j, hj with | 0, _ => exact h _ (by simp) | 1, _ => exact h _ (by simp) | 2, _ => exact h _ (by simp) | 3, _ => exact h _ (by simp)
              omega) (by have hl := HLEN.out; omega)
            rw [g9] at hEV
            have HEV := Lib.hid hEV
            have HLB := Lib.hid hL10.below
            clear hL9 hba hL10 hA4 hEV g9
            go_wp2_with fail
            refine HEV.out.mono ?_
            rintro e w12 ⟨vb, rfl, hvb, hrow, hb12⟩
            have HB12 : Hid (Below W.heap.size W w12) := HLB.out.trans (hb12.mono HLB.out.size)
            have e1 : w12.cell? ⟨vb, 0, none⟩ = some (.bool av) := by
              rw [hrow.cell (i := 0) (by omega)]
              show some (Value.bool (val (mdl M mn) r4.2 (own r4.2 ((r1.1 : Nat) : Int)))) = _
              rw [own_nat (HOV.out _ (by simp)), HVV.out.1]
            have e2 : w12.cell? ⟨vb, 1, none⟩ = some (.bool av) := by
              rw [hrow.cell (i := 1) (by omega)]
              show some (Value.bool (val (mdl M mn) r4.2 (own r4.2 ((r2.1 : Nat) : Int)))) = _
              rw [own_nat (HOV.out _ (by simp)), HVV.out.2.1]
            have e3 : w12.cell? ⟨vb, 2, none⟩ = some (.bool ov) := by
              rw [hrow.cell (i := 2) (by omega)]
              show some (Value.bool (val (mdl M mn) r4.2 (own r4.2 ((r3.1 : Nat) : Int)))) = _
              rw [own_nat (HOV.out _ (by simp)), HVV.out.2.2.1]
            have e4 : w12.cell? ⟨vb, 3, none⟩ = some (.bool ov) := by
              rw [hrow.cell (i := 3) (by omega)]
              show some (Value.bool (val (mdl M mn) r4.2 (own r4.2 ((r4.1 : Nat) : Int)))) = _
              rw [own_nat (HOV.out _ (by simp)), HVV.out.2.2.2]
            clear hvb hrow hb12 HEV
            go_wp2_with fail
            go_ret
            exact ⟨by cases av <;> cases ov <;> rfl, HB12.out⟩
end Go.Proofs.Ytdenjeocmmhejaa.Gr
