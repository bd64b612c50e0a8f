/- What a law holds of its graph, maker and lists; awake. -/
import Derived.Test.YtbggenilngpjcaaCnF
namespace Go.Proofs.Ytbggenilngpjcaa.Cn
open Go Go.RowKit Go.Lib Go.Maps Go.Proofs.Ytbggenilngpjcaa.Gr

theorem Need.few {L : List Nd} {n : Nat} {S S' : Mk} (h : Need L n S S') : S.cs.length ≤ 3 * S.vs.length → S'.cs.length ≤ 3 * S'.vs.length := by
  have hc : ∀ (v : Nat) vs (d : Nd), (cls v vs d).length ≤ 3 := fun v vs d => by cases d <;> simp [cls]
  have ha : ∀ (S : Mk) (n : Nat), S.cs.length ≤ 3 * S.vs.length → (asn L S n).cs.length ≤ 3 * (asn L S n).vs.length := fun S n h => by
    have := hc (S.vs.length + 1) (S.vs ++ [n]) (nd L n)
    show (S.cs ++ _).length ≤ 3 * (S.vs ++ [n]).length
    rw [List.length_append, List.length_append, List.length_singleton]; omega
  induction h with
  | old _ => exact id
  | leaf _ _ => exact ha _ _
  | and _ _ _ _ ih1 ih2 => exact fun h => ha _ _ (ih2 (ih1 h))
theorem Need.mod {L : List Nd} {n : Nat} {S S' : Mk} (h : Need L n S S') : S'.cs.length % 3 = S.cs.length % 3 := by
  have ha : ∀ (S : Mk) (n : Nat), (asn L S n).cs.length % 3 = S.cs.length % 3 := fun S n => by
    have := cls_len (S.vs.length + 1) (S.vs ++ [n]) (nd L n)
    show (S.cs ++ _).length % 3 = _
    rw [List.length_append]; omega
  induction h with
  | old _ => rfl
  | leaf _ _ => exact ha _ _
  | and _ _ _ _ ih1 ih2 => exact (ha _ _).trans (ih2.trans ih1)
theorem Need.lit {L : List Nd} {n e : Nat} {S S' : Mk} (h : Need L n S S') (he : e / 2 ∈ S.vs) : Cn.lit S'.vs e = Cn.lit S.vs e := by
  obtain ⟨X, Y, rfl⟩ := h.ext; exact lit_app he
theorem Need.len {L : List Nd} {n : Nat} {S S' : Mk} (h : Need L n S S') : S.vs.length ≤ S'.vs.length := by
  obtain ⟨X, Y, rfl⟩ := h.ext; simp

/-- What a law holds of its graph and maker: they lie in the call's own memory. -/
structure LawM (W w : World) (G : Gr.Loc) (L : List Nd) (M : MLoc) (S : Mk) : Prop where
  both : Both w G L M S
  below : Below W.heap.size W w
  newG : ∀ k, G.has k → W.heap.size ≤ k
  newM : ∀ k, M.has k → W.heap.size ≤ k
  few : S.cs.length ≤ 3 * S.vs.length
theorem LawM.law {W w : World} {G : Gr.Loc} {L : List Nd} {M : MLoc} {S : Mk} (h : LawM W w G L M S) : Law W w G L := ⟨h.both.g, h.both.wf, h.below, h.newG⟩
theorem LawM.start {W w w' : World} {G : Gr.Loc} {L : List Nd} {M : MLoc} (h : Law W w G L) (hm : MRep w' G.h M ⟨[0], [[-1]]⟩) (hb : Below w.heap.size w w') (hn : ∀ k, M.has k → w.heap.size ≤ k) : LawM W w' G L M ⟨[0], [[-1]]⟩ :=
  ⟨⟨h.rep.below hb (Nat.le_refl _), hm, h.wf, Ok.start L, fun k hk q => by have := h.rep.lt k q; have := hn k hk; omega⟩, (h.after hb).below, h.new, fun k hk => Nat.le_trans h.below.size (hn k hk), by decide⟩
theorem LawM.after {W w w' : World} {G : Gr.Loc} {L : List Nd} {M : MLoc} {S : Mk} (h : LawM W w G L M S) (hb : Below w.heap.size w w') : LawM W w' G L M S :=
  ⟨h.both.below hb, h.below.trans (hb.mono h.below.size), h.newG, h.newM, h.few⟩
theorem LawM.op {W w w' : World} {G G' : Gr.Loc} {L L' X : List Nd} {M : MLoc} {S : Mk} (h : LawM W w G L M S) (hX : L' = L ++ X) (hr : Rep w' G' L') (hf : Fr G w w' G') (hw : Wf L') : LawM W w' G' L' M S := by
  subst hX
  exact ⟨h.both.grow hr hf hw, h.below.trans (hf.below h.below.size h.newG), hf.from h.below.size h.newG, h.newM, h.few⟩
theorem LawM.mk' {W w w' : World} {G : Gr.Loc} {L : List Nd} {M M' : MLoc} {S S' : Mk} (h : LawM W w G L M S) (hb : Both w' G L M' S') (hf : MFr M w w' M') (hc : S'.cs.length ≤ 3 * S'.vs.length) : LawM W w' G L M' S' :=
  ⟨hb, h.below.trans (hf.below h.below.size h.newM), h.newG, hf.from h.below.size h.newM, hc⟩
theorem takeFr {w : World} {M : MLoc} (v : Value) : MFr M w (w.setCell ⟨M.h, 2, none⟩ v) { M with cv := .slice none 0 0, rs := [] } :=
  ⟨rfl, rfl, rfl, rfl, by simp [World.setCell], fun k _ hn => Below.heap_setCell _ _ _ _ (fun e => hn (Or.inl e)), fun k hk => Or.inl (by
    rcases hk with hk | hk | hk | ⟨v, hv, _⟩
    · exact Or.inl hk
    · exact Or.inr (Or.inl hk)
    · simp [Value.ownBlock] at hk
    · simp at hv)⟩
theorem LawM.take {W w : World} {G : Gr.Loc} {L : List Nd} {M : MLoc} {S : Mk} (h : LawM W w G L M S) : LawM W (w.setCell ⟨M.h, 2, none⟩ (.slice none 0 0)) G L { M with cv := .slice none 0 0, rs := [] } ⟨S.vs, []⟩ :=
  h.mk' (h.both.mk' (takeFr _) h.both.m.take h.both.ok) (takeFr _) (Nat.zero_le _)

/-- A list of numbers that the law makes. -/
def RowI (W w : World) (G : Gr.Loc) (M : MLoc) (v : Value) (zs : List Int) : Prop := w.ownsRow W.heap.size 3 1 v zs.length (zs.map (Value.int .i64)) ∧ ∀ k, v.ownBlock = some k → ¬ G.has k ∧ ¬ M.has k
theorem RowI.after {W w w' : World} {G : Gr.Loc} {M : MLoc} {v : Value} {zs : List Int} (h : RowI W w G M v zs) (hb : Below w.heap.size w w') : RowI W w' G M v zs :=
  ⟨owns_of_heap h.1 fun g hg => hb.block g (h.1.lt g hg).2, h.2⟩
theorem RowI.op {W w w' : World} {G G' : Gr.Loc} {M : MLoc} {v : Value} {zs : List Int} (h : RowI W w G M v zs) (hf : Fr G w w' G') : RowI W w' G' M v zs := by
  refine ⟨owns_of_heap h.1 fun g hg => hf.block g (h.1.lt g hg).2 (h.2 g hg).1, fun k hk => ⟨fun q => ?_, (h.2 k hk).2⟩⟩
  rcases hf.own k q with q | q
  · exact (h.2 k hk).1 q
  · have := (h.1.lt k hk).2; omega
theorem RowI.mk' {W w w' : World} {G : Gr.Loc} {M M' : MLoc} {v : Value} {zs : List Int} (h : RowI W w G M v zs) (hf : MFr M w w' M') : RowI W w' G M' v zs := by
  refine ⟨owns_of_heap h.1 fun g hg => hf.block g (h.1.lt g hg).2 (h.2 g hg).2, fun k hk => ⟨(h.2 k hk).1, fun q => ?_⟩⟩
  rcases hf.own k q with q | q
  · exact (h.2 k hk).2 q
  · have := (h.1.lt k hk).2; omega
theorem RowI.arg {W w : World} {G : Gr.Loc} {M : MLoc} {v : Value} {zs : List Int} (h : RowI W w G M v zs) : ∃ a c, v = .slice a zs.length c ∧ zs.length ≤ c ∧ c ≤ maxLen ∧ ArgI w a zs.length (fun j => zs.getD j 0) := by
  obtain ⟨a, c, e, h1, h2, h3, h4⟩ := own_form h.1
  refine ⟨a, c, e, h1, h2, ?_⟩
  have ho := h.1
  rw [e] at ho
  cases a with
  | none => exact Or.inl (h3 rfl).1
  | some ad =>
    obtain ⟨b, off, sp⟩ := ad
    obtain ⟨rfl, rfl⟩ : off = 0 ∧ sp = none := h4 _ rfl
    refine Or.inr ⟨b, 0, rfl, (ho.lt b rfl).2, fun j hj => ?_⟩
    rw [Nat.zero_add]
    refine own_cell ho ?_
    rw [List.getElem?_map, List.getElem?_eq_getElem hj]
    simp [hj]
/-- One number more, behind an append. -/
theorem RowI.push {W w w1 : World} {G : Gr.Loc} {L : List Nd} {M : MLoc} {S : Mk} {v : Value} {zs : List Int} {z : Int} {g cap n : Nat} (h : RowI W w G M v zs) (hn : n = zs.length) (hl : LawM W w G L M S) (o : Obj) (hgrow : (w.alloc o).grownBy w1 v.ownBlock) (hat : v.ownBlock = some g ∨ g = w.heap.size + 1)
    (hown : w1.ownsRow W.heap.size 3 1 (.slice (some ⟨g, 0, none⟩) (n + 1) cap) (n + 1) (zs.map (Value.int .i64) ++ [.int .i64 z])) :
    RowI W w1 G M (.slice (some ⟨g, 0, none⟩) (n + 1) cap) (zs ++ [z]) ∧ LawM W w1 G L M S ∧ ∀ k, k < w.heap.size → v.ownBlock ≠ some k → w1.heap[k]? = w.heap[k]? := by
  subst hn
  have hk : ∀ k, k < w.heap.size → v.ownBlock ≠ some k → w1.heap[k]? = w.heap[k]? := fun k h1 h2 => (hgrow.block k (by simp; omega) (fun e => h2 e.symm)).trans (Below.heap_alloc _ _ _ h1)
  refine ⟨⟨by rw [List.length_append, List.map_append]; exact hown, fun k hk' => ?_⟩, ⟨hl.both.of_heap fun k hk' => hk'.elim (fun q => hk k (hl.both.g.lt k q) (fun e => (h.2 k e).1 q)) (fun q => hk k (hl.both.m.lt k q) (fun e => (h.2 k e).2 q)), (hl.below.alloc hl.below.size o).grown hgrow (by have := hl.below.size; simp; omega) (fun k hk => (h.1.lt k hk).1), hl.newG, hl.newM, hl.few⟩, hk⟩
  have : g = k := by simpa [Value.ownBlock] using hk'
  subst this
  rcases hat with e | e
  · exact h.2 _ e
  · exact ⟨fun q => by have := hl.both.g.lt _ q; omega, fun q => by have := hl.both.m.lt _ q; omega⟩
theorem RowI.ofEs {W w w' : World} {G : Gr.Loc} {M : MLoc} {v : Value} {es : List Nat} (h : EsS W w G v es) (hb : Below w.heap.size w w') (hn : ∀ k, M.has k → w.heap.size ≤ k) : RowI W w' G M v (es.map fun (e : Nat) => (e : Int)) := by
  refine ⟨?_, fun k hk => ⟨h.2 k hk, fun q => by have := (h.1.lt k hk).2; have := hn k q; omega⟩⟩
  rw [List.length_map, List.map_map]
  exact owns_of_heap h.1 fun g hg => hb.block g (h.1.lt g hg).2

theorem need_awake : Need [none, none, some (2, 4)] 3 ⟨[0], [[-1]]⟩ ⟨[0, 1, 2, 3], [[-1], [-4, 2], [-4, 3], [4, -2, -3]]⟩ := by
  have h1 : Need [none, none, some (2, 4)] 1 ⟨[0], [[-1]]⟩ ⟨[0, 1], [[-1]]⟩ := Need.leaf (by decide) rfl
  have h2 : Need [none, none, some (2, 4)] 2 ⟨[0, 1], [[-1]]⟩ ⟨[0, 1, 2], [[-1]]⟩ := Need.leaf (by decide) rfl
  exact Need.and (n := 3) (a := 2) (b := 4) (S := ⟨[0], [[-1]]⟩) (by decide) rfl h1 h2

set_option maxRecDepth 100000 in
set_option maxHeartbeats 2000000 in
theorem awake_any (w : World) : Calls Try.prog 6 #[] w fun e w' => e = .returned (.bool true) ∧ Below w.heap.size w w' := by
  have HN := Lib.hid (New_any w)
  go_enter Try.func6, Try.ntmps6
  go_wp2_with fail
  refine HN.out.mono ?_
  rintro e w1 ⟨G, rfl, r1, r2, r3⟩
  have HL : Hid (Law w w1 G []) := ⟨r1, Wf.nil, r2, r3⟩
  have HM := Lib.hid (NewM_any w1 G.h)
  clear r1 r2 r3
  go_wp2_with fail
  refine HM.out.mono ?_
  rintro e w2 ⟨M, rfl, m1, m2, m3⟩
  have HL2 : Hid (LawM w w2 G [] M ⟨[0], [[-1]]⟩) := LawM.start HL.out m1 m2 m3
  have HNN := Lib.hid (NewM_nil w2)
  have HI : Hid (Calls Try.prog 26 #[.pointer (some ⟨G.h, 0, none⟩)] w2 (OpE w2 G (2, [none]))) := Input_any HL2.out.both.g (by decide)
  clear m1 m2 m3 HM HN HL
  go_wp2_with fail
  refine HNN.out.mono ?_
  rintro e w' ⟨rfl, rfl⟩
  go_wp2_with fail
  refine HI.out.mono ?_
  intro e w3 hop
  obtain ⟨rfl, G3, g3, s1, s2⟩ := hop.thenE
  have HL3 : Hid (LawM w w3 G3 [none] M ⟨[0], [[-1]]⟩) := HL2.out.op (X := [none]) rfl s1 s2 Wf.nil.input
  have HI2 : Hid (Calls Try.prog 26 #[.pointer (some ⟨G.h, 0, none⟩)] w3 (OpE w3 G3 (4, [none, none]))) := by rw [← g3]; exact Input_any HL3.out.both.g (by decide)
  clear s1 s2 hop HI HNN HL2
  go_wp2_with fail
  refine HI2.out.mono ?_
  intro e w4 hop
  obtain ⟨rfl, G4, g4, s1, s2⟩ := hop.thenE
  have HL4 : Hid (LawM w w4 G4 [none, none] M ⟨[0], [[-1]]⟩) := HL3.out.op (X := [none]) rfl s1 s2 Wf.nil.input.input
  have HA : Hid (Calls Try.prog 23 #[.pointer (some ⟨G.h, 0, none⟩), .int .i64 2, .int .i64 4] w4 (OpE w4 G4 (6, [none, none, some (2, 4)]))) := by rw [← g3, ← g4]; exact And_any HL4.out.both.g 2 4 (by omega) (by omega) (by decide)
  clear s1 s2 hop HI2 HL3
  go_wp2_with fail
  refine HA.out.mono ?_
  intro e w5 hop
  obtain ⟨rfl, G5, g5, s1, s2⟩ := hop.thenE
  have hW : Wf [none, none, some (2, 4)] := (andE_ans Wf.nil.input.input (x := 2) (y := 4) (by decide) (by decide)).wf
  have HL5 : Hid (LawM w w5 G5 [none, none, some (2, 4)] M ⟨[0], [[-1]]⟩) := HL4.out.op (X := [some (2, 4)]) rfl s1 s2 hW
  have HLI : Hid (Calls Try.prog 11 #[.pointer (some ⟨M.h, 0, none⟩), .int .i64 6] w5 (LitE w5 G5 [none, none, some (2, 4)] M ⟨[0, 1, 2, 3], [[-1], [-4, 2], [-4, 3], [4, -2, -3]]⟩ 4)) := Lit_own HL5.out.both 6 (by decide) (by decide) (by decide) need_awake
  clear s1 s2 hop HA HL4 hW
  go_wp2_with fail
  refine HLI.out.mono ?_
  rintro e w6 ⟨rfl, M6, s1, s2⟩
  have HL6 : Hid (LawM w w6 G5 [none, none, some (2, 4)] M6 ⟨[0, 1, 2, 3], [[-1], [-4, 2], [-4, 3], [4, -2, -3]]⟩) := HL5.out.mk' s1 s2 (by decide)
  have hh : M6.h = M.h := s2.h
  have HT := Take_any HL6.out.both.m
  obtain ⟨a, c, ecv, hc4, _, _, hof⟩ := own_form HL6.out.both.m.rows
  rw [hh] at HT
  rw [ecv] at HT
  have HT := Lib.hid HT
  have HL7 : Hid (LawM w (w6.setCell ⟨M.h, 2, none⟩ (.slice none 0 0)) G5 [none, none, some (2, 4)] { M6 with cv := .slice none 0 0, rs := [] } ⟨[0, 1, 2, 3], []⟩) := by rw [← hh]; exact HL6.out.take
  have HV : Hid (Calls Try.prog 13 #[.pointer (some ⟨M.h, 0, none⟩)] (w6.setCell ⟨M.h, 2, none⟩ (.slice none 0 0)) fun e w' => e = .returned (.int .i64 4) ∧ (w6.setCell ⟨M.h, 2, none⟩ (.slice none 0 0)) = w') := by have := Vars_any HL7.out.both.m; rw [show ({ M6 with cv := .slice none 0 0, rs := [] } : MLoc).h = M.h from hh] at this; exact this
  have hro := HL6.out.both.m.rows
  have hea := HL6.out.both.m.each
  have hcr := HL6.out.both.m.cr
  have hrh := HL6.out.both.m.hr
  have hch := HL6.out.both.m.hc
  rw [ecv] at hro hch
  obtain ⟨g, rfl⟩ : ∃ g, a = some ⟨g, 0, none⟩ := by
    cases a with
    | none => exact absurd (hro.2.elim (fun q => q.2) (fun ⟨g, cap, cur, q, _⟩ => by cases q)) (by simp)
    | some ad => obtain ⟨g, off, sp⟩ := ad; obtain ⟨rfl, rfl⟩ : off = 0 ∧ sp = none := hof _ rfl; exact ⟨g, rfl⟩
  obtain ⟨v3, hv3⟩ : ∃ v, M6.rs[3]? = some v := by
    have : M6.rs.length = 4 := hea.1
    exact ⟨_, List.getElem?_eq_getElem (by omega)⟩
  obtain ⟨g3', ev3, hb3⟩ := hea.2 3 v3 [4, -2, -3] hv3 rfl
  subst ev3
  have ne1 : g ≠ M.h := fun e => hch (by rw [hh, ← e]; rfl)
  have ne2 : g3' ≠ M.h := fun e => hrh _ (List.mem_of_getElem? hv3) (by rw [hh, ← e]; rfl)
  have c3 : (w6.setCell ⟨M.h, 2, none⟩ (.slice none 0 0)).cell? ⟨g, 3, none⟩ = some (.slice (some ⟨g3', 0, none⟩) 3 3) := (World.cell?_of_block (a := ⟨g, 3, none⟩) (Below.heap_setCell _ _ _ _ ne1)).trans (own_cell hro hv3)
  have h3 : (w6.setCell ⟨M.h, 2, none⟩ (.slice none 0 0)).heap[g3']? = some (.cells #[.int .i64 4, .int .i64 (-2), .int .i64 (-3)] 3 (0, 0)) := (Below.heap_setCell _ _ _ _ ne2).trans hb3
  have HH3 := Lib.hid h3
  have HG5 : Hid (G5.h = G.h) := by rw [Hid, g5, g4, g3]
  clear s1 s2 HLI HL5 hro hea hcr hrh hch hb3 h3 hv3 hof ecv HL6
  go_wp2_with fail
  refine HT.out.mono ?_
  rintro e w7 ⟨rfl, rfl⟩
  generalize w6.setCell ⟨M.h, 2, none⟩ (.slice none 0 0) = w7 at *
  have HIN : Hid (Calls Try.prog 27 #[.slice (some ⟨g3', 0, none⟩) 3 3, .slice (some ⟨w7.heap.size, 0, none⟩) 3 3] (w7.alloc (.cells #[.int .i64 4, .int .i64 (-2), .int .i64 (-3)] 3)) fun e w' => e = .returned (.bool true) ∧ ∃ q, w' = (w7.alloc (.cells #[.int .i64 4, .int .i64 (-2), .int .i64 (-3)] 3)).drewN q) := by
    have hlt := lt_of_block HH3.out
    refine Ints_eq _ _ _ 3 3 3 (fun j => ([4, -2, -3] : List Int).getD j 0) (Or.inr ⟨g3', 0, rfl, by simp; omega, fun j hj => ?_⟩) (Or.inr ⟨w7.heap.size, 0, rfl, by simp, fun j hj => ?_⟩) (by omega)
    · rw [Nat.zero_add]
      simp only [World.cell?, Below.heap_alloc _ _ _ hlt, HH3.out]
      match j, hj with | 0, _ => rfl | 1, _ => rfl | 2, _ => rfl
    · rw [Nat.zero_add]
      simp only [World.cell?, heap_alloc_new]
      match j, hj with | 0, _ => rfl | 1, _ => rfl | 2, _ => rfl
  have HT2 : Hid (∀ q, Calls Try.prog 14 #[.pointer (some ⟨M.h, 0, none⟩)] ((w7.alloc (.cells #[.int .i64 4, .int .i64 (-2), .int .i64 (-3)] 3)).drewN q) fun e w' => e = .returned (.slice none 0 0) ∧ Below w.heap.size w w') := fun q => by
    have hb : Below w7.heap.size w7 ((w7.alloc (.cells #[.int .i64 4, .int .i64 (-2), .int .i64 (-3)] 3)).drewN q) := ((Below.refl _ _).alloc (Nat.le_refl _) _).trans ⟨rfl, rfl, rfl, Nat.le_refl _, fun _ _ => rfl⟩
    have h1 := HL7.out.after hb
    have h2 := Take_any h1.both.m
    rw [show ({ M6 with cv := .slice none 0 0, rs := [] } : MLoc).h = M.h from hh] at h2
    refine h2.mono fun e w' ⟨q1, q2⟩ => ⟨q1, ?_⟩
    subst q2
    have := h1.take.below
    rw [show ({ M6 with cv := .slice none 0 0, rs := [] } : MLoc).h = M.h from hh] at this
    exact this
  clear HL7 HH3 ne1 ne2 hh HG5
  go_wp2_with fail
  refine HV.out.mono ?_
  rintro e w' ⟨rfl, rfl⟩
  go_wp2_with fail
  refine HIN.out.mono ?_
  rintro e w' ⟨rfl, q, rfl⟩
  go_wp2_with fail
  refine (HT2.out q).mono ?_
  rintro e w8 ⟨rfl, hb⟩
  have HB := Lib.hid hb
  clear hb
  go_wp2_with fail
  go_ret
  exact ⟨rfl, HB.out⟩
end Go.Proofs.Ytbggenilngpjcaa.Cn
