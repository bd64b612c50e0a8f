/- A round of long division, on the graph; rows beside others. No program. -/
import Derived.Test.YtnkcdgpaphphaaaBtN
import Derived.Test.YtnkcdgpaphphaaaBtH
namespace Go.Proofs.Ytnkcdgpaphphaaa.Gr
open Go Go.RowKit Go.Lib Go.Maps

theorem div_round {P : Prop} {L L1 L3 L7 : List Nd} {c j j2 k n i x c3 : Nat} {A B qs rs es3 ms : List Nat} {r z : Nat × List Nd}
    (hO : Out P L c L1 (qs ++ rs) (fun m => (divL (B.map (Gr.val m L)) ((A.drop (i + 1)).map (Gr.val m L))).1 ++ (divL (B.map (Gr.val m L)) ((A.drop (i + 1)).map (Gr.val m L))).2))
    (hq : qs.length = k) (hr : rs.length = k) (hA : A.length = n) (hB : B.length = n) (hi : i + k + 1 = n)
    (ex : A.getD i 0 = x) (hx : x < 2 * (L.length + 1)) (hBo : ∀ e ∈ B, e < 2 * (L.length + 1))
    (hD : Out P L1 j L3 (es3 ++ [c3]) (fun m => (subL ((x :: rs).map (Gr.val m L1)) ((B.take (k + 1)).map (Gr.val m L1))).1 ++ [(subL ((x :: rs).map (Gr.val m L1)) ((B.take (k + 1)).map (Gr.val m L1))).2]))
    (hes : es3.length = k + 1)
    (hAny : Ac P L3 i r (fun m => ((B.reverse.take i).map (Gr.val m L3)).any id))
    (hZ : Ac P r.2 1 z (fun m => Gr.val m r.2 c3 && Gr.val m r.2 (neg r.1)))
    (hM : Out P z.2 j2 L7 ms (fun m => if Gr.val m z.2 z.1 then es3.map (Gr.val m z.2) else (x :: rs).map (Gr.val m z.2))) :
    Out P L (c + (j + (i + (1 + j2)))) L7 ((z.1 :: qs) ++ ms) (fun m => (divL (B.map (Gr.val m L)) ((A.drop i).map (Gr.val m L))).1 ++ (divL (B.map (Gr.val m L)) ((A.drop i).map (Gr.val m L))).2) := by
  have ll : ∀ m, (divL (B.map (Gr.val m L)) ((A.drop (i + 1)).map (Gr.val m L))).1.length = k ∧ (divL (B.map (Gr.val m L)) ((A.drop (i + 1)).map (Gr.val m L))).2.length = k := fun m => by
    have := divL_len (B.map (Gr.val m L)) ((A.drop (i + 1)).map (Gr.val m L)) (by simp; omega)
    rw [List.length_map, List.length_drop, hA, show n - (i + 1) = k by omega] at this
    exact this
  have hOq := hO.left (fun m => by rw [(ll m).2, hr])
  have hOr := hO.right (fun m => by rw [(ll m).2, hr])
  have hDl := hD.left (fun _ => rfl)
  have hDr := hD.right (fun _ => rfl)
  have hc3 : c3 < 2 * (L3.length + 1) := hD.own c3 (by simp)
  have hcv : ∀ m, Gr.val m L3 c3 = (subL ((x :: rs).map (Gr.val m L1)) ((B.take (k + 1)).map (Gr.val m L1))).2 := fun m => by have := hDr.val m; simpa using this
  have X := hZ.out.both hM id
  have T := hOq.both (hD.then (hAny.out.then X id) id) id
  have hBr : ∀ e ∈ B.reverse.take i, e < 2 * (L.length + 1) := fun e he => hBo e (by simpa using List.mem_of_mem_take he)
  have hzl := T.right (fs := [z.1] ++ ms) (fun m => by
    show ([_] ++ _).length = _
    rw [List.length_append, List.length_append, List.length_singleton, List.length_singleton, hM.len m])
  refine (T.part (fs := (z.1 :: qs) ++ ms) (fun e he => ?_) (fun m => ?_))
  · rcases List.mem_append.1 he with q | q
    · rcases List.mem_cons.1 q with q | q
      · simp [q]
      · simp [q]
    · simp [q]
  · have v1 := (T.left (fun m => by
      show ([_] ++ _).length = _
      rw [List.length_append, List.length_append, List.length_singleton, List.length_singleton, hM.len m])).val m
    have v2 := hzl.val m
    rw [List.map_append, List.map_cons, List.map_nil] at v2
    obtain ⟨v3, v4⟩ := List.append_inj v2 rfl
    have v5 : Gr.val m L7 z.1 = (Gr.val m r.2 c3 && Gr.val m r.2 (neg r.1)) := by simpa using v3
    rw [List.map_append, List.map_cons, v1, v4, v5]
    have xr : (x :: rs).map (Gr.val m L1) = Gr.val m L x :: (divL (B.map (Gr.val m L)) ((A.drop (i + 1)).map (Gr.val m L))).2 := by
      rw [List.map_cons, hO.old hx, hOr.val m]
    have e1 : A.drop i = x :: A.drop (i + 1) := by
      rw [List.drop_eq_getElem_cons (by omega), ← ex, List.getD_eq_getElem?_getD, List.getElem?_eq_getElem (by omega)]; rfl
    have hsub : Gr.val m L3 c3 = (subL (Gr.val m L x :: (divL (B.map (Gr.val m L)) ((A.drop (i + 1)).map (Gr.val m L))).2) ((B.map (Gr.val m L)).take (k + 1))).2 := by
      rw [hcv m, xr, hO.olds (fun e he => hBo e (List.mem_of_mem_take he)), List.map_take]
    have hsub1 : es3.map (Gr.val m L3) = (subL (Gr.val m L x :: (divL (B.map (Gr.val m L)) ((A.drop (i + 1)).map (Gr.val m L))).2) ((B.map (Gr.val m L)).take (k + 1))).1 := by
      rw [hDl.val m]
      rw [xr, hO.olds (fun e he => hBo e (List.mem_of_mem_take he)), List.map_take]
    have hany : Gr.val m r.2 (neg r.1) = !((((B.map (Gr.val m L)).drop (k + 1)).any id)) := by
      rw [val_neg, hAny.ans.val m]
      congr 1
      rw [hD.olds (fun e he => hO.lt (hBr e he)), hO.olds hBr, List.take_reverse, List.map_reverse, List.any_reverse, hB, show n - i = k + 1 by omega, List.map_drop]
    have hlen : (Gr.val m L x :: (divL (B.map (Gr.val m L)) ((A.drop (i + 1)).map (Gr.val m L))).2).length = k + 1 := by rw [List.length_cons, (ll m).2]
    have o2 := hAny.out
    have o3 := hZ.out
    have hv6 : Gr.val m z.2 z.1 = (Gr.val m r.2 c3 && Gr.val m r.2 (neg r.1)) := hZ.ans.val m
    rw [hv6, o2.old hc3, hsub, hany]
    rw [o3.olds (fun e he => o2.lt (hDl.own e he)), o2.olds hDl.own, hsub1]
    rw [o3.olds (xs := x :: rs) (fun e he => ?_), o2.olds (xs := x :: rs) (fun e he => ?_), hD.olds (xs := x :: rs) (fun e he => ?_), xr]
    · rw [e1, List.map_cons]
      simp only [divL, divStep, hlen]
    all_goals
      have hL1 : e < 2 * (L1.length + 1) := by
        rcases List.mem_cons.1 he with q | q
        · rw [q]; exact hO.lt hx
        · exact hOr.own e q
    · exact hL1
    · exact hD.lt hL1
    · exact o2.lt (hD.lt hL1)

theorem Fil.grown {w0 wr w' : World} {G0 G : Loc} {L : List Nd} {b c : Nat} {es ys : List Nat} {row : Option Nat} (h : Fil w0 wr G0 G L b c es ys) (hg : wr.grownBy w' row) (hr : ∀ k, row = some k → b ≠ k ∧ ¬ G.has k ∧ w0.heap.size ≤ k) : Fil w0 w' G0 G L b c es ys := by
  obtain ⟨f, h1, h2⟩ := h.row
  exact ⟨Rep.grow h.rep hg (fun k e => (hr k e).2.1), Fr.grow h.fr hg (fun k e => (hr k e).2.2), ⟨f, h1.of_heap (hg.block b h1.lt (fun e => (hr b e.symm).1 rfl)), h2⟩, h.new, h.out, h.len⟩
/-- A row that holds zs. -/
theorem Fil.of_row {w0 wr : World} {G0 G : Loc} {L : List Nd} {b c : Nat} {f : Nat → Value} {zs : List Nat} (hr : Rep wr G L) (hf : Fr G0 w0 wr G) (h : RowAt wr b 3 c f) (hv : ∀ i, i < zs.length → f i = .int .i64 (zs.getD i 0 : Int)) (hn : w0.heap.size ≤ b) (ho : ¬ G.has b) (hc : zs.length ≤ c) : Fil w0 wr G0 G L b c zs zs :=
  ⟨hr, hf, ⟨f, h, fun i hi => by rw [hv i hi, List.drop_eq_nil_of_le (Nat.le_refl _), List.append_nil]⟩, hn, ho, hc⟩
theorem Fil.at {w0 wr : World} {G0 G : Loc} {L : List Nd} {b c : Nat} {zs : List Nat} (h : Fil w0 wr G0 G L b c zs zs) : ∃ f, RowAt wr b 3 c f ∧ ∀ i, i < zs.length → f i = .int .i64 (zs.getD i 0 : Int) := by
  obtain ⟨f, h1, h2⟩ := h.row
  exact ⟨f, h1, fun i hi => by rw [h2 i hi, List.drop_eq_nil_of_le (Nat.le_refl _), List.append_nil]⟩
theorem Fil.set {w0 wr : World} {G0 G : Loc} {L : List Nd} {b c : Nat} {zs : List Nat} (h : Fil w0 wr G0 G L b c zs zs) (i : Nat) (hi : i < zs.length) (e : Nat) : Fil w0 (wr.setCell ⟨b, i, none⟩ (.int .i64 (e : Int))) G0 G L b c (zs.set i e) (zs.set i e) := by
  obtain ⟨f, h1, h2⟩ := h.at
  have hG : ∀ x, G.has x → x ≠ b := fun x hx q => h.out (q ▸ hx)
  refine Fil.of_row (h.rep.of_heap fun x hx => Below.heap_setCell _ _ _ _ (hG x hx)) ?_ (h1.set i (.int .i64 (e : Int))) (fun j hj => ?_) h.new h.out (by rw [List.length_set]; exact h.len)
  · exact ⟨h.fr.h, h.fr.os, h.fr.tape, h.fr.output, by simpa [World.setCell] using h.fr.size, fun x hx hn => (Below.heap_setCell _ _ _ _ (by have := h.new; show x ≠ b; omega)).trans (h.fr.block x hx hn), h.fr.own⟩
  · rw [List.length_set] at hj
    rw [List.getD_eq_getElem?_getD, List.getElem?_set]
    by_cases q : i = j
    · subst q; rw [upd_same, if_pos rfl, if_pos hi]; rfl
    · rw [upd_ne _ _ _ (Ne.symm q), if_neg q, h2 j hj, List.getD_eq_getElem?_getD]
theorem Fil.refill {w0 wr : World} {G0 G : Loc} {L : List Nd} {b c : Nat} {es ys : List Nat} (h : Fil w0 wr G0 G L b c es ys) (zs : List Nat) (hz : zs.length = ys.length) : Fil w0 (wr.setCells b 0 (zs.map encE)) G0 G L b c zs zs := by
  obtain ⟨f, h1, _⟩ := h.row
  have hlen := h.len
  obtain ⟨f', r1, r2, _⟩ := RowAt.setCells (zs.map encE) wr f 0 h1 (by simp; omega)
  have hg := grown_setCells b (zs.map encE) wr 0
  refine Fil.of_row (Rep.grow h.rep hg (fun k e => by cases e; exact h.out)) (Fr.grow h.fr hg (fun k e => by cases e; exact h.new)) r1 (fun i hi => ?_) h.new h.out (by omega)
  have := r2 i (encE (zs.getD i 0)) (by rw [List.getElem?_map, List.getElem?_eq_getElem hi]; simp [hi])
  rw [Nat.zero_add] at this
  exact this
theorem Fil.drewN {w0 wr : World} {G0 G : Loc} {L : List Nd} {b c : Nat} {es ys : List Nat} (h : Fil w0 wr G0 G L b c es ys) (q : Nat) : Fil w0 (wr.drewN q) G0 G L b c es ys := h.op (h.rep.drewN q) ((Fr.refl G wr).drewN q)
end Go.Proofs.Ytnkcdgpaphphaaa.Gr
