/- The document's own heap: New. -/
import Derived.Test.YtanmpokfeidlcaaHpRb
namespace Go.Proofs.Ytanmpokfeidlcaa.Hp
open Go Go.RowKit Go.Lib

theorem owns_pre {w : World} {base : Nat} {e : TypeId} {v : Value} {n : Nat} {f : Nat → Value} (h : w.ownsRow base e 1 v n ((List.range n).map f)) :
    ∃ ao cap, v = .slice ao n cap ∧ (n = 0 ∨ ∃ g, ao = some ⟨g, 0, none⟩ ∧ base ≤ g ∧ v.ownBlock = some g ∧ RowPre w g e n f) := by
  obtain ⟨h1, ⟨h2, h3⟩ | ⟨g, cap, cur, hv, hg, hh, hnc, hcm, hcs, htk⟩⟩ := h
  · exact ⟨none, 0, by rw [h2, h3], Or.inl h3⟩
  · refine ⟨_, cap, hv, Or.inr ⟨g, rfl, hg, by rw [hv]; rfl, cur, hh, by omega, fun i hi => ?_⟩⟩
    have : (cur.toList.take (n * 1))[i]? = some (f i) := by rw [htk]; simp [hi]
    rw [List.getElem?_take, if_pos (by omega)] at this
    simpa using this

theorem owns_grown {w w' : World} {base : Nat} {e : TypeId} {size : Nat} {v : Value} {n : Nat} {xs : List Value} (h : w.ownsRow base e size v n xs) {row : Option Nat} (hg : w.grownBy w' row) (hr : ∀ g, v.ownBlock = some g → some g ≠ row) : w'.ownsRow base e size v n xs := by
  obtain ⟨h1, h2⟩ := h
  refine ⟨h1, ?_⟩
  rcases h2 with h2 | ⟨g, cap, cur, hv, hb, hh, r⟩
  · exact Or.inl h2
  · exact Or.inr ⟨g, cap, cur, hv, hb, by rw [hg.block g (lt_of_block hh) (hr g (by rw [hv]; rfl))]; exact hh, r⟩

theorem owns_apart {w : World} {base : Nat} {e e' : TypeId} {size size' : Nat} {v v' : Value} {n n' : Nat} {xs xs' : List Value} (h : w.ownsRow base e size v n xs) (h' : w.ownsRow base e' size' v' n' xs') (he : e ≠ e') : ∀ g, v.ownBlock = some g → some g ≠ v'.ownBlock := by
  intro g hg hg'
  rcases h.2 with ⟨h2, _⟩ | ⟨b, cap, cur, hv, _, hh, _⟩
  · subst h2; cases hg
  · rcases h'.2 with ⟨h2, _⟩ | ⟨b', cap', cur', hv', _, hh', _⟩
    · subst h2; cases hg'
    · subst hv; subst hv'
      simp only [Value.ownBlock, Option.some.injEq] at hg hg'
      subst hg; subst hg'
      rw [hh] at hh'
      simp only [Option.some.injEq, Obj.cells.injEq] at hh'
      exact he hh'.2.1

def twoF (x y : Value) : Nat → Value
  | 0 => x
  | _ => y

/-- While it is filled: i bools, j numbers. -/
structure NewR (w0 w : World) (r i j : Nat) (vi va : Value) : Prop where
  head : RowAt w r 40 2 (twoF vi va)
  oi : w.ownsRow (r + 1) 4 1 vi i ((List.range i).map fun _ => .bool true)
  oa : w.ownsRow (r + 1) 2 1 va j ((List.range j).map fun _ => .int .i64 0)
  below : Below r w0 w

theorem NewR.c0 {w0 w : World} {r i j : Nat} {vi va : Value} (h : NewR w0 w r i j vi va) : w.cell? ⟨r, 0, none⟩ = some vi := h.head.cell (i := 0) (by omega)
theorem NewR.c1 {w0 w : World} {r i j : Nat} {vi va : Value} (h : NewR w0 w r i j vi va) : w.cell? ⟨r, 1, none⟩ = some va := h.head.cell (i := 1) (by omega)

theorem owns_from {w : World} {base : Nat} {e : TypeId} {size : Nat} {v : Value} {n : Nat} {xs : List Value} (h : w.ownsRow base e size v n xs) : ∀ b, v.ownBlock = some b → base ≤ b := by
  intro b hb
  rcases h.2 with ⟨h2, _⟩ | ⟨g, cap, cur, hv, hg, _⟩
  · subst h2; cases hb
  · subst hv; simp [Value.ownBlock] at hb; omega
theorem owns_not {w : World} {r : Nat} {e : TypeId} {size : Nat} {v : Value} {n : Nat} {xs : List Value} (h : w.ownsRow (r + 1) e size v n xs) : v.ownBlock ≠ some r := fun q => by have := owns_from h r q; omega

theorem NewR.putI {w0 w w1 : World} {r i j : Nat} {vi va v1 : Value} {o : Obj} (h : NewR w0 w r i j vi va) (h1 : w1.ownsRow (r + 1) 4 1 v1 (i + 1) (((List.range i).map fun _ => Value.bool true) ++ [.bool true])) (hg : (w.alloc o).grownBy w1 vi.ownBlock) :
    RowAt w1 r 40 2 (twoF vi va) ∧ NewR w0 (w1.setCell ⟨r, 0, none⟩ v1) r (i + 1) j v1 va := by
  have hr := h.head.lt
  have hhead : RowAt w1 r 40 2 (twoF vi va) := (h.head.alloc o).of_heap (hg.block r (by simp; omega) (fun e => owns_not h.oi e.symm))
  refine ⟨hhead, (hhead.set 0 v1).congr (fun k hk => by match k, hk with | 0, _ => rfl | 1, _ => rfl), ?_, ?_, ?_⟩
  · rw [List.range_succ, List.map_append]
    exact ownsRow_setCell_other h1 (owns_not h1) _
  · have h2 := owns_grown (h.oa.alloc o) hg (owns_apart h.oa h.oi (by decide))
    exact ownsRow_setCell_other h2 (owns_not h2) _
  · refine Below.setCell ((h.below.alloc (by omega) o).grown hg (by simp; omega) (fun k hk => ?_)) (by exact Nat.le_refl _) _
    have := owns_from h.oi k hk
    omega

theorem NewR.putA {w0 w w1 : World} {r i j : Nat} {vi va v1 : Value} {o : Obj} (h : NewR w0 w r i j vi va) (h1 : w1.ownsRow (r + 1) 2 1 v1 (j + 1) (((List.range j).map fun _ => Value.int .i64 0) ++ [.int .i64 0])) (hg : (w.alloc o).grownBy w1 va.ownBlock) :
    RowAt w1 r 40 2 (twoF vi va) ∧ NewR w0 (w1.setCell ⟨r, 1, none⟩ v1) r i (j + 1) vi v1 := by
  have hr := h.head.lt
  have hhead : RowAt w1 r 40 2 (twoF vi va) := (h.head.alloc o).of_heap (hg.block r (by simp; omega) (fun e => owns_not h.oa e.symm))
  refine ⟨hhead, (hhead.set 1 v1).congr (fun k hk => by match k, hk with | 0, _ => rfl | 1, _ => rfl), ?_, ?_, ?_⟩
  · have h2 := owns_grown (h.oi.alloc o) hg (owns_apart h.oi h.oa (by decide))
    exact ownsRow_setCell_other h2 (owns_not h2) _
  · rw [List.range_succ, List.map_append]
    exact ownsRow_setCell_other h1 (owns_not h1) _
  · refine Below.setCell ((h.below.alloc (by omega) o).grown hg (by simp; omega) (fun k hk => ?_)) (by exact Nat.le_refl _) _
    have := owns_from h.oa k hk
    omega

theorem NewR.done {w0 w : World} {r n : Nat} {vi va : Value} (h : NewR w0 w r n n vi va) : ∃ R : RLoc, R.r = r ∧ IsRef w r R n (fun _ => true) (fun _ => 0) := by
  obtain ⟨arr, a1, a2, a3⟩ := h.head
  have harr : arr = #[vi, va] := by
    apply Array.ext (by simpa using a2)
    intro k h1 h2
    have hk : k < 2 := by omega
    have := a3 k hk
    rw [Array.getElem?_eq_getElem h1] at this
    match k, hk, h1, h2, this with
    | 0, _, _, _, q => simpa [twoF] using q
    | 1, _, _, _, q => simpa [twoF] using q
  subst harr
  obtain ⟨ai, ci, e1, hi⟩ := owns_pre h.oi
  obtain ⟨aa, ca, e2, ha⟩ := owns_pre h.oa
  rcases Nat.eq_zero_or_pos n with h0 | h0
  · subst h0
    refine ⟨⟨r, r + 1, r + 2, ai, aa, ci, ca⟩, rfl, by rw [← e1, ← e2]; exact a1, Or.inl rfl, Or.inl rfl, by simp, by simp, by simp, fun b hb => by simp [RLoc.all] at hb; omega⟩
  · obtain ⟨g1, q1, b1, o1, p1⟩ := hi.resolve_left (by omega)
    obtain ⟨g2, q2, b2, o2, p2⟩ := ha.resolve_left (by omega)
    have hne : g1 ≠ g2 := fun q => owns_apart h.oi h.oa (by decide) g1 o1 (by rw [o2, q])
    refine ⟨⟨r, g1, g2, ai, aa, ci, ca⟩, rfl, by rw [← e1, ← e2]; exact a1, Or.inr ⟨q1, p1⟩, Or.inr ⟨q2, p2⟩, by dsimp only; omega, by dsimp only; omega, hne, fun b hb => by simp [RLoc.all] at hb; omega⟩

theorem infoBool : (Try.prog.info? 4).map (fun i => (i.zero, i.size, i.bytes)) = some (some (.bool false), 1, 1) := by kernel_rfl

set_option maxHeartbeats 4000000 in
theorem New_ref (n : Nat) (w : World) (hn : n ≤ 100000) :
    Calls Try.prog 10 #[.int .i64 (n : Int)] w fun e w' => ∃ R : RLoc, e = .returned (.pointer (some ⟨R.r, 0, none⟩)) ∧ IsRef w' w.heap.size R n (fun _ => true) (fun _ => 0) ∧ Below w.heap.size w w' := by
  obtain ⟨bi, hbi, hbz0, hbz1, hbz2⟩ := info_parts infoBool
  obtain ⟨ni, hni, hnz0, hnz1, hnz2⟩ := info_parts infoI64
  have HS0 : Hid (NewR w (w.alloc (.cells #[.slice none 0 0, .slice none 0 0] 40)) w.heap.size 0 0 (.slice none 0 0) (.slice none 0 0)) := by
    refine ⟨⟨#[.slice none 0 0, .slice none 0 0], ?_, rfl, fun i hi => ?_⟩, World.ownsRow_nil _ _ _ _, World.ownsRow_nil _ _ _ _, (Below.refl _ _).alloc (Nat.le_refl _) _⟩
    · exact heap_alloc_new w _
    · match i, hi with
      | 0, _ => rfl
      | 1, _ => rfl
  go_enter Try.func10, Try.ntmps10
  go_wp2_with fail
  go_loopw [4] (fun iv wr => ∃ (i : Nat) (vi va : Value), iv = .int .i64 (i : Int) ∧ i ≤ n ∧ Hid (NewR w wr w.heap.size i i vi va)) (fun iv _ => n - (intOf iv).toNat)
  case atStart => exact ⟨0, _, _, rfl, Nat.zero_le _, HS0⟩
  case round =>
    obtain ⟨i, vi, va, rfl, hi, HR⟩ := hrel
    by_cases hlt : i < n
    · have hltz : (i : Int) < (n : Int) := by omega
      have c0 := HR.out.c0
      have hsz : w.heap.size < wr.heap.size := HR.out.head.lt
      have HSZ := Lib.hid hsz
      have HOI := Lib.hid HR.out.oi
      clear hsz
      go_wp2_with (at_builtin; refine wpList_append_lies _ rfl _ _ 37 rfl (w.heap.size + 1) 4 bi (.bool false) 1 1 Try.underlying37 hbi hbz0 hbz1 hbz2 rfl (by decide) _ _ _ rfl (HOI.out.alloc _) ⟨wr.heap.size, 0, none⟩ 1 1 [.bool true] rfl rfl ?c1 ?c2 (by decide) ?c3 ?c4 ?c5 (wr.heap.size + 1) (by simp) ?_)
      case c1 =>
        intro q u hq
        match q, hq with
        | 0, hq => simp at hq; subst hq; simp [Addr.add]
      case c2 => intro u hu; simp at hu; subst hu; rfl
      case c3 => unfold maxLen; omega
      case c4 => omega
      case c5 => have := HSZ.out; simp; omega
      · intro g cap w1 hown hgrow _ _
        have hp := HR.out.putI hown hgrow
        have f0 := hp.1.free 0
        have c1 := hp.2.c1
        have hh0 := hp.1.cell (i := 0) (by omega)
        have HR1 := Lib.hid hp.2
        have HOA := Lib.hid hp.2.oa
        have hsz1 : w.heap.size < (w1.setCell ⟨w.heap.size, 0, none⟩ (.slice (some ⟨g, 0, none⟩) (i + 1) cap)).heap.size := hp.2.head.lt
        have HSZ1 := Lib.hid hsz1
        clear hown hgrow hp hsz1
        go_wp2_with (at_builtin; refine wpList_append_lies _ rfl _ _ 38 rfl (w.heap.size + 1) 2 ni (.int .i64 0) 1 8 Try.underlying38 hni hnz0 hnz1 hnz2 rfl (by decide) _ _ _ rfl (HOA.out.alloc _) ⟨w1.heap.size, 0, none⟩ 1 1 [.int .i64 0] rfl rfl ?d1 ?d2 (by decide) ?d3 ?d4 ?d5 (w1.heap.size + 1) (by simp [World.setCell]) ?_)
        case d1 =>
          intro q u hq
          match q, hq with
          | 0, hq => simp at hq; subst hq; simp [Addr.add]; rw [World.cell?_alloc_at _ _ _ _ (by simp [World.setCell])]; rfl
        case d2 => intro u hu; simp at hu; subst hu; rfl
        case d3 => unfold maxLen; omega
        case d4 => omega
        case d5 => have := HSZ1.out; simp at this ⊢; omega
        · intro g2 cap2 w2 hown hgrow _ _
          have hp := HR1.out.putA hown hgrow
          have f1 := hp.1.free 1
          have hh1 := hp.1.cell (i := 1) (by omega)
          have HR2 := Lib.hid hp.2
          clear hown hgrow hp
          go_wp2_with fail
          go_roundw
          case rel => exact ⟨i + 1, _, _, by go_num, by omega, HR2⟩
          case measure => simp [intOf]; omega
    · obtain rfl : i = n := by omega
      have hltz : ¬ (i : Int) < (i : Int) := by omega
      go_wp2_with fail
      go_ret
      obtain ⟨R, hR, hI⟩ := HR.out.done
      exact ⟨R, by rw [hR]; rfl, hI, HR.out.below⟩
end Go.Proofs.Ytanmpokfeidlcaa.Hp
