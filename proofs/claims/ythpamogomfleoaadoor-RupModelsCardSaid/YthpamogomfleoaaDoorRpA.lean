/- Stage 4: the program's Follows and Check as their contracts, and the law's examples. -/
import Derived.Test.YthpamogomfleoaaDoorRpPlain
import Derived.Test.YthpamogomfleoaaDoorRcT
namespace Go.Proofs.YthpamogomfleoaaDoor.Cl
open Go Go.RowKit Go.Lib Go.Sort Go.Proofs.YthpamogomfleoaaDoor.Up

theorem RupFollows_any (rs : List Row) (b : Option Addr) (d : Nat) (zs : List Int) (w : World) (a : Option Addr) (c : Nat) (ht : Tab w) (hrs : RowsIn w a rs) (hrl : rs.length ≤ 100000) (hrz : ∀ r ∈ rs, r.zs.length ≤ 1000) (hr : RowIn (Value.int .i64) w b zs) (hzl : zs.length ≤ 1000) :
    Calls Tryd.prog 9 #[.slice a rs.length c, .slice b zs.length d] w (FolE w (rs.map Row.zs) zs) := Rc.Follows_any rs b d zs w a c ht hrs hrl hrz hr hzl

def exCs : List (List Int) := [[1, 2], [-1, 2]]
theorem ex_right : ∀ d ∈ exCs, rightB d = true := by decide
theorem fol_ex2 : Fol exCs [2] := by
  refine ⟨ex_right, by decide, Or.inr ⟨[-1, 2], by simp [exCs], fun x hx => ?_⟩⟩
  have h1 : UP exCs (negs [2]) 1 := UP.unit (c := [1, 2]) (by simp [exCs]) (by simp) (fun y hy hne => by
    rcases List.mem_cons.1 hy with rfl | hy
    · exact absurd rfl hne
    · rw [List.mem_singleton.1 hy]; exact .given (by simp [negs]))
  rcases List.mem_cons.1 hx with rfl | hx
  · exact h1
  · rw [List.mem_singleton.1 hx]; exact .given (by simp [negs])
theorem fol_ex1 : ¬ Fol exCs [1] := by
  rintro ⟨_, _, h⟩
  have e : negs [1] = [-1] := rfl
  rw [e, ← bad_unit (c := [1, 2]) (l := 2) (by simp [exCs]) (by simp) (by decide)] at h
  refine bad_closed (by decide) (fun c hc => Or.inl ?_) h
  simp only [exCs, List.mem_cons, List.not_mem_nil, or_false] at hc
  rcases hc with rfl | rfl
  · exact ⟨2, by simp, by simp⟩
  · exact ⟨2, by simp, by simp⟩
theorem chk_ex2 : Chk exCs [] [2] 0 := Or.inr ⟨⟨ex_right, by decide⟩, Or.inr ⟨_, .nil, Or.inl ⟨rfl, Or.inr fol_ex2⟩⟩⟩
theorem ex_two {d : List Int} (hd : d ∈ exCs) (h : 2 ∈ d → (2 : Int) ∈ ([1] : List Int)) : False := by
  simp only [exCs, List.mem_cons, List.not_mem_nil, or_false] at hd
  rcases hd with rfl | rfl <;> simp at h
theorem chk_ex1 : Chk exCs [] [1] 1 := Or.inr ⟨⟨ex_right, by decide⟩, Or.inr ⟨_, .nil, Or.inr ⟨rfl, fun h => h.elim (fun ⟨d, hd, q⟩ => ex_two hd ((sameB_mem (ex_right d hd) (by decide) q 2).1)) fol_ex1⟩⟩⟩

/-- A new slice's row. -/
theorem alloc_row1 {zs : List Int} (w : World) (T : TypeId) : RowIn (Value.int .i64) (w.alloc (.cells (zs.map (Value.int .i64)).toArray T)) (some ⟨w.heap.size, 0, none⟩) zs := by
  refine Or.inr ⟨w.heap.size, 0, rfl, by simp, fun j hj => ?_⟩
  rw [Lib.cell_of_heap (b := w.heap.size) (cs := (zs.map (Value.int .i64)).toArray) (T := T) (fr := (0, 0)) (by unfold World.alloc; simp)]
  simp [hj]

theorem new_cell (w : World) (cs : Array Value) (T : TypeId) (j : Nat) : (w.alloc (.cells cs T)).cell? ⟨w.heap.size, j, none⟩ = cs[j]? := by
  rw [Lib.cell_of_heap (b := w.heap.size) (cs := cs) (T := T) (fr := (0, 0)) (by unfold World.alloc; simp)]

def exRows (n : Nat) : List Row := [⟨some ⟨n, 0, none⟩, 2, [1, 2]⟩, ⟨some ⟨n + 1, 0, none⟩, 2, [-1, 2]⟩]
theorem exRows_zs (n : Nat) : (exRows n).map Row.zs = exCs := rfl

theorem ex_rows (w : World) (T U : TypeId) : RowsIn (((w.alloc (.cells #[.int .i64 1, .int .i64 2] T)).alloc (.cells #[.int .i64 (-1), .int .i64 2] T)).alloc (.cells #[.slice (some ⟨w.heap.size, 0, none⟩) 2 2, .slice (some ⟨w.heap.size + 1, 0, none⟩) 2 2] U)) (some ⟨w.heap.size + 1 + 1, 0, none⟩) (exRows w.heap.size) := by
  have h1 := alloc_row1 (zs := [1, 2]) w T
  have h2 := alloc_row1 (zs := [-1, 2]) (w.alloc (.cells #[.int .i64 1, .int .i64 2] T)) T
  simp only [World.size_alloc] at h2
  refine ⟨Or.inr ⟨w.heap.size + 1 + 1, 0, rfl, by simp, fun j hj => ?_⟩, fun r hr => ?_, fun r hr => ?_⟩
  · have hc := new_cell ((w.alloc (.cells #[.int .i64 1, .int .i64 2] T)).alloc (.cells #[.int .i64 (-1), .int .i64 2] T)) #[.slice (some ⟨w.heap.size, 0, none⟩) 2 2, .slice (some ⟨w.heap.size + 1, 0, none⟩) 2 2] U j
    simp only [World.size_alloc, Nat.zero_add] at hc ⊢
    rw [hc]
    have hj : j < 2 := hj
    match j, hj with
    | 0, _ => rfl
    | 1, _ => rfl
  · simp only [exRows, List.mem_cons, List.not_mem_nil, or_false] at hr
    rcases hr with rfl | rfl
    · exact (h1.below ((Below.refl _ _).alloc (Nat.le_refl _) _)).below ((Below.refl _ _).alloc (Nat.le_refl _) _)
    · exact h2.below ((Below.refl _ _).alloc (Nat.le_refl _) _)
  · simp only [exRows, List.mem_cons, List.not_mem_nil, or_false] at hr
    rcases hr with rfl | rfl <;> simp

theorem ex_follows {n : Nat} {x : Int} (b : Bool) (hb : b = true ↔ Fol exCs [x]) (hx : -100 ≤ x ∧ x ≤ 100) (w : World) (ht : Tab w) (a : Option Addr) (h : RowsIn w a (exRows n)) :
    Calls Tryd.prog 9 #[.slice a 2 2, .slice (some ⟨w.heap.size, 0, none⟩) 1 1] (w.alloc (.cells #[.int .i64 x] 3)) fun e w' => e = .returned (.bool b) ∧ Below w.heap.size w w' := by
  have hB : Below w.heap.size w (w.alloc (.cells #[.int .i64 x] 3)) := (Below.refl _ _).alloc (Nat.le_refl _) _
  refine (RupFollows_any (exRows n) (some ⟨w.heap.size, 0, none⟩) 1 [x] _ a 2 (ht.below hB) (h.below hB) (by simp [exRows]) (by intro r hr; simp only [exRows, List.mem_cons, List.not_mem_nil, or_false] at hr; rcases hr with rfl | rfl <;> simp) (alloc_row1 (zs := [x]) w 3) (by simp)).mono ?_
  rintro e w' ⟨r, rfl, h1, h2⟩
  rw [exRows_zs] at h1
  have e1 : r = b := by rw [Bool.eq_iff_iff, h1, hb]
  exact ⟨by rw [e1], hB.trans (h2.mono hB.size)⟩

theorem ex_check {n : Nat} {x : Int} (k : Int) (hk : Chk exCs [] [x] k) (hx : -100 ≤ x ∧ x ≤ 100) (w : World) (ht : Tab w) (b : Nat) (h : RowsIn w (some ⟨b, 0, none⟩) (exRows n)) :
    Calls Tryd.prog 17 #[.slice (some ⟨b, 0, none⟩) 2 2, .slice none 0 0, .slice (some ⟨w.heap.size, 0, none⟩) 1 1] (w.alloc (.cells #[.int .i64 x] 3)) fun e w' => e = .returned (.int .i64 k) ∧ Below w.heap.size w w' := by
  have hB : Below w.heap.size w (w.alloc (.cells #[.int .i64 x] 3)) := (Below.refl _ _).alloc (Nat.le_refl _) _
  refine (Rc.Check_none (exRows n) (some ⟨w.heap.size, 0, none⟩) 1 [x] _ (some ⟨b, 0, none⟩) 2 (ht.below hB) (h.below hB) (by simp [exRows]) (by intro r hr; simp only [exRows, List.mem_cons, List.not_mem_nil, or_false] at hr; rcases hr with rfl | rfl <;> simp) (alloc_row1 (zs := [x]) w 3) (by simp)).mono ?_
  rintro e w' ⟨r, rfl, h1, h2⟩
  rw [exRows_zs] at h1
  have e1 : r = k := h1.det hk
  exact ⟨by rw [e1], hB.trans (h2.mono hB.size)⟩

set_option maxHeartbeats 4000000 in
theorem rup_awake (w : World) (ht : Tab w) :
    Calls Tryd.prog 7 #[] w fun e w' => e = .returned (.bool true) ∧ Below w.heap.size w w' := by
  have HT0 := Lib.hid ht
  clear ht
  have HR := Lib.hid (ex_rows w 3 23)
  have HB : Hid (Below w.heap.size w (((w.alloc (.cells #[.int .i64 1, .int .i64 2] 3)).alloc (.cells #[.int .i64 (-1), .int .i64 2] 3)).alloc (.cells #[.slice (some ⟨w.heap.size, 0, none⟩) 2 2, .slice (some ⟨w.heap.size + 1, 0, none⟩) 2 2] 23))) :=
    (((Below.refl _ _).alloc (Nat.le_refl _) _).alloc (by simp) _).alloc (by simp only [World.size_alloc]; omega) _
  have HT : Hid (Tab (((w.alloc (.cells #[.int .i64 1, .int .i64 2] 3)).alloc (.cells #[.int .i64 (-1), .int .i64 2] 3)).alloc (.cells #[.slice (some ⟨w.heap.size, 0, none⟩) 2 2, .slice (some ⟨w.heap.size + 1, 0, none⟩) 2 2] 23))) := HT0.out.below HB.out
  clear HT0
  go_enter Tryd.func7, Tryd.ntmps7
  go_wp2_with fail
  have hsz : (((w.alloc (.cells #[.int .i64 1, .int .i64 2] 3)).alloc (.cells #[.int .i64 (-1), .int .i64 2] 3)).alloc (.cells #[.slice (some ⟨w.heap.size, 0, none⟩) 2 2, .slice (some ⟨w.heap.size + 1, 0, none⟩) 2 2] 23)).heap.size = w.heap.size + 1 + 1 + 1 := by simp only [World.size_alloc]
  generalize (((w.alloc (.cells #[.int .i64 1, .int .i64 2] 3)).alloc (.cells #[.int .i64 (-1), .int .i64 2] 3)).alloc (.cells #[.slice (some ⟨w.heap.size, 0, none⟩) 2 2, .slice (some ⟨w.heap.size + 1, 0, none⟩) 2 2] 23)) = W1 at *
  have HF := ex_follows true (iff_of_true rfl fol_ex2) (by omega) W1 HT.out _ HR.out
  rw [hsz] at HF
  refine HF.mono ?_
  clear HF
  rintro e w1 ⟨rfl, hb1⟩
  rw [← hsz] at hb1
  clear hsz
  go_wp2_with fail
  refine (ex_follows false (iff_of_false Bool.false_ne_true fol_ex1) (by omega) w1 (HT.out.below hb1) _ (HR.out.below hb1)).mono ?_
  rintro e w2 ⟨rfl, hb2⟩
  have hb12 := hb1.trans (hb2.mono hb1.size)
  clear hb2
  go_wp2_with fail
  refine (ex_check 0 chk_ex2 (by omega) w2 (HT.out.below hb12) _ (HR.out.below hb12)).mono ?_
  rintro e w3 ⟨rfl, hb3⟩
  have hb13 := hb12.trans (hb3.mono hb12.size)
  clear hb3
  go_wp2_with fail
  refine (ex_check 1 chk_ex1 (by omega) w3 (HT.out.below hb13) _ (HR.out.below hb13)).mono ?_
  rintro e w4 ⟨rfl, hb4⟩
  have hb14 := hb13.trans (hb4.mono hb13.size)
  clear hb4
  go_wp2_with fail
  go_ret
  exact ⟨rfl, HB.out.trans (hb14.mono HB.out.size)⟩
end Go.Proofs.YthpamogomfleoaaDoor.Cl
