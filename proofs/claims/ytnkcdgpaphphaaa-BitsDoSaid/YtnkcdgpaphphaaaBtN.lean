/- slices.Insert at the front of a row of the call's own, slices.Reverse of one. -/
import Derived.Test.YtnkcdgpaphphaaaBtI
import Derived.Test.YtnkcdgpaphphaaaBtSh
import Derived.Laws.AppendOwn
namespace Go.Proofs.Ytnkcdgpaphphaaa.Gr
open Go Go.RowKit Go.Lib Go.Maps

theorem RowAt.setCells {b : Nat} {ty : TypeId} {n : Nat} : ∀ (vs : List Value) (w : World) (f : Nat → Value) (o : Nat), RowAt w b ty n f → o + vs.length ≤ n → ∃ f', RowAt (w.setCells b o vs) b ty n f' ∧ (∀ j v, vs[j]? = some v → f' (o + j) = v) ∧ (∀ i, (i < o ∨ o + vs.length ≤ i) → f' i = f i) := by
  intro vs
  induction vs with
  | nil => intro w f o h _; exact ⟨f, h, fun j v e => by simp at e, fun i _ => rfl⟩
  | cons v r ih =>
    intro w f o h ho
    rw [List.length_cons] at ho
    obtain ⟨f', h1, h2, h3⟩ := ih (w.setCell ⟨b, o, none⟩ v) _ (o + 1) (h.set o v) (by omega)
    refine ⟨f', h1, fun j u e => ?_, fun i hi => ?_⟩
    · cases j with
      | zero =>
        have : v = u := by simpa using e
        rw [Nat.add_zero, h3 o (Or.inl (by omega)), upd_same, this]
      | succ j => rw [show o + (j + 1) = o + 1 + j by omega]; exact h2 j u (by simpa using e)
    · rw [List.length_cons] at hi
      rw [h3 i (by omega), upd_ne _ _ _ (by omega)]
theorem grown_setCells (b : Nat) : ∀ (vs : List Value) (w : World) (o : Nat), w.grownBy (w.setCells b o vs) (some b) := by
  intro vs
  induction vs with
  | nil => intro w o; exact ⟨rfl, rfl, rfl, Nat.le_refl _, fun _ _ _ => rfl⟩
  | cons v r ih =>
    intro w o
    have h := ih (w.setCell ⟨b, o, none⟩ v) (o + 1)
    refine ⟨h.os, h.tape, h.output, by
      have h' := h.size
      rw [show (w.setCell ⟨b, o, none⟩ v).heap.size = w.heap.size by simp [World.setCell]] at h'
      exact h', fun k hk hn => ?_⟩
    exact (h.block k (by simpa [World.setCell] using hk) hn).trans (Below.heap_setCell _ _ _ _ (fun e => hn (by rw [e])))
theorem grown_drew (w : World) (row : Option Nat) : w.grownBy w.drew row := ⟨rfl, rfl, rfl, Nat.le_refl _, fun _ _ _ => rfl⟩
theorem grown_trans {a b c : World} {row : Option Nat} (h : a.grownBy b row) (k : b.grownBy c row) : a.grownBy c row :=
  ⟨k.os.trans h.os, k.tape.trans h.tape, k.output.trans h.output, Nat.le_trans h.size k.size, fun i hi hn => (k.block i (Nat.lt_of_lt_of_le hi h.size) hn).trans (h.block i hi hn)⟩
theorem grown_new {a b c : World} {row : Option Nat} (h : a.grownBy b row) {n : Nat} (hn : a.heap.size ≤ n) (k : b.grownBy c (some n)) : a.grownBy c row :=
  ⟨k.os.trans h.os, k.tape.trans h.tape, k.output.trans h.output, Nat.le_trans h.size k.size, fun i hi hne => (k.block i (Nat.lt_of_lt_of_le hi h.size) (fun e => by cases e; omega)).trans (h.block i hi hne)⟩
theorem RowAt.drew {w : World} {b : Nat} {ty : TypeId} {n : Nat} {f : Nat → Value} (h : RowAt w b ty n f) : RowAt w.drew b ty n f := h.of_heap rfl
theorem RowAt.shape {w : World} {b : Nat} {ty : TypeId} {n : Nat} {f : Nat → Value} (h : RowAt w b ty n f) : w.shape? b = some (ty, n) := by
  obtain ⟨arr, h1, h2, _⟩ := h
  unfold World.shape?; rw [h1, ← h2]
theorem RowAt.of_new {w : World} {arr : Array Value} {ty : TypeId} {n : Nat} (hn : arr.size = n) : RowAt (w.alloc (.cells arr ty)) w.heap.size ty n (fun i => arr[i]?.getD (.int .i64 0)) :=
  ⟨arr, heap_alloc_new w _, hn, fun i hi => by show arr[i]? = some (arr[i]?.getD (.int .i64 0)); rw [Array.getElem?_eq_getElem (by omega)]; rfl⟩
theorem zeroCells_size (n : Nat) : (Builtin.zeroCells (Value.int .i64 0).cells n).size = n := by simp [Builtin.zeroCells, Value.cells]

/-- A list under way: nothing, or a row that starts at its block's start. -/
def RestAt (w : World) (v : Value) (rs : List Nat) : Prop :=
  (rs = [] ∧ v = .slice none 0 0) ∨ ∃ b c f, v = .slice (some ⟨b, 0, none⟩) rs.length c ∧ 0 < rs.length ∧ rs.length ≤ c ∧ c ≤ maxLen ∧ RowAt w b 3 c f ∧ ∀ i, i < rs.length → f i = .int .i64 (rs.getD i 0 : Int)

/-- What Insert leaves. -/
def InsE (w : World) (v : Value) (xs : List Nat) (e : Ending) (w' : World) : Prop :=
  ∃ b c f, e = .returned (.slice (some ⟨b, 0, none⟩) xs.length c) ∧ xs.length ≤ c ∧ c ≤ maxLen ∧ RowAt w' b 3 c f ∧ (∀ i, i < xs.length → f i = .int .i64 (xs.getD i 0 : Int)) ∧ (v.ownBlock = some b ∨ w.heap.size ≤ b) ∧ w.grownBy w' v.ownBlock

theorem getD_cons_succ (x : Nat) (rs : List Nat) (i : Nat) : (x :: rs).getD (i + 1) 0 = rs.getD i 0 := by simp [List.getD_eq_getElem?_getD]

theorem Insert_front {w : World} {v : Value} {rs : List Nat} (h : RestAt w v rs) (x vb : Nat) (hv : w.heap[vb]? = some (.cells #[.int .i64 (x : Int)] 3 (0, 0))) (hvb : v.ownBlock ≠ some vb) (hn : rs.length ≤ 100) :
    Calls Try.prog 72 #[v, .int .i64 0, .slice (some ⟨vb, 0, none⟩) 1 1] w (InsE w v (x :: rs)) := by
  have hx : ∀ j u, [(Value.int .i64 (x : Int))][j]? = some u → w.cell? ⟨vb, 0 + j, none⟩ = some u := by
    intro j u e
    cases j with
    | zero =>
      have : Value.int .i64 (x : Int) = u := by simpa using e
      subst this
      simp [World.cell?, hv]
    | succ j => simp at e
  have h1 : ∀ u ∈ [(Value.int .i64 (x : Int))], u.oneCell' = true := by intro u hu; simp at hu; subst hu; rfl
  rcases h with ⟨rfl, rfl⟩ | ⟨b, c, f, rfl, h2, h3, h4, h5, h6⟩
  · refine (Any2.slices_Insert_int_end_grow Try.lays2n21 none 0 0 vb 0 1 1 [] [.int .i64 (x : Int)] w (by omega) (by omega) (by omega) (by omega) rfl rfl (fun _ => rfl) (fun a e => by cases e) hx h1).mono ?_
    rintro e w' ⟨rfl, rfl⟩
    have hge := grownCap_ge w (0 + 1) 0 3
    have hle := grownCap_le_maxLen w (0 + 1) 0 3 (by unfold maxLen; omega)
    have hR := RowAt.of_new (w := w.drew) (ty := 3) (n := grownCap w (0 + 1) 0 3) (arr := ([] ++ [Value.int .i64 (x : Int)]).toArray ++ Builtin.zeroCells (Value.int .i64 0).cells (grownCap w (0 + 1) 0 3 - (0 + 1))) (by rw [Array.size_append, zeroCells_size]; show 1 + _ = _; omega)
    refine ⟨_, _, _, rfl, hge, hle, hR, fun i hi => ?_, Or.inr (Nat.le_refl _), ?_⟩
    · have : i = 0 := by simpa using hi
      subst this
      show ((([] ++ [Value.int .i64 (x : Int)]).toArray ++ _)[0]?).getD _ = _
      rw [Array.getElem?_append_left (by simp)]
      rfl
    · exact ⟨rfl, rfl, rfl, (show w.drew.heap.size ≤ (w.drew.alloc _).heap.size by simp), fun k hk _ => Below.heap_alloc w.drew _ _ hk⟩
  · have hcs : ∀ j u, (rs.map encE)[j]? = some u → w.cell? ⟨b, 0 + j, none⟩ = some u := by
      intro j u e
      rw [List.getElem?_map] at e
      have hj : j < rs.length := by
        refine Classical.byContradiction fun q => ?_
        rw [List.getElem?_eq_none (by omega)] at e; cases e
      rw [Nat.zero_add, h5.cell (i := j) (by omega), h6 j hj]
      rw [List.getElem?_eq_getElem hj] at e
      simp [encE] at e
      rw [← e, List.getD_eq_getElem?_getD, List.getElem?_eq_getElem hj]; rfl
    have hc1 : ∀ u ∈ rs.map encE, u.oneCell' = true := by intro u hu; obtain ⟨z, _, rfl⟩ := List.mem_map.1 hu; rfl
    have hne : vb ≠ b := fun e => hvb (by rw [e]; rfl)
    have hvlt : vb < w.heap.size := lt_of_blk hv
    have hlist : ∀ f' : Nat → Value, f' 0 = .int .i64 (x : Int) → (∀ j u, (rs.map encE)[j]? = some u → f' (1 + j) = u) → ∀ i, i < (x :: rs).length → f' i = .int .i64 ((x :: rs).getD i 0 : Int) := by
      intro f' g0 g1 i hi
      cases i with
      | zero => rw [g0]; rfl
      | succ i =>
        rw [List.length_cons] at hi
        rw [getD_cons_succ, show i + 1 = 1 + i by omega]
        refine g1 i _ ?_
        rw [List.getElem?_map, List.getElem?_eq_getElem (by omega)]
        simp [encE, show i < rs.length by omega]
    by_cases hroom : rs.length + 1 ≤ c
    · refine (Any2.slices_Insert_int_shift Try.lays2n21 b 0 rs.length c 0 vb 0 1 1 (rs.map encE) [.int .i64 (x : Int)] w h2 (by omega) hroom (by unfold maxLen at h4; omega) hne (by simp) rfl hcs (fun j hj => by rw [Nat.zero_add, h5.cell (i := j) (by omega)]; rfl) (fun j _ => h5.free _) hx hc1 h1 3 3 1 c (by unfold World.shape?; rw [hv]; rfl) h5.shape (by omega) (by simp [World.frozen?, hv]) (by simp [World.frozen?, hv])).mono ?_
      rintro e w' ⟨rfl, rfl⟩
      obtain ⟨f1, r1, r2, r3⟩ := RowAt.setCells ((rs.map encE).drop 0) w.drew f (0 + (0 + 1)) h5.drew (by simp; omega)
      obtain ⟨f2, s1, s2, s3⟩ := RowAt.setCells [.int .i64 (x : Int)] _ f1 (0 + 0) r1 (by simp; omega)
      refine ⟨b, c, f2, rfl, hroom, h4, s1, hlist f2 (s2 0 _ rfl) (fun j u e => ?_), Or.inl rfl, ?_⟩
      · rw [s3 _ (Or.inr (by simp))]
        exact r2 j u (by rw [List.drop_zero]; exact e)
      · exact grown_trans (grown_trans (grown_drew w _) (grown_setCells b _ _ _)) (grown_setCells b _ _ _)
    · refine (Any2.slices_Insert_int_grow Try.lays2n21 b 0 rs.length c 0 vb 0 1 1 (rs.map encE) [.int .i64 (x : Int)] w h2 (by omega) h3 (by omega) (by omega) (by simp) rfl hcs hx hc1 h1).mono ?_
      rintro e w' ⟨rfl, rfl⟩
      have hge := grownCap_ge w (rs.length + 1) c 3
      have hle := grownCap_le_maxLen w (rs.length + 1) c 3 (by unfold maxLen; omega)
      have hR := RowAt.of_new (w := w) (ty := 3) (n := grownCap w (rs.length + 1) c 3) (arr := ((rs.map encE).take 0).toArray ++ Builtin.zeroCells (Value.int .i64 0).cells (rs.length + 1 - 0) ++ Builtin.zeroCells (Value.int .i64 0).cells (grownCap w (rs.length + 1) c 3 - (rs.length + 1))) (by rw [Array.size_append, Array.size_append, zeroCells_size, zeroCells_size]; simp; omega)
      obtain ⟨f1, r1, r2, r3⟩ := RowAt.setCells [.int .i64 (x : Int)] _ _ 0 hR.drew (by simp; omega)
      obtain ⟨f2, s1, s2, s3⟩ := RowAt.setCells ((rs.map encE).drop 0) _ f1 (0 + 1) r1.drew (by simp; omega)
      refine ⟨w.heap.size, _, f2, rfl, hge, hle, s1, hlist f2 ?_ (fun j u e => s2 j u (by rw [List.drop_zero]; exact e)), Or.inr (Nat.le_refl _), ?_⟩
      · rw [s3 0 (Or.inl (by omega))]; exact r2 0 _ rfl
      · have g0 : ∀ o, w.grownBy (w.alloc o) (some b) := fun o => ⟨rfl, rfl, rfl, by simp, fun k hk _ => Below.heap_alloc _ _ _ hk⟩
        exact grown_new (grown_trans (grown_new (grown_trans (g0 _) (grown_drew _ _)) (Nat.le_refl _) (grown_setCells w.heap.size _ _ _)) (grown_drew _ _)) (Nat.le_refl _) (grown_setCells w.heap.size _ _ _)
end Go.Proofs.Ytnkcdgpaphphaaa.Gr
