/- Contract of Put. -/
import Derived.Test.YtanmpokfeidlcaaHpC
import Derived.BigRegion
import Derived.ArgAppend
import Derived.OwnWalk
namespace Go.Proofs.Ytanmpokfeidlcaa.Hp
open Go Go.RowKit Go.Lib

/-- 'append(xs, x)' within the capacity: one cell is set. -/
theorem wpList_append_one {P : Program} (w : World) {ops : Array Oper} {rest : List Oper} {o : Oper} {a : Act} {Q : Exit → Act → World → Prop}
    (hg : o.guard = none) (s x : Operand) (t : TypeId) (hop : o.op = Op.call { callee := Callee.builtin Builtin.append, args := #[s, x], argTypes := #[t, t] })
    (e : TypeId) (i : TypeInfo) (h1 : P.underlying t = some (.slice e)) (h2 : P.info? e = some i) (h4 : i.size = 1)
    (b n cap : Nat) (hs : a.eval s = .slice (some ⟨b, 0, none⟩) n cap) (ad : Addr) (c : Nat) (u : Value) (hx : a.eval x = .slice (some ad) 1 c) (hc : w.cell? ad = some u) (h1c : u.oneCell' = true)
    (hroom : n + 1 ≤ cap) (hspare : (w.cell? ⟨b, n, none⟩).isSome = true) (hfree : w.frozen? ⟨b, n, none⟩ = false)
    (hK : wpList P ops Q rest (a.put o.dst (.slice (some ⟨b, 0, none⟩) (n + 1) cap)) (w.setCell ⟨b, n, none⟩ u)) :
    wpList P ops Q (o :: rest) a w := by
  refine wpList_plain hg fun K hK' => ?_
  have hrun := run_append_room_cells (P := P) w t o.type e i h1 h2 b 0 n cap ad 1 c [u] (by rw [h4]; rfl)
    (fun j v hj => by
      match j, hj with
      | 0, hj =>
        obtain rfl : u = v := by simpa using hj
        obtain ⟨x, y, z⟩ := ad
        have hz : z = none := by simpa using World.cell?_spot hc
        subst hz
        simpa [Addr.add] using hc)
    (fun v hv => by obtain rfl : v = u := by simpa using hv
                    exact h1c) hroom
    (fun j hj => by obtain rfl : j = 0 := by simpa using hj
                    rw [h4]; simpa using hspare)
    (fun j hj => by obtain rfl : j = 0 := by simpa using hj
                    rw [h4]; simpa using hfree)
  rw [h4] at hrun
  simp only [Nat.zero_add, Nat.mul_one, World.setCells] at hrun
  unfold Oper.wp
  simp [execOp, hop, resolve, invoke, builtin, hs, hx, hrun, Result.andThen]
  exact hK' _ _ hK

theorem infoInt : (Try.prog.info? 3).map (fun i => (i.zero, i.size, i.bytes)) = some (some (.int .i64 0), 1, 8) := by kernel_rfl

theorem Inv.put {n k : Nat} {T : Nat → Nat} {P : Nat → Int} (h : Inv 0 n k T P) {v : Nat} (h1 : 1 ≤ v) (h2 : v ≤ n) (hP : P v = -1) (hk : k < n) : Inv 0 n (k + 1) (upd T k v) (upd P v (k : Int)) := by
  refine ⟨by omega, fun i hi => ?_, fun u u1 u2 ux => ?_, fun i hi => ?_⟩
  · by_cases e : i = k
    · subst e; rw [upd_same, upd_same]; exact ⟨h1, h2, rfl⟩
    · rw [upd_ne _ _ _ e]
      have h3 := h.tree i (by omega)
      refine ⟨h3.1, h3.2.1, ?_⟩
      rw [upd_ne _ _ _ (fun q => ?_)]
      · exact h3.2.2
      · rw [q, hP] at h3; omega
  · by_cases e : u = v
    · subst e; exact Or.inr ⟨k, by omega, by rw [upd_same], by rw [upd_same]⟩
    · rw [upd_ne _ _ _ e]
      rcases h.place u u1 u2 ux with q | ⟨i, q1, q2, q3⟩
      · exact Or.inl q
      · exact Or.inr ⟨i, by omega, q2, by rw [upd_ne _ _ _ (by omega)]; exact q3⟩
  · by_cases e : i = k
    · subst e; rw [upd_same]; omega
    · rw [upd_ne _ _ _ e]; have := (h.tree i (by omega)).1; omega

theorem Up.put {k : Nat} {A : Nat → Int} {T : Nat → Nat} (h : OrdFrom 0 k A T) (v : Nat) : Up (k + 1) A (upd T k v) k := by
  refine ⟨fun j j0 jk jne => ?_, fun j j0 jk hp _ => ?_⟩
  · have := par_lt j0
    rw [upd_ne _ _ _ jne, upd_ne _ _ _ (by omega)]
    exact h j j0 (by omega) (Nat.zero_le _)
  · have := par_lt j0
    omega

set_option maxHeartbeats 2000000 in
theorem Put_new {w : World} {L : Loc} {n k : Nat} {T : Nat → Nat} {P A : Nat → Int} (h : Rep w L n k T P A) (hI : Inv 0 n k T P) (hO : OrdFrom 0 k A T) (v : Nat) (h1 : 1 ≤ v) (h2 : v ≤ n) (hP : P v = -1) (hk : k < n) (hn : n ≤ 100000) :
    Calls Try.prog 11 #[.pointer (some ⟨L.h, 0, none⟩), .int .i64 (v : Int)] w fun e w' => e = .returned (.bool true) ∧ ∃ T' P', Rep w' L n (k + 1) T' P' A ∧ Inv 0 n (k + 1) T' P' ∧ OrdFrom 0 (k + 1) A T' ∧ (∀ u, P' u ≠ -1 ↔ upd P v (k : Int) u ≠ -1) ∧ Only L.all w w' := by
  have hv := isVariable_any h (v : Int)
  rw [isV_nat h1 h2] at hv
  have hh := Has_rep h (v : Int)
  rw [isV_nat h1 h2, Int.toNat_natCast, hP] at hh
  have d0 := h.c0
  have d1 := h.c1
  have c1 := h.cp h2
  have f1 := h.place.free v
  have vb : (v : Int) < (n : Int) + 1 := by omega
  have v0 : (0 : Int) ≤ (v : Int) := by omega
  have HR1 : Hid (Rep (w.setCell ⟨L.p, v, none⟩ (.int .i64 (k : Int))).drew L n k T (upd P v (k : Int)) A) := (h.setPlace v (k : Int)).drewN 1
  have HO1 : Hid (Only L.all w (w.setCell ⟨L.p, v, none⟩ (.int .i64 (k : Int))).drew) := ((Only.refl _ _).set (by simp [Loc.all]) _).drewN 1
  have HII := Lib.hid hI
  have HOO := Lib.hid hO
  clear h hI hO
  rw [hP] at c1
  have HP := Lib.hid hP
  clear hP
  go_enter Try.func11, Try.ntmps11
  go_wp2_with fail
  refine hv.mono ?_
  rintro e w' ⟨rfl, rfl⟩
  go_wp2_with fail
  refine hh.mono ?_
  rintro e w' ⟨rfl, rfl⟩
  go_wp2_with fail
  obtain ⟨ii, hi, hz0, hz1, hz2⟩ := info_parts infoInt
  go_region
  generalize (w.setCell ⟨L.p, v, none⟩ (.int .i64 (k : Int))).drew = W1 at *
  have HR2 : Hid (Rep (W1.alloc (.cells #[.int .i64 (v : Int)] 3)) L n k T (upd P v (k : Int)) A) := HR1.out.alloc _
  have HR3 : Hid (Rep (((W1.alloc (.cells #[.int .i64 (v : Int)] 3)).setCell ⟨L.t, k, none⟩ (.int .i64 (v : Int))).setCell ⟨L.h, 0, none⟩ (.slice (some ⟨L.t, 0, none⟩) (k + 1) n)) L n (k + 1) (upd T k v) (upd P v (k : Int)) A) := (HR2.out.setTree k v).setHead (k + 1)
  have HO3 : Hid (Only L.all w (((W1.alloc (.cells #[.int .i64 (v : Int)] 3)).setCell ⟨L.t, k, none⟩ (.int .i64 (v : Int))).setCell ⟨L.h, 0, none⟩ (.slice (some ⟨L.t, 0, none⟩) (k + 1) n))) := ((HO1.out.alloc _).set (by simp [Loc.all]) _).set (by simp [Loc.all]) _
  have d2 := HR1.out.c0
  have d3 := (HR2.out.setTree k v).c0
  have d4 := (HR2.out.setTree k v).head.free 0
  have d5 := HR2.out.ct hk
  have d6 := HR2.out.tree.free k
  have d7 : (W1.alloc (.cells #[.int .i64 (v : Int)] 3)).cell? ⟨W1.heap.size, 0, none⟩ = some (.int .i64 (v : Int)) := by rw [World.cell?_alloc_at _ _ _ _ rfl]; rfl
  have D5 : Hid (((W1.alloc (.cells #[.int .i64 (v : Int)] 3)).cell? ⟨L.t, k, none⟩).isSome = true) := by rw [Hid, d5]; rfl
  have D6 := Lib.hid d6
  have D7 := Lib.hid d7
  clear d5 d6 d7
  have HC : Hid (Calls Try.prog 26 #[.pointer (some ⟨L.h, 0, none⟩), .int .i64 (v : Int)] (((W1.alloc (.cells #[.int .i64 (v : Int)] 3)).setCell ⟨L.t, k, none⟩ (.int .i64 (v : Int))).setCell ⟨L.h, 0, none⟩ (.slice (some ⟨L.t, 0, none⟩) (k + 1) n)) fun e w' => e = .returned (.tuple #[]) ∧ ∃ T' P', Rep w' L n (k + 1) T' P' A ∧ Inv 0 n (k + 1) T' P' ∧ OrdFrom 0 (k + 1) A T' ∧ (∀ u, P' u ≠ -1 ↔ upd P v (k : Int) u ≠ -1) ∧ Only L.all (((W1.alloc (.cells #[.int .i64 (v : Int)] 3)).setCell ⟨L.t, k, none⟩ (.int .i64 (v : Int))).setCell ⟨L.h, 0, none⟩ (.slice (some ⟨L.t, 0, none⟩) (k + 1) n)) w') :=
    rise_rep HR3.out (HII.out.put h1 h2 HP.out hk) k v (by omega) (upd_same _ _ _) (Up.put HOO.out v) hn
  go_wp2_with (at_builtin; refine wpList_append_one _ rfl _ _ _ rfl 3 ii Try.underlying46 hi hz1 L.t k n rfl ⟨W1.heap.size, 0, none⟩ 1 (.int .i64 (v : Int)) rfl D7.out rfl (by omega) D5.out D6.out ?_)
  refine HC.out.mono ?_
  rintro e w2 ⟨rfl, T', P', r1, r2, r3, r4, r5⟩
  go_wp2_with fail
  go_ret
  exact ⟨rfl, T', P', r1, r2, r3, r4, HO3.out.trans r5⟩

theorem ret_bool {a b : Bool} (h : a = b) : Ending.returned (.bool a) = .returned (.bool b) := by rw [h]

set_option maxHeartbeats 2000000 in
theorem Put_old {w : World} {L : Loc} {n k : Nat} {T : Nat → Nat} {P A : Nat → Int} (h : Rep w L n k T P A) (v : Int) (hv : isV n v = true → P v.toNat ≠ -1) :
    Calls Try.prog 11 #[.pointer (some ⟨L.h, 0, none⟩), .int .i64 v] w fun e w' => e = .returned (.bool false) ∧ w = w' := by
  have hi := isVariable_any h v
  have hh := Has_rep h v
  cases e : isV n v with
  | false =>
    rw [e] at hi hh
    clear h hv e
    go_enter Try.func11, Try.ntmps11
    go_wp2_with fail
    refine hi.mono ?_
    rintro e w' ⟨rfl, rfl⟩
    go_wp2_with fail
    go_ret
    exact ⟨rfl, rfl⟩
  | true =>
    have q : (P v.toNat != -1) = true := by simpa using hv e
    rw [e] at hi hh
    rw [q] at hh
    clear h hv e q
    go_enter Try.func11, Try.ntmps11
    go_wp2_with fail
    refine hi.mono ?_
    rintro e w' ⟨rfl, rfl⟩
    go_wp2_with fail
    refine hh.mono ?_
    rintro e w' ⟨rfl, rfl⟩
    go_wp2_with fail
    go_ret
    exact ⟨rfl, rfl⟩

theorem upd_self {α : Type} {f : Nat → α} {i : Nat} {x : α} (h : f i = x) : upd f i x = f := by
  funext j; unfold upd; split
  · rename_i q; rw [q, h]
  · rfl

/-- Put, as the document has it. -/
theorem Put_heap {w : World} {L : Loc} {n : Nat} {In : Nat → Bool} {A : Nat → Int} (h : IsHeap w L n In A) (v : Int) :
    Calls Try.prog 11 #[.pointer (some ⟨L.h, 0, none⟩), .int .i64 v] w fun e w' => e = .returned (.bool (isV n v && !In v.toNat)) ∧ IsHeap w' L n (if isV n v = true then upd In v.toNat true else In) A ∧ Only L.all w w' := by
  have hh := h
  obtain ⟨k, T, P, hr, hI, hO, hP, hk, hA0, hA, hn⟩ := h
  cases hv : isV n v with
  | false =>
    refine (Put_old hr v (by rw [hv]; intro q; cases q)).mono ?_
    rintro e w' ⟨rfl, rfl⟩
    exact ⟨rfl, hh, Only.refl _ _⟩
  | true =>
    obtain ⟨u, rfl, u1, u2⟩ := isV_cases hv
    simp only [Int.toNat_natCast, Bool.true_and, if_true]
    cases hi : In u with
    | true =>
      refine (Put_old hr (u : Int) (fun _ => by simpa using (hP u u1 u2).1 hi)).mono ?_
      rintro e w' ⟨rfl, rfl⟩
      exact ⟨rfl, by rw [upd_self hi]; exact hh, Only.refl _ _⟩
    | false =>
      have hc := cnt_put u1 u2 hi
      have hl := cnt_le n (upd In u true)
      have hPu : P u = -1 := by
        apply Classical.byContradiction
        intro q
        rw [(hP u u1 u2).2 q] at hi
        cases hi
      refine (Put_new hr hI hO u u1 u2 hPu (by omega) hn).mono ?_
      rintro e w' ⟨rfl, T', P', r1, r2, r3, r4, r5⟩
      refine ⟨rfl, ⟨k + 1, T', P', r1, r2, r3, fun x x1 x2 => ?_, by omega, hA0, hA, hn⟩, r5⟩
      rw [r4]
      by_cases q : x = u
      · subst q; rw [upd_same, upd_same]; simp
      · rw [upd_ne _ _ _ q, upd_ne _ _ _ q]; exact hP x x1 x2
end Go.Proofs.Ytanmpokfeidlcaa.Hp
