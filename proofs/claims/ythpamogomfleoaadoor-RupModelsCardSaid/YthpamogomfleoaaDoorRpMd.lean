/- Contract of rup.Model. -/
import Derived.Test.YthpamogomfleoaaDoorRpA
import Derived.Test.YthpamogomfleoaaDoorRpMod
namespace Go.Proofs.YthpamogomfleoaaDoor.Cl
open Go Go.RowKit Go.Lib Go.Sort

/-- What is asked of a function over literals: in each later world it answers p; it may make memory. -/
def PredInts (g : Nat) (lb : Array Value) (p : Int → Bool) (rs : List Int) (w : World) : Prop :=
  ∀ W : World, Below w.heap.size w W → ∀ r ∈ rs, Calls Tryd.prog g (#[.int .i64 r] ++ lb) W fun e w' => e = .returned (.bool (p r)) ∧ Below W.heap.size W w'
set_option maxHeartbeats 1000000 in
theorem IndexFunc_ints (g : Nat) (lb : Array Value) (eg : ∀ args w, (callFunc g args).run Tryd.prog w = .ok (.enter g args) w) (a : Option Addr) (c : Nat) (p : Int → Bool) (rs : List Int) (w : World) (hr : RowIn (Value.int .i64) w a rs) (hl : rs.length ≤ 9223372036854775807) (hp : PredInts g lb p rs w) :
    Calls Tryd.prog 52 #[.slice a rs.length c, .func (.func g) #[] lb] w fun e w' => SomeIdx (rs.any p) e ∧ Below w.heap.size w w' := by
  have HP := Lib.hid hp
  clear hp
  go_enter Tryd.func52, Tryd.ntmps52
  go_wp2
  go_loopw [5, 8] (fun _ i wr => ∃ k : Nat, k ≤ rs.length ∧ i = .int .i64 k ∧ Below w.heap.size w wr ∧ Hid (∀ j, j < k → p rs[j]! = false)) (fun _ i _ => rs.length - (intOf i).toNat)
  case atStart => exact ⟨0, Nat.zero_le _, rfl, Below.refl _ _, fun j hj => absurd hj (Nat.not_lt_zero _)⟩
  case round =>
    obtain ⟨k, hk, rfl, hB, HA⟩ := hrel
    by_cases hlt : k < rs.length
    · have hltz : (k : Int) < (rs.length : Int) := by omega
      obtain ⟨b, off, rfl, hb, hc⟩ := hr.pos hlt
      have c1 : wr.cell? ⟨b, off + k, none⟩ = some (.int .i64 rs[k]!) := (hB.cell (p := ⟨b, off + k, none⟩) hb).trans (hc k hlt)
      have hcall := HP.out wr hB rs[k]! (getElem!_mem hlt)
      clear hc hr
      have HY : Hid (∀ v, p rs[k]! = v → p rs[k]! = v) := fun _ h => h
      generalize hv : Value.int .i64 rs[k]! = v at c1 hcall
      clear hv
      cases hq : p rs[k]! with
      | true =>
        rw [hq] at hcall
        have HO : Hid (rs.any p = true) := any_at hlt hq
        clear hq
        go_wp2_with (go_at_fn g; refine hcall.mono ?_; rintro e w' ⟨rfl, hb'⟩)
        go_ret
        exact ⟨⟨k, rfl, by rw [HO.out]; simp, by omega⟩, hB.trans (hb'.mono hB.size)⟩
      | false =>
        rw [hq] at hcall
        have HA2 : Hid (∀ j, j < k + 1 → p rs[j]! = false) := fun j hj => by
          by_cases e : j = k
          · subst e; exact hq
          · exact HA.out j (by omega)
        clear hq
        go_wp2_with (go_at_fn g; refine hcall.mono ?_; rintro e w' ⟨rfl, hb'⟩)
        go_roundw
        case rel => exact ⟨k + 1, by omega, by go_num, hB.trans (hb'.mono hB.size), HA2⟩
        case measure => simp [intOf]; omega
    · have hltz : ¬ (k : Int) < (rs.length : Int) := by omega
      have HO : Hid (rs.any p = false) := any_none (fun j hj => HA.out j (by omega))
      go_wp2
      go_ret
      exact ⟨⟨-1, rfl, by rw [HO.out]; rfl, by omega⟩, hB⟩

set_option maxHeartbeats 1000000 in
theorem ContainsFunc_ints (g : Nat) (lb : Array Value) (eg : ∀ args w, (callFunc g args).run Tryd.prog w = .ok (.enter g args) w) (a : Option Addr) (c : Nat) (p : Int → Bool) (rs : List Int) (w : World) (hr : RowIn (Value.int .i64) w a rs) (hl : rs.length ≤ 9223372036854775807) (hp : PredInts g lb p rs w) :
    Calls Tryd.prog 31 #[.slice a rs.length c, .func (.func g) #[] lb] w fun e w' => e = .returned (.bool (rs.any p)) ∧ Below w.heap.size w w' := by
  have HC := Lib.hid (IndexFunc_ints g lb eg a c p rs w hr hl hp)
  clear hr hp
  generalize rs.any p = r at *
  go_enter Tryd.func31, Tryd.ntmps31
  go_wp2_with (go_at_call 52; refine HC.out.mono ?_; rintro e w' ⟨⟨i, rfl, hi, hi1⟩, hb⟩)
  go_ret
  exact ⟨by rw [← hi]; simp, hb⟩

theorem one_lit (w : World) (n : Int) : RowIn (Value.int .i64) (w.alloc (.cells #[.int .i64 n] 3)) (some ⟨w.heap.size, 0, none⟩) [n] := alloc_row1 (zs := [n]) w 3
theorem untrue_gives (B : Nat) (ma : Option Addr) (mc : Nat) (m : List Bool) (W : World) (hB : W.cell? ⟨B, 0, none⟩ = some (.slice ma m.length mc)) (hb : RowIn Value.bool W ma m) (n : Int) :
    Calls Tryd.prog 28 (#[.int .i64 n] ++ #[.pointer (some ⟨B, 0, none⟩)]) W fun e w' => e = .returned (.bool (!litB m n)) ∧ Below W.heap.size W w' := by
  have hA : Below W.heap.size W (W.alloc (.cells #[.int .i64 n] 3)) := (Below.refl _ _).alloc (Nat.le_refl _) _
  have HH := Lib.hid (Holds_any (some ⟨W.heap.size, 0, none⟩) 1 [n] ma mc m _ (one_lit W n) (by simp) (hb.below hA))
  rw [holds_one] at HH
  have HB := Lib.hid hA
  have hB2 : (W.alloc (.cells #[.int .i64 n] 3)).cell? ⟨B, 0, none⟩ = some (.slice ma m.length mc) := by rw [World.cell?_alloc_some _ _ _ (by rw [hB]; rfl), hB]
  generalize litB m n = x at *
  clear hb
  go_enter Tryd.func28, Tryd.ntmps28
  go_wp2_with (go_at_call 29; refine HH.out.mono ?_; rintro e w' ⟨rfl, hb⟩)
  go_ret
  exact ⟨rfl, HB.out.trans (hb.mono HB.out.size)⟩
theorem enters_untrue : ∀ args w, (callFunc 28 args).run Tryd.prog w = .ok (.enter 28 args) w := enters_of Tryd.func28 (by kernel_rfl) rfl

theorem modelB_eq (rs : List Row) (m : List Bool) (us : List Int) : modelB (rs.map Row.zs) m us = ((Rc.allRight rs && allB (rs.map Row.zs) m) && !(us.any fun n => !litB m n)) := by
  unfold modelB Rc.allRight
  rw [List.all_map, ← List.all_eq_not_any_not]
  have h : us.all (litB m) = true → rightB us = true := fun h => List.all_eq_true.2 fun x hx => by
    have := List.all_eq_true.1 h x hx
    unfold litB at this
    exact (Bool.and_eq_true _ _ ▸ this).1
  cases e1 : us.all (litB m) with
  | false => simp
  | true =>
    rw [h e1]
    have e2 : (rs.all (rightB ∘ Row.zs)) = rs.all fun r => rightB r.zs := rfl
    rw [e2]
    cases allB (rs.map Row.zs) m <;> cases (rs.all fun r => rightB r.zs) <;> rfl

set_option maxHeartbeats 4000000 in
theorem RupModel_any (rs : List Row) (a : Option Addr) (c : Nat) (m : List Bool) (ma : Option Addr) (mc : Nat) (us : List Int) (f : Option Addr) (g : Nat) (w : World)
    (hrs : RowsIn w a rs) (hrl : rs.length ≤ 9223372036854775807) (hm : RowIn Value.bool w ma m) (hz : RowIn (Value.int .i64) w f us) (hul : us.length ≤ 9223372036854775807) :
    Calls Tryd.prog 16 #[.slice a rs.length c, .slice ma m.length mc, .slice f us.length g] w fun e w' => e = .returned (.bool (modelB (rs.map Row.zs) m us)) ∧ Below w.heap.size w w' := by
  have hA : Below w.heap.size w (w.alloc (.cells #[.slice ma m.length mc] 29)) := (Below.refl _ _).alloc (Nat.le_refl _) _
  have HA := Lib.hid hA
  have HB0 : Hid (∀ W, Below (w.heap.size + 1) (w.alloc (.cells #[.slice ma m.length mc] 29)) W → W.cell? ⟨w.heap.size, 0, none⟩ = some (.slice ma m.length mc)) := fun W h => (h.cell (p := ⟨w.heap.size, 0, none⟩) (by simp)).trans (new_cell w #[.slice ma m.length mc] 29 0)
  have HAR := Lib.hid (Rc.areRight_any a c rs _ (hrs.below hA) hrl)
  have HAL : Hid (∀ W, Below w.heap.size w W → Calls Tryd.prog 30 #[.slice a rs.length c, .slice ma m.length mc] W fun e w' => e = .returned (.bool (allB (rs.map Row.zs) m)) ∧ Below W.heap.size W w') := fun W h => All_any a c rs ma mc m W (hrs.below h) hrl (hm.below h)
  have HCF : Hid (∀ W, Below (w.heap.size + 1) (w.alloc (.cells #[.slice ma m.length mc] 29)) W → Calls Tryd.prog 31 #[.slice f us.length g, .func (.func 28) #[] #[.pointer (some ⟨w.heap.size, 0, none⟩)]] W fun e w' => e = .returned (.bool (us.any fun n => !litB m n)) ∧ Below W.heap.size W w') := fun W h => by
    have hW : Below w.heap.size w W := hA.trans (h.mono (by omega))
    have hsz : w.heap.size + 1 ≤ W.heap.size := by have := h.size; simpa using this
    refine ContainsFunc_ints 28 _ enters_untrue f g (fun n => !litB m n) us W (hz.below hW) hul (fun W' hW' n _ => ?_)
    have h2 := h.trans (hW'.mono hsz)
    exact untrue_gives w.heap.size ma mc m W' (HB0.out W' h2) (hm.below (hW.trans (hW'.mono hW.size))) n
  rw [modelB_eq]
  have hs1 : (w.alloc (.cells #[.slice ma m.length mc] 29)).heap.size = w.heap.size + 1 := by simp
  have HSZ := Lib.hid hs1
  clear hrs hm hz hA hs1
  generalize Rc.allRight rs = x1 at *
  generalize allB (rs.map Row.zs) m = x2 at *
  generalize (us.any fun n => !litB m n) = x3 at *
  cases x1 with
  | false =>
    go_enter Tryd.func16, Tryd.ntmps16
    go_wp2_with (go_at_call 18; refine HAR.out.mono ?_; rintro e w1 ⟨rfl, hb1⟩)
    go_ret
    exact ⟨rfl, HA.out.trans (hb1.mono HA.out.size)⟩
  | true =>
    cases x2 with
    | false =>
      go_enter Tryd.func16, Tryd.ntmps16
      go_wp2_with fail
      refine HAR.out.mono ?_
      rintro e w1 ⟨rfl, hb1⟩
      have HB1 : Hid (Below (w.heap.size + 1) (w.alloc (.cells #[.slice ma m.length mc] 29)) w1) := by rw [← HSZ.out]; exact hb1
      have c0 := HB0.out _ HB1.out
      have HB2 : Hid (Below w.heap.size w w1) := HA.out.trans (hb1.mono HA.out.size)
      clear hb1
      go_wp2_with fail
      refine (HAL.out _ HB2.out).mono ?_
      rintro e w2 ⟨rfl, hb2⟩
      go_wp2_with fail
      go_ret
      exact ⟨rfl, HB2.out.trans (hb2.mono HB2.out.size)⟩
    | true =>
      go_enter Tryd.func16, Tryd.ntmps16
      go_wp2_with fail
      refine HAR.out.mono ?_
      rintro e w1 ⟨rfl, hb1⟩
      have HB1 : Hid (Below (w.heap.size + 1) (w.alloc (.cells #[.slice ma m.length mc] 29)) w1) := by rw [← HSZ.out]; exact hb1
      have c0 := HB0.out _ HB1.out
      have HB2 : Hid (Below w.heap.size w w1) := HA.out.trans (hb1.mono HA.out.size)
      have HSW : Hid (w.heap.size + 1 ≤ w1.heap.size) := by rw [← HSZ.out]; exact hb1.size
      clear hb1
      go_wp2_with fail
      refine (HAL.out _ HB2.out).mono ?_
      rintro e w2 ⟨rfl, hb2⟩
      have HB3 := Lib.hid (HB1.out.trans (hb2.mono HSW.out))
      have HB4 := Lib.hid (HB2.out.trans (hb2.mono HB2.out.size))
      clear hb2 c0
      go_wp2_with fail
      refine (HCF.out _ HB3.out).mono ?_
      rintro e w3 ⟨rfl, hb3⟩
      go_wp2_with fail
      go_ret
      exact ⟨rfl, HB4.out.trans (hb3.mono HB4.out.size)⟩
end Go.Proofs.YthpamogomfleoaaDoor.Cl
