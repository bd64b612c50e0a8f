/- Contracts of clause.Holds, All, Greatest, and of slices.IndexFunc, ContainsFunc over clauses, whose function may make memory. -/
import Derived.Test.YthpamogomfleoaaDoorClB
namespace Go.Proofs.YthpamogomfleoaaDoor.Cl
open Go Go.RowKit Go.Lib

set_option maxHeartbeats 1000000 in
theorem Holds_any (a : Option Addr) (c : Nat) (zs : List Int) (ma : Option Addr) (mc : Nat) (m : List Bool) (w : World) (hr : RowIn (Value.int .i64) w a zs) (hl : zs.length ≤ 9223372036854775807) (hb : RowIn Value.bool w ma m) :
    Calls Tryd.prog 29 #[.slice a zs.length c, .slice ma m.length mc] w fun e w' => e = .returned (.bool (holdsB zs m)) ∧ Below w.heap.size w w' := by
  rcases hr with rfl | ⟨b, off, rfl, hlt, hc⟩
  · go_enter Tryd.func29, Tryd.ntmps29
    go_wp2_with (go_at_call 31; refine (Tryd.slices_ContainsFunc_empty_f31 (α := Int) _ _ _ _).mono ?_; rintro e w' ⟨rfl, rfl⟩)
    go_ret
    exact ⟨rfl, (Below.refl _ _).alloc (Nat.le_refl _) _⟩
  · have hpred : ∀ W, w.heap.size < W.heap.size → Below w.heap.size w W → W.cell? ⟨w.heap.size, 0, none⟩ = some (.slice ma m.length mc) → PredAt Tryd.prog 48 #[.pointer (some ⟨w.heap.size, 0, none⟩)] (Value.int .i64) (litB m) W :=
      fun W h1 h2 h3 W' n hb' => holds_gives w.heap.size ma mc m W' ((hb'.cell (p := ⟨w.heap.size, 0, none⟩) h1).trans h3) ((hb.below h2).below hb') n
    have hcon := fun (W : World) h1 h2 h3 (h4 : ∀ j, j < zs.length → W.cell? ⟨b, off + j, none⟩ = some (.int .i64 zs[j]!)) => Tryd.slices_ContainsFunc_f31 (Value.int .i64) (litB m) 48 #[.pointer (some ⟨w.heap.size, 0, none⟩)] enters_holds b off zs.length c zs W (hpred W h1 h2 h3) (Nat.le_refl _) hl h4
    rw [List.take_length] at hcon
    have HC : Hid (∀ j, j < zs.length → w.cell? ⟨b, off + j, none⟩ = some (.int .i64 zs[j]!)) := hc
    have hA : Below w.heap.size w (w.alloc (.cells #[.slice ma m.length mc] 29)) := (Below.refl _ _).alloc (Nat.le_refl _) _
    have HCON := Lib.hid (hcon (w.alloc (.cells #[.slice ma m.length mc] 29)) (by simp) hA (by simp) (fun j hj => (hA.cell (p := ⟨b, off + j, none⟩) hlt).trans (hc j hj)))
    clear hc hpred hcon hb
    unfold holdsB
    generalize zs.any (litB m) = r at *
    go_enter Tryd.func29, Tryd.ntmps29
    go_wp2_with (go_at_call 31; refine (HCON.out).mono ?_; rintro e w' ⟨rfl, q, rfl⟩)
    go_ret
    exact ⟨rfl, below_drewN' hA q⟩

/-- What is asked of a function over clauses: at each clause of the list, in each later world, it answers p; it may make memory. -/
def PredRows (g : Nat) (lb : Array Value) (p : Row → Bool) (rs : List Row) (w : World) : Prop :=
  ∀ W : World, Below w.heap.size w W → ∀ r ∈ rs, Calls Tryd.prog g (#[r.val] ++ lb) W fun e w' => e = .returned (.bool (p r)) ∧ Below W.heap.size W w'
def SomeIdx (b : Bool) (e : Ending) : Prop := ∃ i : Int, e = .returned (.int .i64 i) ∧ decide (0 ≤ i) = b ∧ -1 ≤ i

set_option maxHeartbeats 1000000 in
theorem IndexFunc_rows (g : Nat) (lb : Array Value) (eg : ∀ args w, (callFunc g args).run Tryd.prog w = .ok (.enter g args) w) (a : Option Addr) (c : Nat) (p : Row → Bool) (rs : List Row) (w : World) (hr : RowIn Row.val w a rs) (hl : rs.length ≤ 9223372036854775807) (hp : PredRows g lb p rs w) :
    Calls Tryd.prog 54 #[.slice a rs.length c, .func (.func g) #[] lb] w fun e w' => SomeIdx (rs.any p) e ∧ Below w.heap.size w w' := by
  have HP := Lib.hid hp
  clear hp
  go_enter Tryd.func54, Tryd.ntmps54
  go_wp2
  go_loopw [5, 8] (fun _ i wr => ∃ k : Nat, k ≤ rs.length ∧ i = .int .i64 k ∧ Below w.heap.size w wr ∧ Hid (∀ j, j < k → p rs[j]! = false)) (fun _ i _ => rs.length - (intOf i).toNat)
  case atStart => exact ⟨0, Nat.zero_le _, rfl, Below.refl _ _, fun j hj => absurd hj (Nat.not_lt_zero _)⟩
  case round =>
    obtain ⟨k, hk, rfl, hB, HA⟩ := hrel
    by_cases hlt : k < rs.length
    · have hltz : (k : Int) < (rs.length : Int) := by omega
      obtain ⟨b, off, rfl, hb, hc⟩ := hr.pos hlt
      have c1 : wr.cell? ⟨b, off + k, none⟩ = some rs[k]!.val := (hB.cell (p := ⟨b, off + k, none⟩) hb).trans (hc k hlt)
      have hcall := HP.out wr hB rs[k]! (getElem!_mem hlt)
      clear hc hr
      have HY : Hid (∀ v, p rs[k]! = v → p rs[k]! = v) := fun _ h => h
      generalize hv : rs[k]!.val = v at c1 hcall
      clear hv
      cases hq : p rs[k]! with
      | true =>
        rw [hq] at hcall
        have HO : Hid (rs.any p = true) := any_at hlt hq
        clear hq
        go_wp2_with (go_at_fn g; refine hcall.mono ?_; rintro e w' ⟨rfl, hb'⟩)
        go_ret
        exact ⟨⟨k, rfl, by rw [HO.out]; simp, by omega⟩, hB.trans (hb'.mono hB.size)⟩
      | false =>
        rw [hq] at hcall
        have HA2 : Hid (∀ j, j < k + 1 → p rs[j]! = false) := fun j hj => by
          by_cases e : j = k
          · subst e; exact hq
          · exact HA.out j (by omega)
        clear hq
        go_wp2_with (go_at_fn g; refine hcall.mono ?_; rintro e w' ⟨rfl, hb'⟩)
        go_roundw
        case rel => exact ⟨k + 1, by omega, by go_num, hB.trans (hb'.mono hB.size), HA2⟩
        case measure => simp [intOf]; omega
    · have hltz : ¬ (k : Int) < (rs.length : Int) := by omega
      have HO : Hid (rs.any p = false) := any_none (fun j hj => HA.out j (by omega))
      go_wp2
      go_ret
      exact ⟨⟨-1, rfl, by rw [HO.out]; rfl, by omega⟩, hB⟩

set_option maxHeartbeats 1000000 in
theorem ContainsFunc_rows (g : Nat) (lb : Array Value) (eg : ∀ args w, (callFunc g args).run Tryd.prog w = .ok (.enter g args) w) (a : Option Addr) (c : Nat) (p : Row → Bool) (rs : List Row) (w : World) (hr : RowIn Row.val w a rs) (hl : rs.length ≤ 9223372036854775807) (hp : PredRows g lb p rs w) :
    Calls Tryd.prog 33 #[.slice a rs.length c, .func (.func g) #[] lb] w fun e w' => e = .returned (.bool (rs.any p)) ∧ Below w.heap.size w w' := by
  have HC := Lib.hid (IndexFunc_rows g lb eg a c p rs w hr hl hp)
  clear hr hp
  generalize rs.any p = r at *
  go_enter Tryd.func33, Tryd.ntmps33
  go_wp2_with (go_at_call 54; refine HC.out.mono ?_; rintro e w' ⟨⟨i, rfl, hi, hi1⟩, hb⟩)
  go_ret
  exact ⟨by rw [← hi]; simp, hb⟩
end Go.Proofs.YthpamogomfleoaaDoor.Cl
