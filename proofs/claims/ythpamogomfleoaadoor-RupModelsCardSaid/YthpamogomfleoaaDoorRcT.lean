/- Contracts of areRight, greatest (no lines), addAll. -/
import Derived.Test.YthpamogomfleoaaDoorRcN
import Derived.Test.YthpamogomfleoaaDoorClD
import Derived.Test.YthpamogomfleoaaDoorRfC
import Derived.Test.YthpamogomfleoaaDoorRfF
namespace Go.Proofs.YthpamogomfleoaaDoor.Rc
open Go Go.RowKit Go.Lib Go.Proofs.YthpamogomfleoaaDoor.Up
open Go.Proofs.YthpamogomfleoaaDoor.Cl (RowIn Row Tab nf isNf_nf rightB oppB nf_length greatest PredRows isLit vr rowMax litMax)

/-! ### The greatest variable -/
theorem litMax_ge (n x : Int) : n ≤ litMax n x ∧ (isLit x = true → vr x ≤ litMax n x) := by
  unfold litMax
  cases h : isLit x with
  | false => simp
  | true => simp; omega
theorem rowMax_ge (zs : List Int) : ∀ n : Int, n ≤ rowMax n zs ∧ ∀ x ∈ zs, isLit x = true → vr x ≤ rowMax n zs := by
  induction zs with
  | nil => exact fun n => ⟨Int.le_refl _, fun x h => by cases h⟩
  | cons z zs ih =>
    intro n
    obtain ⟨a, b⟩ := ih (litMax n z)
    have c := litMax_ge n z
    refine ⟨Int.le_trans c.1 a, fun x hx hl => ?_⟩
    rcases List.mem_cons.1 hx with rfl | hx
    · exact Int.le_trans (c.2 hl) a
    · exact b x hx hl
theorem great_ge' (cs : List (List Int)) : ∀ n : Int, n ≤ cs.foldl rowMax n ∧ ∀ c ∈ cs, ∀ x ∈ c, isLit x = true → vr x ≤ cs.foldl rowMax n := by
  induction cs with
  | nil => exact fun n => ⟨Int.le_refl _, fun c h => by cases h⟩
  | cons d cs ih =>
    intro n
    obtain ⟨a, b⟩ := ih (rowMax n d)
    have q := rowMax_ge d n
    refine ⟨Int.le_trans q.1 a, fun c hc x hx hl => ?_⟩
    rcases List.mem_cons.1 hc with rfl | hc
    · exact Int.le_trans (q.2 x hx hl) a
    · exact b c hc x hx hl
theorem great_ge {cs : List (List Int)} {c : List Int} (hc : c ∈ cs) (hr : rightB c = true) {V : Nat} (hV : greatest cs ≤ (V : Int)) : ∀ x ∈ c, Lt V x := by
  intro x hx
  have hl : isLit x = true := List.all_eq_true.1 hr x hx
  have h1 := (great_ge' cs 0).2 c hc x hx hl
  have h2 : vr x ≤ (V : Int) := Int.le_trans h1 hV
  have h3 := (Cl.isLit_iff x).1 hl
  unfold vr at h2
  exact ⟨h3.1, by omega, by omega⟩

/-! ### areRight -/
theorem right1_gives (r : Row) (W : World) (hr : RowIn (Value.int .i64) W r.a r.zs) (hl : r.zs.length ≤ 9223372036854775807) :
    Calls Tryd.prog 34 (#[r.val] ++ #[]) W fun e w' => e = .returned (.bool (!rightB r.zs)) ∧ Below W.heap.size W w' := by
  have HH := Lib.hid (Cl.Right_any r.a r.c r.zs W hr hl)
  unfold Row.val
  generalize rightB r.zs = x at *
  clear hr hl
  go_enter Tryd.func34, Tryd.ntmps34
  go_wp2_with (go_at_call 19; refine HH.out.mono ?_; rintro e w' ⟨rfl, n, rfl⟩)
  go_ret
  exact ⟨rfl, ⟨rfl, rfl, rfl, Nat.le_refl _, fun _ _ => rfl⟩⟩
theorem enters_right1 : ∀ args w, (callFunc 34 args).run Tryd.prog w = .ok (.enter 34 args) w := enters_of Tryd.func34 (by kernel_rfl) rfl
def allRight (rs : List Row) : Bool := rs.all fun r => rightB r.zs
theorem allRight_iff (rs : List Row) : allRight rs = true ↔ ∀ d ∈ rs.map Row.zs, rightB d = true := by
  unfold allRight
  simp [List.all_eq_true]
theorem areRight_any (a : Option Addr) (c : Nat) (rs : List Row) (w : World) (hr : Cl.RowsIn w a rs) (hl : rs.length ≤ 9223372036854775807) :
    Calls Tryd.prog 18 #[.slice a rs.length c] w fun e w' => e = .returned (.bool (allRight rs)) ∧ Below w.heap.size w w' := by
  have hp : PredRows 34 #[] (fun r => !rightB r.zs) rs w := fun W hW r hm => right1_gives r W ((hr.each r hm).below hW) (hr.small r hm)
  have HC := Lib.hid (Cl.ContainsFunc_rows 34 #[] enters_right1 a c (fun r => !rightB r.zs) rs w hr.row hl hp)
  have e : allRight rs = !(rs.any fun r => !rightB r.zs) := by unfold allRight; rw [List.all_eq_not_any_not]
  rw [e]
  clear hr hp e
  generalize (rs.any fun r => !rightB r.zs) = x at *
  go_enter Tryd.func18, Tryd.ntmps18
  go_wp2_with (go_at_call 33; refine HC.out.mono ?_; rintro e w' ⟨rfl, hb'⟩)
  go_ret
  exact ⟨rfl, hb'⟩

/-! ### greatest, of no lines -/
theorem one_rows {w : World} {a : Option Addr} {c : Nat} {zs : List Int} (h : RowIn (Value.int .i64) w a zs) (hl : zs.length ≤ 9223372036854775807) : Cl.RowsIn (w.alloc (.cells #[.slice a zs.length c] 23)) (some ⟨w.heap.size, 0, none⟩) [⟨a, c, zs⟩] := by
  refine ⟨Or.inr ⟨w.heap.size, 0, rfl, by simp, fun j hj => ?_⟩, fun r hr => ?_, fun r hr => ?_⟩
  · have hj0 : j = 0 := by simp at hj; exact hj
    subst hj0
    rw [Lib.cell_of_heap (b := w.heap.size) (cs := #[.slice a zs.length c]) (T := 23) (fr := (0, 0)) (by unfold World.alloc; simp)]
    rfl
  · rw [List.mem_singleton.1 hr]; exact h.below ((Below.refl _ _).alloc (Nat.le_refl _) _)
  · rw [List.mem_singleton.1 hr]; exact hl
set_option maxHeartbeats 1000000 in
theorem greatest_none (a : Option Addr) (c : Nat) (rs : List Row) (ga : Option Addr) (gc : Nat) (zs : List Int) (w : World) (hr : Cl.RowsIn w a rs) (hl : rs.length ≤ 9223372036854775807) (hg : RowIn (Value.int .i64) w ga zs) (hgl : zs.length ≤ 9223372036854775807) :
    Calls Tryd.prog 21 #[.slice a rs.length c, .slice none 0 0, .slice ga zs.length gc] w fun e w' => (∃ V : Nat, e = .returned (.int .i64 (V : Int)) ∧ V ≤ 100000 ∧ greatest (rs.map Row.zs) ≤ (V : Int) ∧ greatest [zs] ≤ (V : Int)) ∧ Below w.heap.size w w' := by
  have HG1 := Lib.hid (Cl.Greatest_any a c rs w hr hl)
  have HG2 : Hid (∀ gc, Calls Tryd.prog 38 #[.slice (some ⟨w.heap.size, 0, none⟩) 1 1] (w.alloc (.cells #[.slice ga zs.length gc] 23)) fun e w' => e = .returned (.int .i64 (greatest [zs])) ∧ (w.alloc (.cells #[.slice ga zs.length gc] 23)) = w') := fun gc =>
    Cl.Greatest_any (some ⟨w.heap.size, 0, none⟩) 1 [⟨ga, gc, zs⟩] _ (one_rows hg hgl) (by simp)
  have b1 := Cl.greatest_bd (rs.map Row.zs)
  have b2 := Cl.greatest_bd [zs]
  clear hr hg
  generalize greatest (rs.map Row.zs) = x at *
  generalize greatest [zs] = y at *
  go_enter Tryd.func21, Tryd.ntmps21
  go_wp2_with fail
  refine HG1.out.mono ?_
  rintro e w1 ⟨rfl, rfl⟩
  go_wp2_with fail
  refine (HG2.out _).mono ?_
  rintro e w1 ⟨rfl, rfl⟩
  go_wp2_with fail
  have HB : Hid (Below w.heap.size w (w.alloc (.cells #[.slice ga zs.length gc] 23))) := (Below.refl _ _).alloc (Nat.le_refl _) _
  go_loopw [7, 18] (fun mv iv wr => mv = .int .i64 (max x y) ∧ iv = .int .i64 0 ∧ wr = (w.alloc (.cells #[.slice ga zs.length gc] 23)))  (fun _ _ _ => 0)
  case atStart =>
    exact ⟨rfl, rfl, rfl⟩
  case round =>
    obtain ⟨rfl, rfl, rfl⟩ := hrel
    have h00 : decide ((0 : Int) < (0 : Int)) = false := by decide
    go_wp2_with fail
    go_ret
    refine ⟨⟨(max x y).toNat, ?_, by omega, by omega, by omega⟩, HB.out⟩
    have e : (((max x y).toNat : Nat) : Int) = max x y := by omega
    rw [e]; rfl

/-! ### addAll -/
/-- Where addAll stands. -/
def AllI (w : World) (Y : Lay) (V : Nat) (cs : List (List Int)) (i : Nat) (wr : World) : Prop :=
  ∃ σ1 Y1, Mem wr Y1 σ1 none ∧ Base σ1 (fun _ => False) ∧ PlcOk σ1 ∧ Cnt σ1 (cs.take i) ∧ σ1.V = V ∧ σ1.N ≤ i ∧ σ1.stale = false ∧ Nxt sAny w Y wr Y1
/-- What addAll answers. -/
def AllE (w : World) (Y : Lay) (V : Nat) (cs : List (List Int)) (e : Ending) (w' : World) : Prop :=
  e = .returned (.tuple #[]) ∧ ∃ σ' Y', Mem w' Y' σ' none ∧ Base σ' (fun _ => False) ∧ PlcOk σ' ∧ Cnt σ' cs ∧ σ'.V = V ∧ σ'.N ≤ cs.length ∧ σ'.stale = false ∧ Nxt sAny w Y w' Y'
theorem cps_le {σ : St} {cs : List (List Int)} (hP : PlcOk σ) (hC : Cnt σ cs) {p : Nat} (hp : p < σ.N) : σ.cps p ≤ cs.length := by
  by_cases h0 : σ.cps p = 0
  · omega
  · have e := (hP (kt (σ.lits p)) p).2 ⟨hp, h0, rfl⟩
    have h := hC (kt (σ.lits p))
    unfold cntOf at h
    rw [e] at h
    have h2 : σ.cps p = _ := h
    rw [h2]
    exact List.countP_le_length
set_option maxHeartbeats 4000000 in
theorem addAll_any {w : World} {Y : Lay} {V : Nat} (h : Mem w Y (St.fresh V) none) (a : Option Addr) (c : Nat) (rs : List Row)
    (hk : ∀ w' Y', Nxt sAny w Y w' Y' → Cl.RowsIn w' a rs ∧ Tab w') (hl : rs.length ≤ 100000) (hz : ∀ r ∈ rs, r.zs.length ≤ 1000 ∧ rightB r.zs = true ∧ ∀ m ∈ r.zs, Lt V m) :
    Calls Tryd.prog 22 #[.pointer (some ⟨Y.s, 0, none⟩), .slice a rs.length c] w (AllE w Y V (rs.map Row.zs)) := by
  have START : Hid (AllI w Y V (rs.map Row.zs) 0 w) := ⟨_, Y, h, new_base V, new_plc V, new_cnt V, rfl, Nat.le_refl _, rfl, Nxt.refl _ _ _⟩
  have HK := Lib.hid hk
  have HZ := Lib.hid hz
  clear h hk hz
  go_enter Tryd.func22, Tryd.ntmps22
  go_wp2_with fail
  go_loopw [8] (fun iv wr => ∃ (i : Nat), iv = .int .i64 (i : Int) ∧ i ≤ rs.length ∧ Hid (AllI w Y V (rs.map Row.zs) i wr)) (fun iv _ => rs.length - (intOf iv).toNat)
  case atStart => exact ⟨0, rfl, Nat.zero_le _, START.out⟩
  case round =>
    obtain ⟨i, rfl, hil, HI⟩ := hrel
    by_cases hlt : i < rs.length
    · obtain ⟨σ1, Y1, h1, h2, h3, h4, h5, h6, h7, h8⟩ := HI.out
      have hro := (HK.out _ _ h8).1
      have ht := (HK.out _ _ h8).2
      obtain ⟨b, off, rfl, hb1, hb2⟩ := hro.row.resolve_left (fun e => by rw [e] at hlt; simp at hlt)
      have ci := hb2 i hlt
      have iz : (i : Int) < (rs.length : Int) := by omega
      have i0 : (0 : Int) ≤ (i : Int) := by omega
      have hrm : rs[i]! ∈ rs := Cl.getElem!_mem hlt
      have hri := hro.each _ hrm
      have hzi := HZ.out _ hrm
      obtain ⟨r, hr⟩ : ∃ r, r = rs[i]! := ⟨_, rfl⟩
      rw [← hr] at ci hri hzi
      have HAD : Hid (Calls Tryd.prog 39 #[.pointer (some ⟨Y.s, 0, none⟩), .slice r.a r.zs.length r.c] wr (AddE wr Y1 σ1 r.zs)) := by
        rw [← h8.s]
        exact add_any h1 h2 h3 ht r.a r.c r.zs hri hzi.1 hzi.2.1 (by rw [h5]; exact hzi.2.2) (by omega) (fun p hp => by
          have := cps_le h3 h4 hp
          rw [List.length_take] at this
          omega)
      unfold Row.val at ci
      have HL1 := Lib.hid (And.intro h4 (And.intro h5 (And.intro h6 (And.intro h7 (And.intro h8 hr)))))
      clear h1 h2 h3 h4 h5 h6 h7 h8 hro ht hb2 hri hzi HI hrm hr
      go_wp2_with fail
      refine HAD.out.mono ?_
      rintro e w2 ⟨rfl, σ2, Y2, q1, q2, q3, q4, q5, q6, q7, q8⟩
      have HN : Hid (AllI w Y V (rs.map Row.zs) (i + 1) w2) := by
        obtain ⟨h4, h5, h6, h7, h8, hr⟩ := HL1.out
        refine ⟨σ2, Y2, q1, q2, q3, ?_, by rw [q5, h5], by omega, by rw [q7, h7], h8.trans q8⟩
        have := q4 _ h4
        rw [hr] at this
        rw [Cl.take_succ! (by simpa using hlt), Cl.map_get! rs hlt]
        exact this
      clear q1 q2 q3 q4 q5 q6 q7 q8 HAD HL1
      go_wp2_with fail
      go_roundw
      case rel => exact ⟨i + 1, by go_num, by omega, HN.out⟩
      case measure => simp [intOf]; omega
    · have hile : ¬ ((i : Int) < (rs.length : Int)) := by omega
      have hie : i = rs.length := by omega
      go_wp2_with fail
      go_end0
      obtain ⟨σ1, Y1, h1, h2, h3, h4, h5, h6, h7, h8⟩ := HI.out
      refine ⟨rfl, σ1, Y1, h1, h2, h3, ?_, h5, by rw [List.length_map]; omega, h7, h8⟩
      rw [List.take_of_length_le (by simp; omega)] at h4
      exact h4

end Go.Proofs.YthpamogomfleoaaDoor.Rc
/- Contracts of rup.Follows, and of rup.Check without lines. -/
namespace Go.Proofs.YthpamogomfleoaaDoor.Rc
open Go Go.RowKit Go.Lib Go.Proofs.YthpamogomfleoaaDoor.Up
open Go.Proofs.YthpamogomfleoaaDoor.Cl (RowIn Row Tab nf rightB greatest FolE Fol negs)

/-- A checker that the call itself has made: what may turn lies behind the caller's memory. -/
theorem nxt_below {B : Nat} {w w' : World} {Y Y' : Lay} (h : Nxt sAny w Y w' Y') (hB : B ≤ w.heap.size) (ho : ∀ k, k < B → Y.ρ k = .old) : Below B w w' :=
  h.frm.belowOf hB fun k hk => by rw [ho k hk]; rfl

/-- What a checker of these clauses, and no others, is. -/
def Made (w0 : World) (cs : List (List Int)) (V : Nat) (s : Nat) (w : World) : Prop :=
  ∃ σ Y, Y.s = s ∧ Mem w Y σ none ∧ Base σ (fun _ => False) ∧ PlcOk σ ∧ Cnt σ cs ∧ σ.V = V ∧ σ.N ≤ cs.length ∧ σ.stale = false ∧ (∀ k, k < w0.heap.size → Y.ρ k = .old) ∧ Below w0.heap.size w0 w

/-- Behind addAll. -/
theorem made_of {w0 w1 w2 w3 : World} {cs : List (List Int)} {V : Nat} {Y : Lay} (h1 : Below w0.heap.size w0 w1) (hm : Mem w2 Y (St.fresh V) none) (ho : ∀ k, k < w1.heap.size → Y.ρ k = .old) (h2 : Below w1.heap.size w1 w2)
    {e : Ending} (h : AllE w2 Y V cs e w3) : Made w0 cs V Y.s w3 := by
  obtain ⟨_, σ, Y', q1, q2, q3, q4, q5, q6, q7, q8⟩ := h
  have hb2 : Below w0.heap.size w0 w2 := h1.trans (h2.mono h1.size)
  have hlt : ∀ k, k < w0.heap.size → k < w1.heap.size := fun k hk => Nat.lt_of_lt_of_le hk h1.size
  refine ⟨σ, Y', q8.s, q1, q2, q3, q4, q5, q6, q7, fun k hk => ?_, hb2.trans (nxt_below q8 hb2.size fun k hk => ho k (hlt k hk))⟩
  rw [q8.ext k (Nat.lt_of_lt_of_le hk hb2.size)]
  exact ho k (hlt k hk)

/-- follows, of such a checker. -/
theorem made_follows {w0 w : World} {cs : List (List Int)} {V s : Nat} (h : Made w0 cs V s w) (hcs : cs.length ≤ 100000) (a : Option Addr) (c : Nat) (zs : List Int) (hr : RowIn (Value.int .i64) w0 a zs) (hl : zs.length ≤ 1000) (hzr : rightB zs = true) (hL : ∀ m ∈ zs, Lt V m) :
    Calls Tryd.prog 23 #[.pointer (some ⟨s, 0, none⟩), .slice a zs.length c] w fun e w' => ∃ r : Bool, e = .returned (.bool r) ∧ (r = true ↔ Bad cs (negs zs)) ∧ Below w0.heap.size w0 w' := by
  obtain ⟨σ, Y, rfl, q1, q2, q3, q4, q5, q6, q7, q8, q9⟩ := h
  refine (follows_fresh (cs := cs) q1 q2 q7 (q4.cs q3) a c zs (hr.below q9) hl hzr (by rw [q5]; exact hL) (by omega)).mono ?_
  rintro e w' ⟨r, rfl, h1, σ', Y', _, _, _, h5⟩
  exact ⟨r, rfl, h1, q9.trans (nxt_below h5 q9.size q8)⟩

theorem rightB_lt {zs : List Int} (h : rightB zs = true) {V : Nat} (hV : greatest [zs] ≤ (V : Int)) : ∀ m ∈ zs, Lt V m := great_ge (List.mem_singleton.2 rfl) h hV

set_option maxHeartbeats 4000000 in
theorem Follows_any (rs : List Row) (b : Option Addr) (d : Nat) (zs : List Int) (w : World) (a : Option Addr) (c : Nat) (ht : Tab w) (hrs : Cl.RowsIn w a rs) (hrl : rs.length ≤ 100000) (hrz : ∀ r ∈ rs, r.zs.length ≤ 1000) (hr : RowIn (Value.int .i64) w b zs) (hzl : zs.length ≤ 1000) :
    Calls Tryd.prog 9 #[.slice a rs.length c, .slice b zs.length d] w (FolE w (rs.map Row.zs) zs) := by
  have HAR := Lib.hid (areRight_any a c rs w hrs (by omega))
  have HH := Lib.hid (And.intro ht (And.intro hrs (And.intro hrl (And.intro hrz (And.intro hr hzl)))))
  have HAI := Lib.hid (allRight_iff rs)
  clear ht hrs hrl hrz hr hzl
  generalize hall : allRight rs = ar at *
  clear hall
  cases ar with
  | false =>
    have HN : Hid (¬ Fol (rs.map Row.zs) zs) := fun h => Bool.false_ne_true (HAI.out.2 h.1)
    go_enter Tryd.func9, Tryd.ntmps9
    go_wp2_with fail
    refine HAR.out.mono ?_
    rintro e w1 ⟨rfl, hb1⟩
    go_wp2_with fail
    go_ret
    exact ⟨false, rfl, iff_of_false Bool.false_ne_true HN.out, hb1⟩
  | true =>
    have HRT : Hid (∀ W, Below w.heap.size w W → Calls Tryd.prog 19 #[.slice b zs.length d] W fun e w' => e = .returned (.bool (rightB zs)) ∧ ∃ n, w' = W.drewN n) := fun W hW => Cl.Right_any b d zs W (HH.out.2.2.2.2.1.below hW) (by have := HH.out.2.2.2.2.2; omega)
    have HZR : Hid (Fol (rs.map Row.zs) zs → rightB zs = true) := fun h => h.2.1
    have HZ2 : Hid (rightB zs = true → (Fol (rs.map Row.zs) zs ↔ Bad (rs.map Row.zs) (negs zs))) := fun h => ⟨fun q => q.2.2, fun q => ⟨HAI.out.1 rfl, h, q⟩⟩
    have HAI2 := Lib.hid (HAI.out.1 rfl)
    clear HAI
    generalize hzr : rightB zs = zr at *
    cases zr with
    | false =>
      clear hzr HZ2
      have HN : Hid (¬ Fol (rs.map Row.zs) zs) := fun h => Bool.false_ne_true (HZR.out h)
      go_enter Tryd.func9, Tryd.ntmps9
      go_wp2_with fail
      refine HAR.out.mono ?_
      rintro e w1 ⟨rfl, hb1⟩
      go_wp2_with fail
      refine (HRT.out _ hb1).mono ?_
      rintro e w2 ⟨rfl, n, rfl⟩
      go_wp2_with fail
      go_ret
      exact ⟨false, rfl, iff_of_false Bool.false_ne_true HN.out, hb1.trans ⟨rfl, rfl, rfl, Nat.le_refl _, fun _ _ => rfl⟩⟩
    | true =>
      have HZ := Lib.hid hzr
      have HZ3 := Lib.hid (HZ2.out rfl)
      clear HZ2 HZR
      clear hzr
      have HGR : Hid (∀ W, Below w.heap.size w W → Calls Tryd.prog 21 #[.slice a rs.length c, .slice none 0 0, .slice b zs.length d] W fun e w' => (∃ V : Nat, e = .returned (.int .i64 (V : Int)) ∧ V ≤ 100000 ∧ greatest (rs.map Row.zs) ≤ (V : Int) ∧ greatest [zs] ≤ (V : Int)) ∧ Below W.heap.size W w') := fun W hW => by
        have := HH.out.2.2.1
        have := HH.out.2.2.2.2.2
        exact greatest_none a c rs b d zs W (HH.out.2.1.below hW) (by omega) (HH.out.2.2.2.2.1.below hW) (by omega)
      go_enter Tryd.func9, Tryd.ntmps9
      go_wp2_with fail
      refine HAR.out.mono ?_
      rintro e w1 ⟨rfl, hb1⟩
      go_wp2_with fail
      refine (HRT.out _ hb1).mono ?_
      rintro e w2 ⟨rfl, n, rfl⟩
      have hb2 : Below w.heap.size w (w1.drewN n) := hb1.trans ⟨rfl, rfl, rfl, Nat.le_refl _, fun _ _ => rfl⟩
      generalize w1.drewN n = w2 at *
      go_wp2_with fail
      refine (HGR.out _ hb2).mono ?_
      rintro e w3 ⟨⟨V, rfl, hV, hV1, hV2⟩, hb3'⟩
      have HB3 : Hid (Below w.heap.size w w3) := hb2.trans (hb3'.mono hb2.size)
      have HVV := Lib.hid (And.intro hV (And.intro hV1 hV2))
      clear hb2 hb3' hV1 hV2 HGR HRT HAR hb1
      go_wp2_with fail
      refine (newChecker_any w3 V hV).mono ?_
      rintro e w4 ⟨Y, rfl, hm, ho, hb4⟩
      have HM4 := Lib.hid (And.intro hm (And.intro ho hb4))
      have HAL : Hid (Calls Tryd.prog 22 #[.pointer (some ⟨Y.s, 0, none⟩), .slice a rs.length c] w4 (AllE w4 Y V (rs.map Row.zs))) := by
        refine addAll_any hm a c rs (fun w' Y' hn => ?_) HH.out.2.2.1 (fun r hrm => ⟨HH.out.2.2.2.1 r hrm, HAI2.out _ (List.mem_map.2 ⟨r, hrm, rfl⟩), great_ge (List.mem_map.2 ⟨r, hrm, rfl⟩) (HAI2.out _ (List.mem_map.2 ⟨r, hrm, rfl⟩)) HVV.out.2.1⟩)
        have hb5 : Below w.heap.size w w4 := HB3.out.trans (hb4.mono HB3.out.size)
        have hb6 : Below w.heap.size w w' := hb5.trans (nxt_below hn hb5.size fun k hk => ho k (Nat.lt_of_lt_of_le hk HB3.out.size))
        exact ⟨HH.out.2.1.below hb6, HH.out.1.below hb6⟩
      clear hm ho hb4 hV
      obtain ⟨s, hs⟩ : ∃ s, s = Y.s := ⟨_, rfl⟩
      rw [← hs] at HAL ⊢
      have HS := Lib.hid hs
      clear hs
      go_wp2_with fail
      refine HAL.out.mono ?_
      intro e w5 hA
      have HMD : Hid (Made w (rs.map Row.zs) V s w5) := by rw [HS.out]; exact made_of HB3.out HM4.out.1 HM4.out.2.1 HM4.out.2.2 hA
      obtain ⟨rfl, _⟩ := hA
      clear HAL HM4
      have HFO := Lib.hid (made_follows HMD.out (by rw [List.length_map]; exact HH.out.2.2.1) b d zs HH.out.2.2.2.2.1 HH.out.2.2.2.2.2 HZ.out (rightB_lt HZ.out HVV.out.2.2))
      go_wp2_with fail
      refine HFO.out.mono ?_
      rintro e w6 ⟨r, rfl, h1, h2⟩
      go_wp2_with fail
      go_ret
      exact ⟨r, rfl, h1.trans HZ3.out.symm, h2⟩
end Go.Proofs.YthpamogomfleoaaDoor.Rc
/- Contract of rup.Check without lines. -/
namespace Go.Proofs.YthpamogomfleoaaDoor.Rc
open Go Go.RowKit Go.Lib Go.Proofs.YthpamogomfleoaaDoor.Up
open Go.Proofs.YthpamogomfleoaaDoor.Cl (RowIn Row Tab nf rightB greatest FolE Fol negs Chk ChkE sameB)

theorem bad_there {cs : List (List Int)} {d g : List Int} (hd : d ∈ cs) (hs : ∀ x, x ∈ d → x ∈ g) : Bad cs (negs g) :=
  bad_empty hd fun x hx => List.mem_map.2 ⟨x, hs x hx, rfl⟩

set_option maxHeartbeats 4000000 in
theorem Check_none (rs : List Row) (b : Option Addr) (d : Nat) (zs : List Int) (w : World) (a : Option Addr) (c : Nat) (ht : Tab w) (hrs : Cl.RowsIn w a rs) (hrl : rs.length ≤ 100000) (hrz : ∀ r ∈ rs, r.zs.length ≤ 1000) (hr : RowIn (Value.int .i64) w b zs) (hzl : zs.length ≤ 1000) :
    Calls Tryd.prog 17 #[.slice a rs.length c, .slice none 0 0, .slice b zs.length d] w (ChkE w (rs.map Row.zs) [] zs) := by
  have HAR := Lib.hid (areRight_any a c rs w hrs (by omega))
  have HH := Lib.hid (And.intro ht (And.intro hrs (And.intro hrl (And.intro hrz (And.intro hr hzl)))))
  have HAI := Lib.hid (allRight_iff rs)
  clear ht hrs hrl hrz hr hzl
  generalize hall : allRight rs = ar at *
  clear hall
  cases ar with
  | false =>
    have HN : Hid (Chk (rs.map Row.zs) [] zs (-1)) := by
      refine Or.inl ⟨rfl, Or.inl ?_⟩
      obtain ⟨r, hr1, hr2⟩ : ∃ d ∈ rs.map Row.zs, ¬ rightB d = true := by
        refine Classical.byContradiction fun h => Bool.false_ne_true (HAI.out.2 fun d hd => Classical.byContradiction fun q => h ⟨d, hd, q⟩)
      exact ⟨r, hr1, by simpa using hr2⟩
    go_enter Tryd.func17, Tryd.ntmps17
    go_wp2_with fail
    refine HAR.out.mono ?_
    rintro e w1 ⟨rfl, hb1⟩
    go_wp2_with fail
    go_ret
    exact ⟨-1, rfl, HN.out, hb1⟩
  | true =>
    have HRT : Hid (∀ W, Below w.heap.size w W → Calls Tryd.prog 19 #[.slice b zs.length d] W fun e w' => e = .returned (.bool (rightB zs)) ∧ ∃ n, w' = W.drewN n) := fun W hW => Cl.Right_any b d zs W (HH.out.2.2.2.2.1.below hW) (by have := HH.out.2.2.2.2.2; omega)
    have HZR : Hid (rightB zs = false → Chk (rs.map Row.zs) [] zs (-1)) := fun h => Or.inl ⟨rfl, Or.inr h⟩
    have HZ2 : Hid (rightB zs = true → ∀ r : Bool, (r = true ↔ Bad (rs.map Row.zs) (negs zs)) → Chk (rs.map Row.zs) [] zs (if r = true then 0 else 1)) := fun h r hr => by
      refine Or.inr ⟨⟨HAI.out.1 rfl, h⟩, Or.inr ⟨_, .nil, ?_⟩⟩
      by_cases q : r = true
      · rw [if_pos q]; exact Or.inl ⟨rfl, Or.inr ⟨HAI.out.1 rfl, h, hr.1 q⟩⟩
      · rw [if_neg q]
        refine Or.inr ⟨rfl, fun z => q (hr.2 ?_)⟩
        rcases z with ⟨d, hd, hs⟩ | z
        · exact bad_there hd fun x hx => (Cl.sameB_mem (HAI.out.1 rfl d hd) h hs x).1 hx
        · exact z.2.2
    have HAI2 := Lib.hid (HAI.out.1 rfl)
    clear HAI
    generalize hzr : rightB zs = zr at *
    cases zr with
    | false =>
      clear hzr HZ2
      have HN := Lib.hid (HZR.out rfl)
      clear HZR
      go_enter Tryd.func17, Tryd.ntmps17
      go_wp2_with fail
      refine HAR.out.mono ?_
      rintro e w1 ⟨rfl, hb1⟩
      go_wp2_with fail
      refine (HRT.out _ hb1).mono ?_
      rintro e w2 ⟨rfl, n, rfl⟩
      go_wp2_with fail
      go_ret
      exact ⟨-1, rfl, HN.out, hb1.trans ⟨rfl, rfl, rfl, Nat.le_refl _, fun _ _ => rfl⟩⟩
    | true =>
      have HZ := Lib.hid hzr
      have HZ3 := Lib.hid (HZ2.out rfl)
      clear HZ2 HZR
      clear hzr
      have HGR : Hid (∀ W, Below w.heap.size w W → Calls Tryd.prog 21 #[.slice a rs.length c, .slice none 0 0, .slice b zs.length d] W fun e w' => (∃ V : Nat, e = .returned (.int .i64 (V : Int)) ∧ V ≤ 100000 ∧ greatest (rs.map Row.zs) ≤ (V : Int) ∧ greatest [zs] ≤ (V : Int)) ∧ Below W.heap.size W w') := fun W hW => by
        have := HH.out.2.2.1
        have := HH.out.2.2.2.2.2
        exact greatest_none a c rs b d zs W (HH.out.2.1.below hW) (by omega) (HH.out.2.2.2.2.1.below hW) (by omega)
      go_enter Tryd.func17, Tryd.ntmps17
      go_wp2_with fail
      refine HAR.out.mono ?_
      rintro e w1 ⟨rfl, hb1⟩
      go_wp2_with fail
      refine (HRT.out _ hb1).mono ?_
      rintro e w2 ⟨rfl, n, rfl⟩
      have hb2 : Below w.heap.size w (w1.drewN n) := hb1.trans ⟨rfl, rfl, rfl, Nat.le_refl _, fun _ _ => rfl⟩
      generalize w1.drewN n = w2 at *
      go_wp2_with fail
      refine (HGR.out _ hb2).mono ?_
      rintro e w3 ⟨⟨V, rfl, hV, hV1, hV2⟩, hb3'⟩
      have HB3 : Hid (Below w.heap.size w w3) := hb2.trans (hb3'.mono hb2.size)
      have HVV := Lib.hid (And.intro hV (And.intro hV1 hV2))
      clear hb2 hb3' hV1 hV2 HGR HRT HAR hb1
      go_wp2_with fail
      refine (newChecker_any w3 V hV).mono ?_
      rintro e w4 ⟨Y, rfl, hm, ho, hb4⟩
      have HM4 := Lib.hid (And.intro hm (And.intro ho hb4))
      have HAL : Hid (Calls Tryd.prog 22 #[.pointer (some ⟨Y.s, 0, none⟩), .slice a rs.length c] w4 (AllE w4 Y V (rs.map Row.zs))) := by
        refine addAll_any hm a c rs (fun w' Y' hn => ?_) HH.out.2.2.1 (fun r hrm => ⟨HH.out.2.2.2.1 r hrm, HAI2.out _ (List.mem_map.2 ⟨r, hrm, rfl⟩), great_ge (List.mem_map.2 ⟨r, hrm, rfl⟩) (HAI2.out _ (List.mem_map.2 ⟨r, hrm, rfl⟩)) HVV.out.2.1⟩)
        have hb5 : Below w.heap.size w w4 := HB3.out.trans (hb4.mono HB3.out.size)
        have hb6 : Below w.heap.size w w' := hb5.trans (nxt_below hn hb5.size fun k hk => ho k (Nat.lt_of_lt_of_le hk HB3.out.size))
        exact ⟨HH.out.2.1.below hb6, HH.out.1.below hb6⟩
      clear hm ho hb4 hV
      obtain ⟨s, hs⟩ : ∃ s, s = Y.s := ⟨_, rfl⟩
      rw [← hs] at HAL ⊢
      have HS := Lib.hid hs
      clear hs
      go_wp2_with fail
      refine HAL.out.mono ?_
      intro e w5 hA
      have HMD : Hid (Made w (rs.map Row.zs) V s w5) := by rw [HS.out]; exact made_of HB3.out HM4.out.1 HM4.out.2.1 HM4.out.2.2 hA
      obtain ⟨rfl, _⟩ := hA
      clear HAL HM4
      have h00 : decide ((0 : Int) < (0 : Int)) = false := by decide
      go_wp2_with fail
      go_loopw [28] (fun iv wr => iv = .int .i64 0 ∧ wr = w5) (fun _ _ => 0)
      case atStart => exact ⟨rfl, rfl⟩
      case round =>
      obtain ⟨rfl, rfl⟩ := hrel
      have HFO := Lib.hid (made_follows HMD.out (by rw [List.length_map]; exact HH.out.2.2.1) b d zs HH.out.2.2.2.2.1 HH.out.2.2.2.2.2 HZ.out (rightB_lt HZ.out HVV.out.2.2))
      go_wp2_with fail
      refine HFO.out.mono ?_
      rintro e w6 ⟨r, rfl, h1, h2⟩
      have HC := Lib.hid (HZ3.out r h1)
      clear HZ3 HFO
      cases r with
      | true =>
        go_wp2_with fail
        go_ret
        exact ⟨0, rfl, HC.out, h2⟩
      | false =>
        go_wp2_with fail
        go_ret
        exact ⟨1, rfl, HC.out, h2⟩
end Go.Proofs.YthpamogomfleoaaDoor.Rc
