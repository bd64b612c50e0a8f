/- The contract of clause.header. -/
import Derived.Test.YtiimdehcfkoemaaDoorClU
namespace Go.Proofs.YtiimdehcfkoemaaDoor.Cl
open Go Go.RowKit Go.Lib Go.Sort

def valN (l : List UInt8) : Nat := if numOk l then numV l else 0
def headR (ws : List (List UInt8)) : Nat × Nat × Bool :=
  match ws with
  | p :: c :: v :: n :: _ => if p = [112] ∧ c = [99, 110, 102] then (valN v, valN n, numOk v && numOk n) else (0, 0, false)
  | _ => (0, 0, false)
def Headed (L : List (List UInt8)) (w : World) (e : Ending) (w' : World) : Prop :=
  e = .returned (.tuple #[.int .i64 (headR L).1, .int .i64 (headR L).2.1, .bool (headR L).2.2]) ∧ Below w.heap.size w w'
theorem number_val (s : ByteArray) (w : World) (hs : s.size ≤ 9223372036854775807) :
    Calls Tryd.prog 66 #[.string s] w fun e w' => e = .returned (.tuple #[.int .i64 (valN s.data.toList : Int), .bool (numOk s.data.toList)]) ∧ Below w.heap.size w w' :=
  (number_any s w hs).mono fun e w' ⟨h1, h2⟩ => ⟨by rw [h1]; unfold valN; split <;> rfl, h2⟩

set_option maxHeartbeats 2000000 in
theorem header_any (a : Option Addr) (c : Nat) (ws : List ByteArray) (w : World) (hr : RowIn Value.string w a ws) (hl : ws.length ≤ 9223372036854775807) (hs : ∀ s ∈ ws, s.size ≤ 9223372036854775807) :
    Calls Tryd.prog 50 #[.slice a ws.length c] w (Headed (ws.map (·.data.toList)) w) := by
  by_cases h4 : ws.length < 4
  · have hz : (ws.length : Int) < 4 := by omega
    have HE : Hid (headR (ws.map (·.data.toList)) = (0, 0, false)) := by
      show _ = _
      match ws, h4 with
      | [], _ => rfl
      | [_], _ => rfl
      | [_, _], _ => rfl
      | [_, _, _], _ => rfl
    clear h4 hr
    go_enter Tryd.func50, Tryd.ntmps50
    go_wp2
    go_ret3
    exact ⟨by rw [HE.out]; rfl, Below.refl _ _⟩
  · obtain ⟨x0, x1, x2, x3, rest, rfl⟩ : ∃ x0 x1 x2 x3 rest, ws = x0 :: x1 :: x2 :: x3 :: rest := by
      match ws, h4 with
      | x0 :: x1 :: x2 :: x3 :: rest, _ => exact ⟨x0, x1, x2, x3, rest, rfl⟩
      | [], h => exact absurd (by simp) h
      | [_], h => exact absurd (by simp) h
      | [_, _], h => exact absurd (by simp) h
      | [_, _, _], h => exact absurd (by simp) h
    obtain ⟨b, off, rfl, hb, hc⟩ := hr.pos (j := 0) (by simp)
    have c0 := hc 0 (by simp)
    have c1 := hc 1 (by simp)
    have c2 := hc 2 (by simp)
    have c3 := hc 3 (by simp)
    have s2 := hs x2 (by simp)
    have s3 := hs x3 (by simp)
    simp only [Nat.add_zero] at c0
    replace c0 : w.cell? ⟨b, off, none⟩ = some (.string x0) := c0
    replace c1 : w.cell? ⟨b, off + 1, none⟩ = some (.string x1) := c1
    replace c2 : w.cell? ⟨b, off + 2, none⟩ = some (.string x2) := c2
    replace c3 : w.cell? ⟨b, off + 3, none⟩ = some (.string x3) := c3
    have hn2 := number_val x2 w s2
    generalize hln : (x0 :: x1 :: x2 :: x3 :: rest).length = n at *
    have hz : ¬ (n : Int) < 4 := by omega
    have hz1 : (4 : Int) ≤ (n : Int) := by omega
    have hzd : decide ((n : Int) < 4) = false := by rw [decide_eq_false_iff_not]; exact hz
    have t0 : x0.toList = x0.data.toList := toList_data x0
    have t1 : x1.toList = x1.data.toList := toList_data x1
    have HD : Hid (headR ((x0 :: x1 :: x2 :: x3 :: rest).map (·.data.toList)) = if x0.data.toList = [112] ∧ x1.data.toList = [99, 110, 102] then (valN x2.data.toList, valN x3.data.toList, numOk x2.data.toList && numOk x3.data.toList) else (0, 0, false)) := rfl
    generalize (x0 :: x1 :: x2 :: x3 :: rest).map (·.data.toList) = L at *
    have HN2 := Lib.hid hn2
    have HN3 : Hid (∀ w2, Calls Tryd.prog 66 #[.string x3] w2 fun e w' => e = .returned (.tuple #[.int .i64 (valN x3.data.toList : Int), .bool (numOk x3.data.toList)]) ∧ Below w2.heap.size w2 w') := fun w2 => number_val x3 w2 s3
    clear hc hr hs hln h4 s2 s3 hn2
    by_cases e0 : x0.data.toList = [112]
    · by_cases e1 : x1.data.toList = [99, 110, 102]
      · have HE : Hid (headR L = (valN x2.data.toList, valN x3.data.toList, numOk x2.data.toList && numOk x3.data.toList)) := by show _ = _; rw [HD.out, if_pos ⟨e0, e1⟩]
        have h0 : x0.toList = [112] := t0.trans e0
        have h1 : (!x1.toList == [99, 110, 102]) = false := by rw [t1, e1]; rfl
        have HT := Lib.hid h0
        clear t0 t1 e0 e1 HD
        generalize valN x2.data.toList = v2 at *
        generalize numOk x2.data.toList = o2 at *
        generalize valN x3.data.toList = v3 at *
        generalize numOk x3.data.toList = o3 at *
        go_enter Tryd.func50, Tryd.ntmps50
        go_wp2_with fail
        refine HN2.out.mono ?_
        rintro e w1 ⟨rfl, hb1⟩
        have d3 : w1.cell? ⟨b, off + 3, none⟩ = some (.string x3) := (hb1.cell (p := ⟨b, off + 3, none⟩) hb).trans c3
        go_wp2_with fail
        refine (HN3.out w1).mono ?_
        rintro e w2 ⟨rfl, hb2⟩
        have hB2 := hb1.trans (hb2.mono hb1.size)
        cases o2 with
        | true =>
          go_wp2_with fail
          go_ret3
          refine ⟨?_, hB2⟩
          rw [HE.out]; rfl
        | false =>
          go_wp2_with fail
          go_ret3
          refine ⟨?_, hB2⟩
          rw [HE.out]; rfl
      · have HE : Hid (headR L = (0, 0, false)) := by show _ = _; rw [HD.out, if_neg (fun h => e1 h.2)]
        have h0 : x0.toList = [112] := t0.trans e0
        have h1 : (!x1.toList == [99, 110, 102]) = true := by rw [t1]; simpa using e1
        clear t0 t1 e0 e1 HD
        go_enter Tryd.func50, Tryd.ntmps50
        go_wp2_with fail
        go_ret3
        exact ⟨by rw [HE.out]; rfl, Below.refl _ _⟩
    · have HE : Hid (headR L = (0, 0, false)) := by show _ = _; rw [HD.out, if_neg (fun h => e0 h.1)]
      have h0 : ¬ x0.toList = [112] := by rw [t0]; exact e0
      clear t0 t1 e0 HD
      go_enter Tryd.func50, Tryd.ntmps50
      go_wp2_with fail
      go_ret3
      exact ⟨by rw [HE.out]; rfl, Below.refl _ _⟩
end Go.Proofs.YtiimdehcfkoemaaDoor.Cl
