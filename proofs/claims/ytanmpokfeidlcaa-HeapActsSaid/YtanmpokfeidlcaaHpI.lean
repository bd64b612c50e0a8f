/- awake: the document's example holds. -/
import Derived.Test.YtanmpokfeidlcaaHpH
namespace Go.Proofs.Ytanmpokfeidlcaa.Hp
open Go Go.RowKit Go.Lib

theorem isNext3 {A : Nat → Int} {In : Nat → Bool} {v : Nat} (h1 : 1 ≤ v) (h3 : v ≤ 3) (hv : In v = true) (h : ∀ u, u ∈ [1, 2, 3] → In u = true → u ≠ v → bef A v u = true) : IsNext 3 A In v := by
  refine ⟨h1, h3, hv, fun u u1 u2 u3 u4 => h u ?_ u3 u4⟩
  have : u = 1 ∨ u = 2 ∨ u = 3 := by omega
  rcases this with e | e | e <;> subst e <;> simp

def exA : Nat → Int := upd (fun _ => 0) 2 (bump 0 5)
def ex0 : Nat → Bool := fun _ => true
def ex1 : Nat → Bool := upd ex0 2 false
def ex2 : Nat → Bool := upd ex1 1 false
theorem exNext0 : IsNext 3 exA ex0 2 := isNext3 (by decide) (by decide) rfl (by decide +kernel)
theorem exNext1 : IsNext 3 exA ex1 1 := isNext3 (by decide) (by decide) rfl (by decide +kernel)
theorem exNext2 : IsNext 3 exA ex2 3 := isNext3 (by decide) (by decide) rfl (by decide +kernel)

/-- Next where it is known which one is next. -/
theorem Next_is {w : World} {L : Loc} {n : Nat} {In : Nat → Bool} {A : Nat → Int} (h : IsHeap w L n In A) {v : Nat} (hv : IsNext n A In v) :
    Calls Try.prog 13 #[.pointer (some ⟨L.h, 0, none⟩)] w fun r w' => r = .returned (.tuple #[.int .i64 (v : Int), .bool true]) ∧ IsHeap w' L n (upd In v false) A ∧ Only L.all w w' := by
  refine (Next_heap h).mono ?_
  rintro r w' ⟨u, b, rfl, ho, ⟨rfl, h1, h2⟩ | ⟨rfl, rfl, h1, _⟩⟩
  · obtain rfl := h1.unique hv
    exact ⟨rfl, h2, ho⟩
  · have := none_of_cnt h1 v hv.pos hv.le
    rw [hv.here] at this
    cases this

set_option maxHeartbeats 4000000 in
theorem awake_any (w : World) :
    Calls Try.prog 8 #[] w fun e w' => e = .returned (.bool true) ∧ Below w.heap.size w w' := by
  have HN : Hid (Calls Try.prog 9 #[.int .i64 3] w fun e w' => ∃ L : Loc, e = .returned (.tuple #[.pointer (some ⟨L.h, 0, none⟩), .int .i64 0]) ∧ IsHeap w' L 3 (fun _ => true) (fun _ => 0) ∧ Below w.heap.size w w' ∧ ∀ b ∈ L.all, w.heap.size ≤ b) := New_ok 3 w (by omega)
  go_enter Try.func8, Try.ntmps8
  go_wp2_with fail
  refine HN.out.mono ?_
  rintro e w1 ⟨L, rfl, h1, b1, l1⟩
  have HB : Hid (Calls Try.prog 15 #[.pointer (some ⟨L.h, 0, none⟩), .int .i64 2, .int .i64 5] w1 fun e w' => e = .returned (.bool true) ∧ IsHeap w' L 3 ex0 exA ∧ Only L.all w1 w') := Bump_heap h1 2 5 (by decide)
  have HW1 := Lib.hid (And.intro b1 l1)
  clear h1 b1 l1 HN
  go_wp2_with fail
  refine HB.out.mono ?_
  rintro e w2 ⟨rfl, h2, o2⟩
  have H2 := Lib.hid (Next_is h2 exNext0)
  have O2 := Lib.hid o2
  clear h2 o2 HB
  go_wp2_with fail
  refine H2.out.mono ?_
  rintro e w3 ⟨rfl, h3, o3⟩
  have H3 := Lib.hid (Next_is h3 exNext1)
  have O3 := Lib.hid o3
  clear h3 o3 H2
  go_wp2_with fail
  refine H3.out.mono ?_
  rintro e w4 ⟨rfl, h4, o4⟩
  have H4 := Lib.hid (Next_is h4 exNext2)
  have O4 := Lib.hid o4
  clear h4 o4 H3
  go_wp2_with fail
  refine H4.out.mono ?_
  rintro e w5 ⟨rfl, h5, o5⟩
  have h6 := Len_heap h5
  rw [show cnt 3 (upd (upd (upd ex0 2 false) 1 false) 3 false) = 0 by decide +kernel] at h6
  have H6 := Lib.hid h6
  have O5 := Lib.hid o5
  clear h5 o5 H4 h6
  go_wp2_with fail
  refine H6.out.mono ?_
  rintro e w6 ⟨rfl, rfl⟩
  go_wp2_with fail
  go_ret
  exact ⟨rfl, HW1.out.1.trans ((((O2.out.trans O3.out).trans O4.out).trans O5.out).below HW1.out.1.size HW1.out.2)⟩
end Go.Proofs.Ytanmpokfeidlcaa.Hp
