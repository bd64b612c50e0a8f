/- The argument [2]uint8 out of the form. -/
import Derived.Test.YtnkcdgpaphphaaaBtOpen
namespace Go.Proofs.Ytnkcdgpaphphaaa.Gr
open Go Go.RowKit Go.Lib Go.ChangeShapes Go.WideShapes Go.ChangeAt Go.Deep

theorem laidOutB' : laidOutB Try.prog = true := by kernel_rfl
theorem cellsTwo : Try.prog.cellsOf 48 = 2 := by kernel_rfl
theorem cellsB8 : Try.prog.cellsOf 5 = 1 := by kernel_rfl
theorem okWide_arr' {P : Program} {w : World} {r : Reach} {base : Nat} {t e : TypeId} {n : Nat} {v : Value} (ht : P.underlying t = some (.array n e)) (h : Value.okWide P w r base t v) : ∃ cs, v = .agg cs ∧ cs.size = P.cellsOf t := by
  simp only [Value.okWide, ht] at h
  obtain ⟨cs, h1, h2, _⟩ := h
  exact ⟨cs, h1, h2⟩
theorem open_two8 {H : Type} {enc : TypeId × Value → H} {W : World} {spare : Nat → Bool} {base : Nat} {held : Bool} {fuel : Nat} {cs : List Value} {x : DataW H × List MemPlace} (h : DataW.trod enc Try.prog W base spare held fuel 48 cs = some x) :
    ∃ a b : Int, cs = [.int .u8 a, .int .u8 b] ∧ (0 ≤ a ∧ a < 256) ∧ (0 ≤ b ∧ b < 256) := by
  obtain ⟨xs, m, _, _, hl, hlen, hf⟩ := DataW.trod_array Try.underlying48 h
  rw [cellsTwo] at hl
  match xs, hlen, cs, hl with
  | [y0, y1], _, [c0, c1], _ =>
    have g0 := hf 0 (by omega)
    have g1 := hf 1 (by omega)
    simp [cellsB8] at g0 g1
    obtain ⟨k, hk, _, wk⟩ := DataW.trod_int Try.underlying5 g0
    obtain ⟨j, hj, _, wj⟩ := DataW.trod_int Try.underlying5 g1
    simp at hk hj
    subst hk hj
    exact ⟨k, j, rfl, wfb_u8 wk, wfb_u8 wj⟩
end Go.Proofs.Ytnkcdgpaphphaaa.Gr
