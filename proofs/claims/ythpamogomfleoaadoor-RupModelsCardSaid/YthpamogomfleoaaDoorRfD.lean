/- The contract of the document's own same (weirgateref03.same): two clauses with one normal form. -/
import Derived.Test.YthpamogomfleoaaDoorRfC
import Derived.Test.YthpamogomfleoaaDoorClQ
namespace Go.Proofs.YthpamogomfleoaaDoor.Cl
open Go Go.RowKit Go.Lib Go.Sort Go.Proofs.YthpamogomfleoaaDoor.Up

def sameB (x y : List Int) : Bool := decide (normL x = normL y)
theorem sameB_mem {x y : List Int} (hx : rightB x = true) (hy : rightB y = true) (h : sameB x y = true) : ∀ z, z ∈ x ↔ z ∈ y := by
  unfold sameB at h
  rw [decide_eq_true_eq, normL_yes hx, normL_yes hy] at h
  intro z
  rw [← mem_nf z x, h, mem_nf]
theorem sameB_of {x y : List Int} (hx : rightB x = true) (hy : rightB y = true) (h : ∀ z, z ∈ x ↔ z ∈ y) : sameB x y = true := by
  unfold sameB
  rw [decide_eq_true_eq, normL_yes hx, normL_yes hy]
  exact (isNf_nf x).unique swo_cf ⟨(isNf_nf y).1, fun z => ((isNf_nf y).2 z).trans (h z).symm⟩
theorem sameB_self (x : List Int) : sameB x x = true := by simp [sameB]

end Go.Proofs.YthpamogomfleoaaDoor.Cl
