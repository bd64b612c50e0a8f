/- The laws ClauseAll and ClauseBeyond as contracts: true for whatever slices. -/
import Derived.Test.YthpamogomfleoaaDoorClK
namespace Go.Proofs.YthpamogomfleoaaDoor.Cl
open Go Go.RowKit Go.Lib Go.Sort

theorem allB_snoc (cs : List (List Int)) (c : List Int) (m : List Bool) : allB (cs ++ [c]) m = (allB cs m && holdsB c m) := by simp [allB]

end Go.Proofs.YthpamogomfleoaaDoor.Cl
