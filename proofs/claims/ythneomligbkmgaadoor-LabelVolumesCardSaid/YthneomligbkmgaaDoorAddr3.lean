/-
  What Segment, First, Tier and Of of package addr do, one contract each.
-/
import Derived.Test.YthneomligbkmgaaDoorAddr2
namespace Go.Proofs.YthneomligbkmgaaDoor
open Go.RowKit
set_option linter.unusedVariables false

/-- the tier of an address -/
def tierI (D L V S a : Int) : Int := if inB 1 (16 * segsN D V S) a then (if (a - 1) / 16 < D - L then 0 else if (a - 1) / 16 < D then 1 else 2) else -1
end Go.Proofs.YthneomligbkmgaaDoor
