/-
  The condition on the two tables of package reach; the door's own heap meets it.
-/
import Derived.Test.YtipeeidkfhddcaaDoorRchTab
namespace Go.Proofs.YtipeeidkfhddcaaDoor
open Go.ChangeShapes Go.WideShapes Go.ChangeAt Go.WideMaps Go.WideElems Go.RowKit
set_option linter.unusedVariables false
/-- the rows' list of variables -/
abbrev laidReach : List (String × DataW Unit) := [("haymow/reach.reached", Rows.laid_haymow_reach_reached), ("haymow/reach.groups", Rows.laid_haymow_reach_groups)]
theorem rtab_of_laid {W : World} (h : laidMetH Tryd.prog laidReach W) : RTab W := by
  rw [MakeChecks.laidMetH_plain _ _ _ (by kernel_rfl)] at h
  exact rtab_of_reads (Lib.laidMet.reads h (.head _)) (Lib.laidMet.reads h (.tail _ (.head _)))
theorem reach_met (os : Os) (args : Array Value) : laidMetH Tryd.prog laidReach ((World.doorLaid Tryd.prog 400 os).forCall (fun _ _ => 0) ⟨#[], args, []⟩).memory :=
  laidMetH_of_parts3 (fuel := 8) (laidMet_of_run' 8 (by kernel_rfl) (by kernel_rfl)) (by kernel_rfl) (by kernel_rfl)
end Go.Proofs.YtipeeidkfhddcaaDoor
