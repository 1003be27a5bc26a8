/-
  The statements' own examples: they come out true, and write nothing that was there.
-/
import Derived.Test.YtjhnabhieihifaaDoorCrcLaw
import Derived.Lib.SlBytesConst
namespace Go.Proofs.YtjhnabhieihifaaDoor
open Go.RowKit
set_option maxRecDepth 100000
set_option linter.unusedVariables false

theorem sum_nine : sumN [49, 50, 51, 52, 53, 54, 55, 56, 57] = 3808858755 := by decide +kernel
theorem sum_none : sumN [] = 0 := rfl
theorem half_one : stepN 4 1 = 274646895 := by decide +kernel
theorem held_noughts : heldB (List.replicate 128 0) = false := by decide +kernel
theorem Sum_none (w : World) (ht : Tab w) : Calls Tryd.prog 40 #[.slice none 0 0] w fun e w' => e = .returned (.int .u32 0) ∧ w = w' := by
  have h := Sum_any 0 none 0 [] w ⟨Rd.nil_, by simp⟩ (by simp) ht
  rw [show allB [] = [] from rfl, sum_none] at h
  exact h
def cells128 : Array Value := (zeroV 128).toArray
theorem make128 (w : World) : (Instr.makeSlice 28 (.int .i64 128) (.int .i64 128)).run Tryd.prog w = .ok (.slice (some ⟨w.heap.size, 0, none⟩) 128 128) (w.alloc (.cells cells128 5)) := by kernel_rfl
end Go.Proofs.YtjhnabhieihifaaDoor
