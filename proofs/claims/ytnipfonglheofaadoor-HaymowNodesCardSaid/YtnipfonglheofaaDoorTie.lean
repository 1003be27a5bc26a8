/-
  DERIVED. GIVEN WITH THE SEED: THE PROGRAM's TIES (one call each: nine closed facts by the kernel) AND EACH ROW's TIE, after the 31st guide's Derived/Test/Toyas{Tie, Card}.lean. No idea stands in it: it is a product of the set-up. Laid BY PROGRAM, IN A SANDBOX (cutbox-door.mjs). By AI agents, Wed Nov 11 2026. No macro, syntax, notation, axiom, sorry.
-/
import Derived.Test.YtnipfonglheofaaDoorRows
import Derived.LaidByTextLater
import Derived.SevenTiedAt
import Derived.LaidSub
import Derived.LaidOnce
namespace Go.Proofs.YtnipfonglheofaaDoor
open Go
set_option maxRecDepth 100000
theorem seatTie1 : Tryd.prog.laidByTextLater [("haymow/crc.halves", Rows.laid_haymow_crc_halves), ("haymow/reach.reached", Rows.laid_haymow_reach_reached), ("haymow/reach.groups", Rows.laid_haymow_reach_groups)] [.data, .data, .data] true :=
  Program.laidByTextLater_by_one 30 8 17 (by kernel_rfl) (by kernel_rfl) (by kernel_rfl) (by kernel_rfl) (by kernel_rfl) (by kernel_rfl) (fun _ _ => by kernel_rfl)
theorem noOwnUnsafe : Tryd.pinned.checked.prog.headLifts.contains "ownunsafe" = false := by kernel_rfl
theorem tie : Tryd.prog.laidByTextLater [("haymow/crc.halves", Rows.laid_haymow_crc_halves), ("haymow/reach.reached", Rows.laid_haymow_reach_reached), ("haymow/reach.groups", Rows.laid_haymow_reach_groups)] [.data, .data, .data] true :=
  Program.laidByTextLater.sub seatTie1 ["haymow/crc.halves", "haymow/reach.reached", "haymow/reach.groups"] (by kernel_rfl) (by kernel_rfl)
theorem haymowNodes_row_tie : Rows.haymowNodesRow.laidByTextAt .later Tryd.pinned [.data, .data, .data] true :=
  OpenClaim.laidByTextAt_later rfl rfl tie noOwnUnsafe
theorem haymowNodesUpto_row_tie : Rows.haymowNodesUptoRow.laidByTextAt .later Tryd.pinned [.data, .data, .data] true :=
  OpenClaim.laidByTextAt_later rfl rfl tie noOwnUnsafe
end Go.Proofs.YtnipfonglheofaaDoor
