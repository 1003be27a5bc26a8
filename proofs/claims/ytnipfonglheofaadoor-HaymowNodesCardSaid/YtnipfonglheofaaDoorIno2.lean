/-
  What inode.May does. (Printed by wip/tools/ino2.py.)
-/
import Derived.Test.YtnipfonglheofaaDoorIno1
namespace Go.Proofs.YtnipfonglheofaaDoor
open Go.RowKit
set_option linter.unusedVariables false

theorem all_false_of {x : Ino} (h : headIOk x = false) : inoOk x = false := inoOk_head h
end Go.Proofs.YtnipfonglheofaaDoor
