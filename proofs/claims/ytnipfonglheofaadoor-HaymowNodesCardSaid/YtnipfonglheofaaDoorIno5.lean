/-
  What inode.Decode does. (Printed by wip/tools/ino5.py.)
-/
import Derived.Test.YtnipfonglheofaaDoorIno4
namespace Go.Proofs.YtnipfonglheofaaDoor
open Go.RowKit
set_option maxRecDepth 100000
set_option linter.unusedVariables false

section
variable {o : Oper} {a : Act} {w : World} {K : Act → World → Prop} {Q : Exit → Act → World → Prop}
end
theorem zeros18 : #[.int .i64 0, .int .u32 0, .int .i64 0, .int .u32 0, .int .i64 0, .int .u32 0, .int .i64 0, .int .u32 0, .int .i64 0, .int .u32 0, .int .i64 0, .int .u32 0, .int .i64 0, .int .u32 0, .int .i64 0, .int .u32 0, .int .i64 0, .int .u32 0] = prsC (List.replicate 9 ⟨0, 0⟩) := rfl

def slotD10 (i : Nat) : Nat := 31 + i
def waitD10 : Nat → List Nat
  | 3 => [2]
  | 4 => [1, 3]
  | 5 => [0, 4]
  | _ => []
def leaveD10 (g1 b o c : Nat) : Nat → Value → World → Prop
  | 0, v, _ => v = .slice (some ⟨g1, 0, none⟩) 9 9
  | 1, v, _ => v = .slice (some ⟨b, o, none⟩) 25 c
  | 2, v, _ => v = .slice (some ⟨g1 + 1, 0, none⟩) 7 7
  | 3, v, _ => v = .int .i64 7
  | 4, v, _ => v = .slice (some ⟨b, o + 7, none⟩) 18 (c - 7)
  | _, _, _ => True

def slotD11 (i : Nat) : Nat := if i = 22 then 10 else 37 + i
def waitD11 : Nat → List Nat
  | 1 => [0]
  | 2 => [1]
  | 3 => [2]
  | 5 => [4]
  | 6 => [5]
  | 7 => [6]
  | 9 => [8]
  | 10 => [9]
  | 11 => [10]
  | 13 => [12]
  | 14 => [13]
  | 15 => [14]
  | 17 => [16]
  | 18 => [17]
  | 19 => [18]
  | 21 => [3, 7, 11, 15, 19, 20]
  | 23 => [21, 22]
  | _ => []
end Go.Proofs.YtnipfonglheofaaDoor
