/-
  What the document's answers of layer 9 are: Fold.
-/
import Derived.Test.YtgboccepgbeihaaRef09c
namespace Go.Proofs.Ytgboccepgbeihaa
open Go.RowKit
set_option maxRecDepth 100000
set_option linter.unusedVariables false

theorem foldT_take_succ {l : List UInt8} {k : Nat} {c : UInt8} (h : l[k]? = some c) : foldT (l.take (k + 1)) = foldT (l.take k) ++ [foldO c] := by
  rw [List.take_add_one, h]; simp [foldT]
theorem oct_some {l : List UInt8} {k : Nat} {c : UInt8} (h : l[k]? = some c) : octN l k = c.toNat := by
  unfold octN; rw [List.getD, h]; rfl

end Go.Proofs.Ytgboccepgbeihaa
