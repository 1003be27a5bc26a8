/-
  What the document's answers of layer 9 are: Head, cut, Fit, Fold.
-/
import Derived.Test.YtgboccepgbeihaaRef09c
namespace Go.Proofs.Ytgboccepgbeihaa
open Go.RowKit
set_option maxRecDepth 100000
set_option linter.unusedVariables false

theorem joinT_take_succ {X : List Tk} {k : Nat} {x : Tk} (h : X[k]? = some x) : joinT (X.take (k + 1)) = joinT (X.take k) ++ x.s := by
  rw [List.take_add_one, h, joinT_append]; simp [joinT]
theorem joinT_take_len (l : List UInt8) (k : Nat) : (joinT ((toks l).take k)).length ≤ l.length := by
  have h : joinT ((toks l).take k) ++ joinT ((toks l).drop k) = l := by rw [← joinT_append, List.take_append_drop, join_toks]
  have := congrArg List.length h
  rw [List.length_append] at this
  omega

end Go.Proofs.Ytgboccepgbeihaa
