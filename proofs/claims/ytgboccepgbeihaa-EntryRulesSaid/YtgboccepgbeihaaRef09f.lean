/-
  What the document's answers of layer 9 are: cut.
-/
import Derived.Test.YtgboccepgbeihaaRef09d
namespace Go.Proofs.Ytgboccepgbeihaa
open Go.RowKit
set_option maxRecDepth 100000
set_option linter.unusedVariables false

theorem cutL_drop {X : List Tk} {k : Nat} {x : Tk} (h : X[k]? = some x) (out : List UInt8) (n : Nat) :
    cutL (X.drop k) out n = if signT x = false then cutL (X.drop (k + 1)) out n else if n = 16 ∨ 24 < out.length + x.s.length then out else cutL (X.drop (k + 1)) (out ++ x.s) (n + 1) := by
  obtain ⟨hk, rfl⟩ := List.getElem?_eq_some_iff.1 h
  rw [List.drop_eq_getElem_cons hk, cutL]

end Go.Proofs.Ytgboccepgbeihaa
