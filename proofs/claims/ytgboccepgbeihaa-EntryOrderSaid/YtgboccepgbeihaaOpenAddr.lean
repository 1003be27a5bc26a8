/-
  An argument that is a geometry, or a place, by value: its numbers.
-/
import Derived.Test.YtgboccepgbeihaaOpen
import Derived.Lib.SmallJoins
namespace Go.Proofs.Ytgboccepgbeihaa
open Go.Joins Go.ChangeShapes Go.WideShapes Go.ChangeAt Go.RowKit
set_option linter.unusedVariables false

section
variable {H : Type} {enc : TypeId × Value → H} {w : World} {base : Nat} {spare : Nat → Bool} {held : Bool}
theorem int_field {n : Nat} {v : Value} {y : DataW H × List MemPlace} (h : DataW.trod enc Try.prog w base spare held n 3 [v] = some y) : ∃ k : Int, v = .int .i64 k ∧ -9223372036854775808 ≤ k ∧ k ≤ 9223372036854775807 := by
  obtain ⟨k, hk, _, hw⟩ := DataW.trod_int Try.underlying3 h
  simp at hk
  exact ⟨k, hk, bounds_i64 hw⟩
end
end Go.Proofs.Ytgboccepgbeihaa
