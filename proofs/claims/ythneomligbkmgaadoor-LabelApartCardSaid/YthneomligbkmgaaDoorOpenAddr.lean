/-
  An argument that is a geometry, or a place, by value: its numbers.
-/
import Derived.Test.YthneomligbkmgaaDoorOpen
import Derived.Lib.SmallJoins
namespace Go.Proofs.YthneomligbkmgaaDoor
open Go.Joins Go.ChangeShapes Go.WideShapes Go.ChangeAt Go.RowKit
set_option linter.unusedVariables false

section
variable {H : Type} {enc : TypeId × Value → H} {w : World} {base : Nat} {spare : Nat → Bool} {held : Bool}
theorem int_field {n : Nat} {v : Value} {y : DataW H × List MemPlace} (h : DataW.trod enc Tryd.prog w base spare held n 3 [v] = some y) : ∃ k : Int, v = .int .i64 k ∧ -9223372036854775808 ≤ k ∧ k ≤ 9223372036854775807 := by
  obtain ⟨k, hk, _, hw⟩ := DataW.trod_int Tryd.underlying3 h
  simp at hk
  exact ⟨k, hk, bounds_i64 hw⟩
theorem geo_in {r : Reach} {b0 : Nat} {v : Value} {d : DataW H} {p : List MemPlace} (hv : Value.okWide Tryd.prog w r b0 23 v) (h : DataW.Trod enc Tryd.prog w base spare held 23 v d p) :
    ∃ D L V S : Int, v = .agg #[.int .i64 D, .int .i64 L, .int .i64 V, .int .i64 S] := by
  obtain ⟨v0, v1, v2, v3, y0, y1, y2, y3, n, rfl, _, _, h0, h1, h2, h3⟩ := open_agg4 Tryd.underlying23 (by kernel_rfl) (by kernel_rfl) hv h
  obtain ⟨D, rfl, _⟩ := int_field h0
  obtain ⟨L, rfl, _⟩ := int_field h1
  obtain ⟨V, rfl, _⟩ := int_field h2
  obtain ⟨S, rfl, _⟩ := int_field h3
  exact ⟨D, L, V, S, rfl⟩
end
end Go.Proofs.YthneomligbkmgaaDoor
