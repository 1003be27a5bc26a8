/-
  An argument that is two geometries and two pairs of small numbers, by value: its numbers.
-/
import Derived.Test.YthneomligbkmgaaDoorOpenAddr
namespace Go.Proofs.YthneomligbkmgaaDoor
open Go.Joins Go.ChangeShapes Go.WideShapes Go.ChangeAt Go.RowKit
set_option linter.unusedVariables false

theorem array12 {α : Type} {cs : Array α} (h : cs.size = 12) : ∃ c0 c1 c2 c3 c4 c5 c6 c7 c8 c9 c10 c11, cs = #[c0, c1, c2, c3, c4, c5, c6, c7, c8, c9, c10, c11] := by
  obtain ⟨l⟩ := cs
  match l, h with
  | [c0, c1, c2, c3, c4, c5, c6, c7, c8, c9, c10, c11], _ => exact ⟨c0, c1, c2, c3, c4, c5, c6, c7, c8, c9, c10, c11, rfl⟩
theorem cells_geo : Tryd.prog.cellsOf 23 = 4 := by kernel_rfl
theorem cells_pair : Tryd.prog.cellsOf 45 = 2 := by kernel_rfl
theorem cells_int : Tryd.prog.cellsOf 3 = 1 := by kernel_rfl
theorem cells_u16 : Tryd.prog.cellsOf 44 = 1 := by kernel_rfl
theorem cells_apart : Tryd.prog.cellsOf 47 = 12 := by kernel_rfl

section
variable {H : Type} {enc : TypeId × Value → H} {w : World} {base : Nat} {spare : Nat → Bool} {held : Bool}
theorem geo_field {n : Nat} {c0 c1 c2 c3 : Value} {y : DataW H × List MemPlace} (h : DataW.trod enc Tryd.prog w base spare held n 23 [c0, c1, c2, c3] = some y) : ∃ D L V S : Int, c0 = .int .i64 D ∧ c1 = .int .i64 L ∧ c2 = .int .i64 V ∧ c3 = .int .i64 S := by
  obtain ⟨y0, y1, y2, y3, m, _, _, h0, h1, h2, h3⟩ := trod_struct4 Tryd.underlying23 h
  dsimp only at h0 h1 h2 h3
  rw [cells_int] at h0 h1 h2 h3
  obtain ⟨D, rfl, _⟩ := int_field (v := c0) h0
  obtain ⟨L, rfl, _⟩ := int_field (v := c1) h1
  obtain ⟨V, rfl, _⟩ := int_field (v := c2) h2
  obtain ⟨S, rfl, _⟩ := int_field (v := c3) h3
  exact ⟨D, L, V, S, rfl, rfl, rfl, rfl⟩
theorem pair_field {n : Nat} {c0 c1 : Value} {y : DataW H × List MemPlace} (h : DataW.trod enc Tryd.prog w base spare held n 45 [c0, c1] = some y) : ∃ a b : Int, c0 = .int .u16 a ∧ c1 = .int .u16 b ∧ 0 ≤ a ∧ a ≤ 65535 ∧ 0 ≤ b ∧ b ≤ 65535 := by
  obtain ⟨xs, m, rfl, hx, hlen, hn, hel⟩ := DataW.trod_array Tryd.underlying45 h
  rw [cells_u16] at hel
  have e0 := hel 0 (by omega)
  have e1 := hel 1 (by omega)
  rw [List.getElem?_eq_getElem (by omega)] at e0 e1
  obtain ⟨a, ha, _, wa⟩ := DataW.trod_int Tryd.underlying44 e0
  obtain ⟨b, hb, _, wb⟩ := DataW.trod_int Tryd.underlying44 e1
  simp at ha hb
  have := bounds_u16 wa
  have := bounds_u16 wb
  exact ⟨a, b, ha, hb, by omega, by omega, by omega, by omega⟩
theorem apart_in {r : Reach} {b0 : Nat} {v : Value} {d : DataW H} {p : List MemPlace} (hv : Value.okWide Tryd.prog w r b0 47 v) (h : DataW.Trod enc Tryd.prog w base spare held 47 v d p) :
    ∃ D L V S D' L' V' S' a b a' b' : Int, (0 ≤ a ∧ a ≤ 65535 ∧ 0 ≤ b ∧ b ≤ 65535 ∧ 0 ≤ a' ∧ a' ≤ 65535 ∧ 0 ≤ b' ∧ b' ≤ 65535) ∧ v = .agg #[.int .i64 D, .int .i64 L, .int .i64 V, .int .i64 S, .int .i64 D', .int .i64 L', .int .i64 V', .int .i64 S', .int .u16 a, .int .u16 b, .int .u16 a', .int .u16 b'] := by
  obtain ⟨cs, rfl, hsz⟩ := okWide_struct Tryd.underlying47 hv
  obtain ⟨c0, c1, c2, c3, c4, c5, c6, c7, c8, c9, c10, c11, rfl⟩ := array12 (hsz.trans cells_apart)
  obtain ⟨fuel, hf⟩ := h
  obtain ⟨y0, y1, y2, y3, m, _, _, h0, h1, h2, h3⟩ := trod_struct4 Tryd.underlying47 hf
  dsimp only at h0 h1 h2 h3
  rw [cells_geo] at h0 h1
  rw [cells_pair] at h2 h3
  obtain ⟨D, L, V, S, rfl, rfl, rfl, rfl⟩ := geo_field (c0 := c0) (c1 := c1) (c2 := c2) (c3 := c3) h0
  obtain ⟨D', L', V', S', rfl, rfl, rfl, rfl⟩ := geo_field (c0 := c4) (c1 := c5) (c2 := c6) (c3 := c7) h1
  obtain ⟨a, b, rfl, rfl, p1, p2, p3, p4⟩ := pair_field (c0 := c8) (c1 := c9) h2
  obtain ⟨a', b', rfl, rfl, p5, p6, p7, p8⟩ := pair_field (c0 := c10) (c1 := c11) h3
  exact ⟨D, L, V, S, D', L', V', S', a, b, a', b', ⟨p1, p2, p3, p4, p5, p6, p7, p8⟩, rfl⟩
end
end Go.Proofs.YthneomligbkmgaaDoor
