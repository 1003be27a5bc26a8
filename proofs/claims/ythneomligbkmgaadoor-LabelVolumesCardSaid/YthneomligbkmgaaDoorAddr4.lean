/-
  What Of and Where of package addr do, one contract each.
-/
import Derived.Test.YthneomligbkmgaaDoorAddr3
import Derived.Test.YthneomligbkmgaaDoorMem2
import Derived.RegionTactic
import Derived.StillTailTactics
namespace Go.Proofs.YthneomligbkmgaaDoor
open Go.RowKit
set_option linter.unusedVariables false

theorem ret_two {k k' : IntKind} {a b c d : Int} (h : a = b) (h' : c = d) : Ending.returned (.tuple #[.int k a, .int k' c]) = .returned (.tuple #[.int k b, .int k' d]) := by rw [h, h']
/-- a place in memory -/
def Plc (w : World) (g : Nat) (v s o : Int) : Prop := w.cell? ⟨g, 0, none⟩ = some (.int .i64 v) ∧ w.cell? ⟨g, 1, none⟩ = some (.int .i64 s) ∧ w.cell? ⟨g, 2, none⟩ = some (.int .i64 o)
theorem Plc.up {w w' : World} {g : Nat} {v s o : Int} (h : Plc w g v s o) (hb : Below w.heap.size w w') : Plc w' g v s o := by
  have hg := World.block_lt_of_cell? w _ h.1
  obtain ⟨h0, h1, h2⟩ := h
  exact ⟨(hb.cell (p := ⟨g, 0, none⟩) hg).trans h0, (hb.cell (p := ⟨g, 1, none⟩) hg).trans h1, (hb.cell (p := ⟨g, 2, none⟩) hg).trans h2⟩
theorem Plc.new (w : World) (t : TypeId) (v s o : Int) : Plc (w.alloc (.cells #[.int .i64 v, .int .i64 s, .int .i64 o] t)) w.heap.size v s o := by
  have h := Bk.new w t #[.int .i64 v, .int .i64 s, .int .i64 o]
  exact ⟨h.cell 0, h.cell 1, h.cell 2⟩

theorem ret_place {a b c a' b' c' d : Int} (h : a' = a) (h' : b' = b) (h'' : c = c') : Ending.returned (.tuple #[.agg #[.int .i64 a, .int .i64 b, .int .i64 c], .int .i64 d]) = .returned (.tuple #[.agg #[.int .i64 a', .int .i64 b', .int .i64 c'], .int .i64 d]) := by rw [h, h', h'']
theorem place_cells {w : World} {g : Nat} {t : TypeId} {v s o : Value} (h : Bk w g t #[v, s, o]) : w.cell? ⟨g, 0, none⟩ = some v ∧ w.cell? ⟨g, 1, none⟩ = some s ∧ w.cell? ⟨g, 2, none⟩ = some o
    ∧ w.frozen? ⟨g, 0, none⟩ = false ∧ w.frozen? ⟨g, 1, none⟩ = false ∧ w.frozen? ⟨g, 2, none⟩ = false := ⟨h.cell 0, h.cell 1, h.cell 2, h.free 0, h.free 1, h.free 2⟩
theorem place_puts {w : World} {g : Nat} {t : TypeId} {x y z : Value} (h : Bk w g t #[x, y, z]) (v s o : Value) : (w.setCell ⟨g, 0, none⟩ v).cell? ⟨g, 0, none⟩ = some v ∧ ((w.setCell ⟨g, 0, none⟩ v).setCell ⟨g, 1, none⟩ s).cell? ⟨g, 1, none⟩ = some s
    ∧ (((w.setCell ⟨g, 0, none⟩ v).setCell ⟨g, 1, none⟩ s).setCell ⟨g, 2, none⟩ o).cell? ⟨g, 2, none⟩ = some o ∧ Bk (((w.setCell ⟨g, 0, none⟩ v).setCell ⟨g, 1, none⟩ s).setCell ⟨g, 2, none⟩ o) g t #[v, s, o] :=
  ⟨(h.set_ 0 v).cell 0, ((h.set_ 0 v).set_ 1 s).cell 1, (((h.set_ 0 v).set_ 1 s).set_ 2 o).cell 2, ((h.set_ 0 v).set_ 1 s).set_ 2 o⟩
end Go.Proofs.YthneomligbkmgaaDoor
