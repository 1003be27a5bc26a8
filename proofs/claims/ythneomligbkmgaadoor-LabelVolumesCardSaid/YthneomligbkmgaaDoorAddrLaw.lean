/-
  What the document's answers of layer 3 are, one contract each: May, Count, Of, Where, Tier.
-/
import Derived.Test.YthneomligbkmgaaDoorAddr4
namespace Go.Proofs.YthneomligbkmgaaDoor
open Go.RowKit
set_option linter.unusedVariables false

set_option maxHeartbeats 1000000 in
theorem refMay_any (D L V S : Int) (t : Bool) (w : World) (ht : mayB D L V S = t) :
    Calls Tryd.prog 8 #[.agg #[.int .i64 D, .int .i64 L, .int .i64 V, .int .i64 S]] w fun e w' => e = .returned (.bool t) ∧ Below w.heap.size w w' := by
  cases t
  · have hn : ¬ (8 ≤ D ∧ D ≤ 256 ∧ 1 ≤ L ∧ L ≤ D - 6 ∧ 0 ≤ V ∧ V ≤ 8 ∧ 1 ≤ S ∧ S ≤ 256) := by simpa [mayB] using ht
    have hc : (decide (8 ≤ D) = false) ∨ (8 ≤ D ∧ decide (D ≤ 256) = false) ∨ (8 ≤ D ∧ D ≤ 256 ∧ decide (1 ≤ L) = false) ∨ (8 ≤ D ∧ D ≤ 256 ∧ 1 ≤ L ∧ decide (L ≤ D - 6) = false) ∨ (8 ≤ D ∧ D ≤ 256 ∧ 1 ≤ L ∧ L ≤ D - 6 ∧ decide (0 ≤ V) = false)
        ∨ (8 ≤ D ∧ D ≤ 256 ∧ 1 ≤ L ∧ L ≤ D - 6 ∧ 0 ≤ V ∧ decide (V ≤ 8) = false) ∨ (8 ≤ D ∧ D ≤ 256 ∧ 1 ≤ L ∧ L ≤ D - 6 ∧ 0 ≤ V ∧ V ≤ 8 ∧ decide (1 ≤ S) = false) ∨ (8 ≤ D ∧ D ≤ 256 ∧ 1 ≤ L ∧ L ≤ D - 6 ∧ 0 ≤ V ∧ V ≤ 8 ∧ 1 ≤ S ∧ decide (S ≤ 256) = false) := by
      simp only [decide_eq_false_iff_not]
      omega
    clear hn ht
    rcases hc with h1 | ⟨h1, h2⟩ | ⟨h1, h2, h3⟩ | ⟨h1, h2, h3, h4⟩ | ⟨h1, h2, h3, h4, h5⟩ | ⟨h1, h2, h3, h4, h5, h6⟩ | ⟨h1, h2, h3, h4, h5, h6, h7⟩ | ⟨h1, h2, h3, h4, h5, h6, h7, h8⟩
    all_goals
      go_enter Tryd.func8, Tryd.ntmps8
      go_wp2
      go_ret
      exact ⟨rfl, (Below.refl _ _).alloc (Nat.le_refl _) _⟩
  · obtain ⟨h1, h2, h3, h4, h5, h6, h7, h8⟩ := mayB_yes ht
    clear ht
    go_enter Tryd.func8, Tryd.ntmps8
    go_wp2
    go_ret
    exact ⟨rfl, (Below.refl _ _).alloc (Nat.le_refl _) _⟩

end Go.Proofs.YthneomligbkmgaaDoor
