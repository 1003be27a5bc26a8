/-
  The program's functions of title keep what TitC says of them.
-/
import Derived.Test.YtopjajfkncnihaaTitP5
namespace Go.Proofs.Ytopjajfkncnihaa
open Go.RowKit
set_option linter.unusedVariables false

theorem countTC : ∀ w : World, CountTC w := fun w0 => ⟨fun l w h _ => countT_any l w (by omega)⟩
theorem isTC : ∀ w : World, IsTC w := fun w0 => ⟨fun l w h _ => is_any l w (by omega)⟩
theorem headTC : ∀ w : World, HeadTC w := fun w0 => ⟨fun l n w h _ hn => headT_any l n w (by omega) hn⟩
theorem orderTC : ∀ w : World, OrderTC w := fun w0 => ⟨fun a b w _ _ _ => order_any a b w⟩
theorem foldTC : ∀ w : World, FoldTC w := fun w0 => ⟨fun l w h _ => fold_any l w (by omega)⟩
theorem fitTC : ∀ w : World, FitTC w := fun w0 => ⟨fun l w h _ => fit_any l w (by omega)⟩
end Go.Proofs.Ytopjajfkncnihaa
