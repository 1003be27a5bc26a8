/-
  The program's functions of path keep what PathC says of them.
-/
import Derived.Test.YtlenfocdhchphaaPthP3
namespace Go.Proofs.Ytlenfocdhchphaa
open Go.RowKit
set_option linter.unusedVariables false

theorem parsePC : ∀ w : World, ParsePC w := fun w0 => ⟨fun s w h _ => parse_any s w h⟩
theorem joinPC : ∀ w : World, JoinPC w := fun w0 => ⟨fun l A n c w h hn hs _ => joinP_any l A n c w h hn hs⟩
theorem parentPC : ∀ w : World, ParentPC w := fun w0 => ⟨fun s w h _ => parentP_any s w h⟩
theorem underPC : ∀ w : World, UnderPC w := fun w0 => ⟨fun l top A A' n c n' c' w h h' hn hn' _ => underP_any l top A A' n c n' c' w h h' hn hn'⟩
end Go.Proofs.Ytlenfocdhchphaa
