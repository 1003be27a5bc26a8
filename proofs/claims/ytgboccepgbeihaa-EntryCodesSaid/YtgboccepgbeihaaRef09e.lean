/-
  What the document's answers of layer 9 are: Fit.
-/
import Derived.Test.YtgboccepgbeihaaRef09f
namespace Go.Proofs.Ytgboccepgbeihaa
open Go.RowKit
set_option maxRecDepth 100000
set_option linter.unusedVariables false

end Go.Proofs.Ytgboccepgbeihaa
