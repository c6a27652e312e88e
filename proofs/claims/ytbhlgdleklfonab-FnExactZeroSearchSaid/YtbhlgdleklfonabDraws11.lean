/-
  What the drawing functions of chapter 4 hand out: a form and a place.
-/
import Derived.Test.YtbhlgdleklfonabBun52
import Derived.Test.YtbhlgdleklfonabBun53
set_option linter.unusedVariables false
namespace Go.Proofs.Ytbhlgdleklfonab
open Go.RowKit




end Go.Proofs.Ytbhlgdleklfonab
