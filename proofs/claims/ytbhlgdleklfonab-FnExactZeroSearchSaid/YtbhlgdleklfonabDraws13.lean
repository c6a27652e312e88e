/-
  What the drawing functions of chapter 4 hand out: two forms.
-/
import Derived.Test.YtbhlgdleklfonabDraws12
set_option linter.unusedVariables false
namespace Go.Proofs.Ytbhlgdleklfonab
open Go.RowKit



end Go.Proofs.Ytbhlgdleklfonab
