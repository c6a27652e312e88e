/-
  What the drawing functions of chapter 4 hand out: two forms that are often like each other.
-/
import Derived.Test.YtbhlgdleklfonabDraws11
set_option linter.unusedVariables false
namespace Go.Proofs.Ytbhlgdleklfonab
open Go.RowKit


end Go.Proofs.Ytbhlgdleklfonab
