/-
  Contracts of the model's chapter 3: signs, splits, norms.
-/
import Derived.Test.YtbhlgdleklfonabBun9
set_option linter.unusedVariables false
namespace Go.Proofs.Ytbhlgdleklfonab
open Go.RowKit





end Go.Proofs.Ytbhlgdleklfonab
