/-
  Contracts of the program's chapter 3: the symbol at a place (functions that return functions).
-/
import Derived.Test.YtbhlgdleklfonabImpA
import Derived.Test.YtbhlgdleklfonabQr
set_option linter.unusedVariables false
namespace Go.Proofs.Ytbhlgdleklfonab
open Go.RowKit

end Go.Proofs.Ytbhlgdleklfonab
