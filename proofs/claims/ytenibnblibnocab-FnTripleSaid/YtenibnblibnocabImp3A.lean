/-
  Contracts of the program's chapter 3: the symbol at a place (functions that return functions).
-/
import Derived.Test.YtenibnblibnocabImpA
import Derived.Test.YtenibnblibnocabQr
set_option linter.unusedVariables false
namespace Go.Proofs.Ytenibnblibnocab
open Go.RowKit

end Go.Proofs.Ytenibnblibnocab
