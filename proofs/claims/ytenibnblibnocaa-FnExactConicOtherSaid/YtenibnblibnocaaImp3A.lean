/-
  Contracts of the program's chapter 3: the symbol at a place (functions that return functions).
-/
import Derived.Test.YtenibnblibnocaaImpA
import Derived.Test.YtenibnblibnocaaQr
set_option linter.unusedVariables false
namespace Go.Proofs.Ytenibnblibnocaa
open Go.RowKit

end Go.Proofs.Ytenibnblibnocaa
