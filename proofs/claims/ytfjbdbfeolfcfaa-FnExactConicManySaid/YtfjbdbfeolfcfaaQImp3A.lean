/-
  Contracts of the program's chapter 3: the symbol at a place (functions that return functions).
-/
import Derived.Test.YtfjbdbfeolfcfaaQBun18
import Derived.Test.YtfjbdbfeolfcfaaQQr
set_option linter.unusedVariables false
namespace Go.Proofs.Ytfjbdbfeolfcfaa
open Go.RowKit

end Go.Proofs.Ytfjbdbfeolfcfaa
