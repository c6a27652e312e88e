/-
  Contracts of the program's chapter 4: what the thirteen functions answer (those that build no list).
-/
import Derived.Test.YtbhlgdleklfonabImp4C
import Derived.Test.YtbhlgdleklfonabVec
set_option linter.unusedVariables false
namespace Go.Proofs.Ytbhlgdleklfonab
open Go.RowKit







end Go.Proofs.Ytbhlgdleklfonab
