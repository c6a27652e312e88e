/-
  Contracts of the program's chapter 4: two forms; the discriminant; vanishing and being alike at a place.
-/
import Derived.Test.YtbhlgdleklfonabBun34
set_option linter.unusedVariables false
namespace Go.Proofs.Ytbhlgdleklfonab
open Go.RowKit




end Go.Proofs.Ytbhlgdleklfonab
