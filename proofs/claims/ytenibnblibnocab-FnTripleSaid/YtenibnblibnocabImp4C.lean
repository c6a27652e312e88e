/-
  Contracts of the program's chapter 4: two forms; the discriminant; vanishing and being alike at a place.
-/
import Derived.Test.YtenibnblibnocabImp4B
import Derived.Test.YtenibnblibnocabCore2
set_option linter.unusedVariables false
namespace Go.Proofs.Ytenibnblibnocab
open Go.RowKit




end Go.Proofs.Ytenibnblibnocab
