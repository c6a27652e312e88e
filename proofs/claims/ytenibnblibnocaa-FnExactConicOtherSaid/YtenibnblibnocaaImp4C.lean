/-
  Contracts of the program's chapter 4: two forms; the discriminant; vanishing and being alike at a place.
-/
import Derived.Test.YtenibnblibnocaaImp4B
import Derived.Test.YtenibnblibnocaaCore2
set_option linter.unusedVariables false
namespace Go.Proofs.Ytenibnblibnocaa
open Go.RowKit




end Go.Proofs.Ytenibnblibnocaa
