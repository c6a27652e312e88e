/-
  Contracts of the program's chapter 4: what the thirteen functions answer (those that build no list).
-/
import Derived.Test.YtenibnblibnocaaImp4C
import Derived.Test.YtenibnblibnocaaVec
set_option linter.unusedVariables false
namespace Go.Proofs.Ytenibnblibnocaa
open Go.RowKit







end Go.Proofs.Ytenibnblibnocaa
