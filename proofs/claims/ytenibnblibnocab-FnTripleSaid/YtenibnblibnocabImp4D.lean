/-
  Contracts of the program's chapter 4: what the thirteen functions answer (those that build no list).
-/
import Derived.Test.YtenibnblibnocabImp4C
import Derived.Test.YtenibnblibnocabVec
set_option linter.unusedVariables false
namespace Go.Proofs.Ytenibnblibnocab
open Go.RowKit







end Go.Proofs.Ytenibnblibnocab
