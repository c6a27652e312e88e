/-
  Contracts of the model's chapter 3: symbols of two numbers.
-/
import Derived.Test.YtenibnblibnocacQBun10
set_option linter.unusedVariables false
namespace Go.Proofs.Ytenibnblibnocac
open Go.RowKit



end Go.Proofs.Ytenibnblibnocac
