/-
  Contracts of the model's chapter 3: symbols of two numbers.
-/
import Derived.Test.YtjabklpnohfjpabQBun8
set_option linter.unusedVariables false
namespace Go.Proofs.Ytjabklpnohfjpab
open Go.RowKit



end Go.Proofs.Ytjabklpnohfjpab
