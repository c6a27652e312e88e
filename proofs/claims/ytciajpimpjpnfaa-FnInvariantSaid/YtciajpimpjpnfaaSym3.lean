/-
  Contracts of the model's chapter 3: symbols of two numbers.
-/
import Derived.Test.YtciajpimpjpnfaaBun8
set_option linter.unusedVariables false
namespace Go.Proofs.Ytciajpimpjpnfaa
open Go.RowKit



end Go.Proofs.Ytciajpimpjpnfaa
