/-
  Contracts of the model's chapter 3: signs, splits, norms.
-/
import Derived.Test.YtciajpimpjpnfaaSym3
set_option linter.unusedVariables false
namespace Go.Proofs.Ytciajpimpjpnfaa
open Go.RowKit





end Go.Proofs.Ytciajpimpjpnfaa
