/-
  Contracts of the model's chapter 3: signs, splits, norms.
-/
import Derived.Test.YtciajpimpjpnfacBun14
set_option linter.unusedVariables false
namespace Go.Proofs.Ytciajpimpjpnfac
open Go.RowKit





end Go.Proofs.Ytciajpimpjpnfac
