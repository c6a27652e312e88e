/-
  Contracts of the model's chapter 3: symbols of two numbers.
-/
import Derived.Test.YtacjejnbomdhbabQBun8
set_option linter.unusedVariables false
namespace Go.Proofs.Ytacjejnbomdhbab
open Go.RowKit



end Go.Proofs.Ytacjejnbomdhbab
