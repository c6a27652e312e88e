/-
  Contracts of the model's chapter 4: values at a vector; invariants.
-/
import Derived.Test.YtdclmjmefkgbbabQBun9
import Derived.Deep.QuietTactic
set_option linter.unusedVariables false
namespace Go.Proofs.Ytdclmjmefkgbbab
open Go.RowKit





end Go.Proofs.Ytdclmjmefkgbbab
