/-
  Contracts of chapter 1's program: divisors and inverses by Euclid; the model's cores and residues.
-/
import Derived.Test.YtdidmblkknnglaaArith2
import Derived.BigQuiet
set_option linter.unusedVariables false
namespace Go.Proofs.Ytdidmblkknnglaa
open Go.RowKit



end Go.Proofs.Ytdidmblkknnglaa
