/-
  Contracts of chapter 1's program: divisors and inverses by Euclid; the model's cores and residues.
-/
import Derived.Test.YtdidmblkknnglabArith2
import Derived.BigQuiet
set_option linter.unusedVariables false
namespace Go.Proofs.Ytdidmblkknnglab
open Go.RowKit



end Go.Proofs.Ytdidmblkknnglab
