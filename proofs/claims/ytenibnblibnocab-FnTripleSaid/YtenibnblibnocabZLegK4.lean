/-
  By the kernel: as XZLegK, for further first terms.
-/
import Derived.Test.YtenibnblibnocabZLegK
set_option linter.unusedVariables false
namespace Go.Proofs.Ytenibnblibnocab
open Go.RowKit

set_option maxRecDepth 100000 in
theorem lgA_4 : lgA [23, 26, 29, 30] = true := by decide +kernel

end Go.Proofs.Ytenibnblibnocab
