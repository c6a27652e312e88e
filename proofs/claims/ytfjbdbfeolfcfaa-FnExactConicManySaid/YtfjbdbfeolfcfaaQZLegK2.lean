/-
  By the kernel: as XZLegK, for further first terms.
-/
import Derived.Test.YtfjbdbfeolfcfaaQZLegK
set_option linter.unusedVariables false
namespace Go.Proofs.Ytfjbdbfeolfcfaa
open Go.RowKit

set_option maxRecDepth 100000 in
theorem lgA_2 : lgA [7, 10, 11, 13, 14] = true := by decide +kernel

end Go.Proofs.Ytfjbdbfeolfcfaa
