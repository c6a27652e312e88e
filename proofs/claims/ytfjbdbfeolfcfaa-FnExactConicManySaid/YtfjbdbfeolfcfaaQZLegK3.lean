/-
  By the kernel: as XZLegK, for further first terms.
-/
import Derived.Test.YtfjbdbfeolfcfaaQZLegK
set_option linter.unusedVariables false
namespace Go.Proofs.Ytfjbdbfeolfcfaa
open Go.RowKit

set_option maxRecDepth 100000 in
theorem lgA_3 : lgA [15, 17, 19, 21, 22] = true := by decide +kernel

end Go.Proofs.Ytfjbdbfeolfcfaa
