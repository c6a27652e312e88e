/-
  Contracts of the program's chapter 3: symbols, their lists and counts.
-/
import Derived.Test.YtbhlgdleklfonabImp3A
import Derived.Test.YtbhlgdleklfonabImpC
import Derived.Test.YtbhlgdleklfonabIterG
import Derived.Test.YtbhlgdleklfonabBun8
set_option linter.unusedVariables false
namespace Go.Proofs.Ytbhlgdleklfonab
open Go.RowKit

theorem okAB_parts {a b : Int} (h : okAB a b = true) : factB a = true ∧ factB b = true := by
  unfold okAB at h
  rw [Bool.and_eq_true] at h
  exact h

end Go.Proofs.Ytbhlgdleklfonab
