/-
  The iterator over the prime powers of a number: its contract for every loop body.
-/
import Derived.RangeFuncNested
import Derived.RangeFuncBound
import Derived.RangeFuncCalls
import Derived.RangeFuncLeaves
import Derived.RangeFuncBox
import Derived.Shelf.Abstract
import Derived.Shelf.RegionOpen
import Derived.OwnWalkIn
import Derived.TacticsInMore
import Derived.LoopNIn
import Derived.LoopIn
import Derived.Test.YtjabklpnohfjpabQBun0
set_option linter.unusedVariables false
namespace Go.Proofs.Ytjabklpnohfjpab
open Go.RowKit Go.Shelf
attribute [local go_sem] Oper.semAt_some

abbrev encPP (x : Nat × Nat) : Array Value := #[.int .i64 x.1, .int .i64 x.2]

theorem wide_depth (n : Nat) : Fence.wide.depth.isSome = true → 1 ≤ n := fun h => Bool.noConfusion h

/-- what a round is handed: bounded numbers -/
abbrev PP := { x : Nat × Nat // x.1 ≤ 5000 ∧ x.2 ≤ 5000 }
abbrev encP (x : PP) : Array Value := #[.int .i64 x.1.1, .int .i64 x.1.2]

end Go.Proofs.Ytjabklpnohfjpab
