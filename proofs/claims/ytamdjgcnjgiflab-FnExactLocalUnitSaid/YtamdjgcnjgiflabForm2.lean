/-
  The form of what chapter 2's functions answer: an integer and a bool.
-/
import Derived.Test.YtamdjgcnjgiflabImpE
import Derived.Test.YtamdjgcnjgiflabLoc3
set_option linter.unusedVariables false
namespace Go.Proofs.Ytamdjgcnjgiflab
open Go.RowKit

theorem lnameF (n q : Int) : ∃ (x : Int) (b : Bool), lnameV n q = .tuple #[.int .i64 x, .bool b] := by
  unfold lnameV
  split
  · exact ⟨_, _, rfl⟩
  · exact ⟨_, _, rfl⟩
theorem lmulF (a b q : Int) : ∃ (x : Int) (c : Bool), lmulV a b q = .tuple #[.int .i64 x, .bool c] := by
  unfold lmulV
  split
  · exact ⟨_, _, rfl⟩
  · exact ⟨_, _, rfl⟩
theorem lunitF (n p : Int) : ∃ (x : Int) (b : Bool), lunitV n p = .tuple #[.int .i64 x, .bool b] := by
  unfold lunitV
  split
  · exact ⟨_, _, rfl⟩
  · exact ⟨_, _, rfl⟩
theorem lrootF (n p k : Int) : ∃ (x : Int) (b : Bool), lrootV n p k = .tuple #[.int .i64 x, .bool b] := by
  unfold lrootV
  split
  · unfold rootT
    split
    · exact ⟨_, _, rfl⟩
    · exact ⟨_, _, rfl⟩
  · exact ⟨_, _, rfl⟩

end Go.Proofs.Ytamdjgcnjgiflab
