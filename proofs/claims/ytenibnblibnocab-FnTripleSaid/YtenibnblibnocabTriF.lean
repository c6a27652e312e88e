/-
  Triples: the forms of what the functions answer.
-/
import Derived.Test.YtenibnblibnocabBun0
set_option linter.unusedVariables false
namespace Go.Proofs.Ytenibnblibnocab
open Go.RowKit

theorem triB_in2 {a b c : Int} {g : Nat} (hg : g = Nat.gcd a.natAbs b.natAbs) (A : inR a 1 100000 = true) (B : inR b 1 100000 = true) (C : inR c 1 100000 = true) : triB a b c = (decide (a * a + b * b = c * c) && (decide (a % 2 = 1) && decide (g = 1))) := by
  subst hg
  rw [triB_in A B C]
theorem v4_form (ok : Bool) (a b c : Int) : ∃ (x0 x1 x2 : Int) (o : Bool), v4 ok a b c = .tuple #[.int .i64 x0, .int .i64 x1, .int .i64 x2, .bool o] := by
  cases ok
  · exact ⟨0, 0, 0, false, rfl⟩
  · exact ⟨a, b, c, true, rfl⟩
theorem v5_form (ok : Bool) (a b c k : Int) : ∃ (x0 x1 x2 x3 : Int) (o : Bool), v5 ok a b c k = .tuple #[.int .i64 x0, .int .i64 x1, .int .i64 x2, .int .i64 x3, .bool o] := by
  cases ok
  · exact ⟨0, 0, 0, 0, false, rfl⟩
  · exact ⟨a, b, c, k, true, rfl⟩
theorem makeV_form (m n : Int) : ∃ (x0 x1 x2 : Int) (o : Bool), makeV m n = .tuple #[.int .i64 x0, .int .i64 x1, .int .i64 x2, .bool o] := v4_form _ _ _ _
theorem tbackV_form (a b c : Int) : ∃ (x0 x1 : Int) (o : Bool), tbackV a b c = .tuple #[.int .i64 x0, .int .i64 x1, .bool o] := by
  unfold tbackV
  cases triB a b c
  · exact ⟨0, 0, false, rfl⟩
  · exact ⟨_, _, true, rfl⟩
theorem childV_form (a b c k : Int) : ∃ (x0 x1 x2 : Int) (o : Bool), childV a b c k = .tuple #[.int .i64 x0, .int .i64 x1, .int .i64 x2, .bool o] := by
  unfold childV
  split
  · exact v4_form _ _ _ _
  · exact v4_form _ _ _ _
theorem parentV_form (a b c : Int) : ∃ (x0 x1 x2 x3 : Int) (o : Bool), parentV a b c = .tuple #[.int .i64 x0, .int .i64 x1, .int .i64 x2, .int .i64 x3, .bool o] := by
  unfold parentV
  split
  · exact v5_form _ _ _ _ _
  · exact v5_form _ _ _ _ _

end Go.Proofs.Ytenibnblibnocab
