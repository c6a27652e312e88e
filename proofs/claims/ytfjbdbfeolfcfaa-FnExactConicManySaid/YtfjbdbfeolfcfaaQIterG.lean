/-
  The iterator over the prime powers of a number up to 25000000; the places of such a number.
-/
import Derived.Test.YtfjbdbfeolfcfaaQBun22
import Derived.Test.YtfjbdbfeolfcfaaQBun6
set_option linter.unusedVariables false
namespace Go.Proofs.Ytfjbdbfeolfcfaa
open Go.RowKit Go.Shelf
attribute [local go_sem] Oper.semAt_some

def ppowG (n : Nat) : List (Nat × Nat) := ppGo (n + 1) 2 n
theorem plistG_eq (n : Nat) : plistG n = (ppowG n).map (·.1) := plGo_eq _ _ _
theorem ppowG_len (n : Nat) : (ppowG n).length ≤ n + 1 := ppGo_len _ _ _
theorem sq_le5 {p n : Nat} (h : p * p ≤ n) (hn : n ≤ 25000000) : p ≤ 5000 := by
  by_cases hp : p ≤ 5000
  · exact hp
  · have := Nat.mul_le_mul (show 5001 ≤ p by omega) (show 5001 ≤ p by omega)
    omega

/-- what a round is handed: bounded numbers -/
abbrev PPG := { x : Nat × Nat // x.1 ≤ 25000000 ∧ x.2 ≤ 25000000 }
abbrev encG (x : PPG) : Array Value := #[.int .i64 x.1.1, .int .i64 x.1.2]


def fstsG (l : List PPG) : List Nat := l.map (fun x => x.1.1)
theorem fstsG_snoc (l : List PPG) (x : PPG) : fstsG (l ++ [x]) = fstsG l ++ [x.1.1] := by simp [fstsG]
theorem fstsG_len (l : List PPG) : (fstsG l).length = l.length := by unfold fstsG; rw [List.length_map]
theorem fstsG_all {ys : List PPG} {l : List (Nat × Nat)} (h : ys.map (·.1) = l) : fstsG ys = l.map (·.1) := by rw [← h]; simp [fstsG]

end Go.Proofs.Ytfjbdbfeolfcfaa
