/-
  Contracts of chapter 1's searches (program and model): powers, inverses, roots, divisors, primes by trial.
-/
import Derived.Test.YtdidmblkknnglaaLoops
set_option linter.unusedVariables false
namespace Go.Proofs.Ytdidmblkknnglaa
open Go.RowKit



def optV : Option Nat → Value
  | some x => .tuple #[.int .i64 x, .bool true]
  | none => .tuple #[.int .i64 0, .bool false]
/-- what RootMod answers -/
def rootV (n m : Int) : Value := optV (if okN n && inR m 1 5000 then rootF (n % m).toNat m.toNat else none)
theorem rootV_yes {n m : Int} (h : (okN n && inR m 1 5000) = true) : rootV n m = optV (rootF (n % m).toNat m.toNat) := by unfold rootV; rw [if_pos h]
theorem rootV_no {n m : Int} (h : (okN n && inR m 1 5000) = false) : rootV n m = .tuple #[.int .i64 0, .bool false] := by unfold rootV; rw [if_neg (by rw [h]; decide)]; rfl
/-- what InverseMod answers -/
def invV (n m : Int) : Value := optV (if okN n && inR m 2 5000 then invF (n % m).toNat m.toNat else none)
theorem invV_yes {n m : Int} (h : (okN n && inR m 2 5000) = true) : invV n m = optV (invF (n % m).toNat m.toNat) := by unfold invV; rw [if_pos h]
theorem invV_no {n m : Int} (h : (okN n && inR m 2 5000) = false) : invV n m = .tuple #[.int .i64 0, .bool false] := by unfold invV; rw [if_neg (by rw [h]; decide)]; rfl
theorem optV_form (o : Option Nat) : ∃ (x : Int) (b : Bool), optV o = .tuple #[.int .i64 x, .bool b] := by
  cases o with
  | none => exact ⟨0, false, rfl⟩
  | some x => exact ⟨x, true, rfl⟩
theorem rootV_form (n m : Int) : ∃ (x : Int) (b : Bool), rootV n m = .tuple #[.int .i64 x, .bool b] := optV_form _
theorem invV_form (n m : Int) : ∃ (x : Int) (b : Bool), invV n m = .tuple #[.int .i64 x, .bool b] := optV_form _
theorem retV {a b : Value} (h : a = b) : Ending.returned a = .returned b := by rw [h]



end Go.Proofs.Ytdidmblkknnglaa
