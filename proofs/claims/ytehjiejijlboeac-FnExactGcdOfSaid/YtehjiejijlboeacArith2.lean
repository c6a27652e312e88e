/-
  Contracts of chapter 1's model: divisors, inverses, primes by trial, cores, residues.
-/
import Derived.Test.YtehjiejijlboeacArith
set_option linter.unusedVariables false
namespace Go.Proofs.Ytehjiejijlboeac
open Go.RowKit

def gcdV (a b : Int) : Int := if okN a && okN b then (Nat.gcd a.natAbs b.natAbs : Nat) else -1
theorem gcdV_yes {a b : Int} (h : (okN a && okN b) = true) : gcdV a b = (Nat.gcd a.natAbs b.natAbs : Nat) := by unfold gcdV; rw [if_pos h]
theorem gcdV_no {a b : Int} (h : (okN a && okN b) = false) : gcdV a b = -1 := by unfold gcdV; rw [if_neg (by rw [h]; decide)]

set_option maxHeartbeats 400000 in
theorem l1Gcd_any (a b : Int) (a1 : -1000000 ≤ a) (a2 : a ≤ 1000000) (b1 : -1000000 ≤ b) (b2 : b ≤ 1000000) (w : World) :
    Calls Try.prog 7 #[.int .i64 a, .int .i64 b] w fun e w' => e = .returned (.int .i64 (Nat.gcd a.natAbs b.natAbs : Nat)) ∧ w = w' := by
  go_enter Try.func7, Try.ntmps7
  go_wp2_with fail
  refine (l1Size_any a (by omega) (by omega) _).mono ?_
  rintro e w' ⟨rfl, rfl⟩
  go_wp2_with fail
  refine (l1Size_any b (by omega) (by omega) _).mono ?_
  rintro e w' ⟨rfl, rfl⟩
  go_wp2_with fail
  go_loop [0, 1] (fun x y => ∃ (X Y : Nat), x = .int .i64 X ∧ y = .int .i64 Y ∧ X ≤ 1000000 ∧ Y ≤ 1000000 ∧ Hid (Nat.gcd X Y = Nat.gcd a.natAbs b.natAbs)) (fun _ y => (intOf y).toNat)
  case atStart => exact ⟨_, _, rfl, rfl, by omega, by omega, hid rfl⟩
  case round =>
    obtain ⟨X, Y, rfl, rfl, hX, hY, HV⟩ := hrel
    by_cases h0 : Y = 0
    · subst h0
      go_wp2
      go_ret
      exact ⟨retI (by rw [← HV.out, Nat.gcd_zero_right]), rfl⟩
    · have T : ((Y : Int) != 0) = true := by rw [bne_iff_ne]; omega
      have hlt := Nat.mod_lt X (show Y > 0 by omega)
      go_wp2
      go_round
      case rel => exact ⟨Y, X % Y, rfl, vI (by push_cast; rfl), hY, by omega, hid (by rw [← HV.out, Nat.gcd_comm X Y, Nat.gcd_rec Y X, Nat.gcd_comm])⟩
      case measure => simp only [intOf]; omega

theorem gcdS_any (a b : Int) (w : World) : Calls Try.prog 4 #[.int .i64 a, .int .i64 b] w fun e w' => e = .returned (.int .i64 (gcdV a b)) ∧ w = w' := by
  rcases okN_cases a with ⟨a1, a2, A⟩ | ⟨a1, A⟩ | ⟨a1, a2, A⟩
  · rcases okN_cases b with ⟨c1, c2, C⟩ | ⟨c1, C⟩ | ⟨c1, c2, C⟩
    · have P := hid (gcdV_yes (a := a) (b := b) (by simp [A, C]))
      go_enter Try.func4, Try.ntmps4
      go_wp2_with (first | (go_at_call 6; refine (l1Number_any _ _).mono ?_; rintro e w' ⟨rfl, rfl⟩) | (go_at_call 7; refine (l1Gcd_any _ _ (by omega) (by omega) (by omega) (by omega) _).mono ?_; rintro e w' ⟨rfl, rfl⟩))
      go_ret
      exact ⟨retI P.out.symm, rfl⟩
    all_goals
      have P := hid (gcdV_no (a := a) (b := b) (by simp [C]))
      go_enter Try.func4, Try.ntmps4
      go_wp2_with (first | (go_at_call 6; refine (l1Number_any _ _).mono ?_; rintro e w' ⟨rfl, rfl⟩))
      go_ret
      exact ⟨retI P.out.symm, rfl⟩
  all_goals
    have P := hid (gcdV_no (a := a) (b := b) (by simp [A]))
    go_enter Try.func4, Try.ntmps4
    go_wp2_with (first | (go_at_call 6; refine (l1Number_any _ _).mono ?_; rintro e w' ⟨rfl, rfl⟩))
    go_ret
    exact ⟨retI P.out.symm, rfl⟩



end Go.Proofs.Ytehjiejijlboeac
