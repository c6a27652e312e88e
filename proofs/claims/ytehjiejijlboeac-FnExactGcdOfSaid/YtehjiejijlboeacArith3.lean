/-
  Contracts of chapter 1's program: divisors and inverses by Euclid; the model's cores and residues.
-/
import Derived.Test.YtehjiejijlboeacArith2
import Derived.BigQuiet
set_option linter.unusedVariables false
namespace Go.Proofs.Ytehjiejijlboeac
open Go.RowKit

set_option maxHeartbeats 400000 in
theorem gcd_any (a b : Int) (w : World) : Calls Try.prog 5 #[.int .i64 a, .int .i64 b] w fun e w' => e = .returned (.int .i64 (gcdV a b)) ∧ ∃ k, w' = w.drewN k := by
  rcases okN_cases a with ⟨a1, a2, A⟩ | ⟨a1, A⟩ | ⟨a1, a2, A⟩
  · rcases okN_cases b with ⟨c1, c2, C⟩ | ⟨c1, C⟩ | ⟨c1, c2, C⟩
    · have P := hid (gcdV_yes (a := a) (b := b) (by simp [A, C]))
      go_enter Try.func5, Try.ntmps5
      go_wp2_with (first | (go_at_call 8; refine (valid_any _ _).mono ?_; rintro e w' ⟨rfl, rfl⟩) | (go_at_call 9; refine (size_any _ (by omega) (by omega) _).mono ?_; rintro e w' ⟨rfl, rfl⟩))
      go_loopw [5, 6] (fun x y wr => ∃ (X Y k : Nat), x = .int .i64 X ∧ y = .int .i64 Y ∧ X ≤ 1000000 ∧ Y ≤ 1000000 ∧ Hid (Nat.gcd X Y = Nat.gcd a.natAbs b.natAbs) ∧ wr = w.drewN k) (fun _ y _ => (intOf y).toNat)
      case atStart => exact ⟨_, _, 0, rfl, rfl, by omega, by omega, hid rfl, rfl⟩
      case round =>
        obtain ⟨X, Y, k, rfl, rfl, hX, hY, HV, rfl⟩ := hrel
        by_cases h0 : Y = 0
        · subst h0
          go_wp2
          go_ret
          exact ⟨retI (by rw [P.out, ← HV.out, Nat.gcd_zero_right]), k, rfl⟩
        · have T : ((Y : Int) != 0) = true := by rw [bne_iff_ne]; omega
          have hlt := Nat.mod_lt X (show Y > 0 by omega)
          go_wp2
          go_quiet (fail)
          go_wp2
          go_roundw
          case rel => exact ⟨Y, X % Y, _, rfl, vI (by push_cast; rfl), hY, by omega, hid (by rw [← HV.out, Nat.gcd_comm X Y, Nat.gcd_rec Y X, Nat.gcd_comm]), World.drewN_drewN ..⟩
          case measure => simp only [intOf]; omega
    all_goals
      have P := hid (gcdV_no (a := a) (b := b) (by simp [C]))
      go_enter Try.func5, Try.ntmps5
      go_wp2_with (first | (go_at_call 8; refine (valid_any _ _).mono ?_; rintro e w' ⟨rfl, rfl⟩))
      go_ret
      exact ⟨retI P.out.symm, 0, rfl⟩
  all_goals
    have P := hid (gcdV_no (a := a) (b := b) (by simp [A]))
    go_enter Try.func5, Try.ntmps5
    go_wp2_with (first | (go_at_call 8; refine (valid_any _ _).mono ?_; rintro e w' ⟨rfl, rfl⟩))
    go_ret
    exact ⟨retI P.out.symm, 0, rfl⟩


end Go.Proofs.Ytehjiejijlboeac
