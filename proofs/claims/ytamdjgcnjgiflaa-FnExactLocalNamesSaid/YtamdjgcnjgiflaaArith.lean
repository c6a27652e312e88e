/-
  Contracts of chapter 1's searches (program and model): powers, inverses, roots, divisors, primes by trial.
-/
import Derived.Test.YtamdjgcnjgiflaaLoops
set_option linter.unusedVariables false
namespace Go.Proofs.Ytamdjgcnjgiflaa
open Go.RowKit



def optV : Option Nat → Value
  | some x => .tuple #[.int .i64 x, .bool true]
  | none => .tuple #[.int .i64 0, .bool false]
/-- what RootMod answers -/
def rootV (n m : Int) : Value := optV (if okN n && inR m 1 5000 then rootF (n % m).toNat m.toNat else none)
theorem rootV_yes {n m : Int} (h : (okN n && inR m 1 5000) = true) : rootV n m = optV (rootF (n % m).toNat m.toNat) := by unfold rootV; rw [if_pos h]
theorem rootV_no {n m : Int} (h : (okN n && inR m 1 5000) = false) : rootV n m = .tuple #[.int .i64 0, .bool false] := by unfold rootV; rw [if_neg (by rw [h]; decide)]; rfl
/-- what InverseMod answers -/
def invV (n m : Int) : Value := optV (if okN n && inR m 2 5000 then invF (n % m).toNat m.toNat else none)
theorem invV_yes {n m : Int} (h : (okN n && inR m 2 5000) = true) : invV n m = optV (invF (n % m).toNat m.toNat) := by unfold invV; rw [if_pos h]
theorem invV_no {n m : Int} (h : (okN n && inR m 2 5000) = false) : invV n m = .tuple #[.int .i64 0, .bool false] := by unfold invV; rw [if_neg (by rw [h]; decide)]; rfl
theorem optV_form (o : Option Nat) : ∃ (x : Int) (b : Bool), optV o = .tuple #[.int .i64 x, .bool b] := by
  cases o with
  | none => exact ⟨0, false, rfl⟩
  | some x => exact ⟨x, true, rfl⟩
theorem rootV_form (n m : Int) : ∃ (x : Int) (b : Bool), rootV n m = .tuple #[.int .i64 x, .bool b] := optV_form _
theorem invV_form (n m : Int) : ∃ (x : Int) (b : Bool), invV n m = .tuple #[.int .i64 x, .bool b] := optV_form _
theorem retV {a b : Value} (h : a = b) : Ending.returned a = .returned b := by rw [h]

set_option maxHeartbeats 400000 in
theorem rootMod_any (n m : Int) (w : World) : Calls Try.prog 41 #[.int .i64 n, .int .i64 m] w fun en w' => en = .returned (rootV n m) ∧ w = w' := by
  rcases okN_cases n with ⟨a1, a2, A⟩ | ⟨a1, A⟩ | ⟨a1, a2, A⟩
  · rcases inR_cases m 1 5000 with ⟨c1, c2, C⟩ | ⟨c1, C⟩ | ⟨c1, c2, C⟩
    · have P := hid (rootV_yes (n := n) (m := m) (by simp [A, C]))
      obtain ⟨M, rfl⟩ := Int.eq_ofNat_of_zero_le (show 0 ≤ m by omega)
      obtain ⟨B, hB⟩ := Int.eq_ofNat_of_zero_le (Int.emod_nonneg n (show (M : Int) ≠ 0 by omega))
      have HB := hid hB
      rw [hB] at P
      simp only [Int.toNat_natCast] at P
      clear hB
      go_enter Try.func41, Try.ntmps41
      go_wp2_with (first | (go_at_call 61; refine (valid_any _ _).mono ?_; rintro e w' ⟨rfl, rfl⟩) | (go_at_call 79; refine (modulusValid_any _ _).mono ?_; rintro e w' ⟨rfl, rfl⟩) | (go_at_call 80; refine (rest_any _ _ (by omega) (by omega) (by omega) (by omega) _).mono ?_; rw [HB.out]; rintro e w' ⟨rfl, rfl⟩))
      go_loop [7] (fun k => ∃ (K : Nat), k = .int .i64 K ∧ K ≤ M ∧ Hid (∀ j : Nat, j < K → j * j % M ≠ B)) (fun k => (5001 - intOf k).toNat)
      case atStart => exact ⟨0, rfl, by omega, hid (by omega)⟩
      case round =>
        obtain ⟨K, rfl, hK, HV⟩ := hrel
        have hKK := mul_bd (show K ≤ 5000 by omega) (show K ≤ 5000 by omega)
        by_cases hle : K ≤ M / 2
        · by_cases hr : K * K % M = B
          · have T : ((K : Int) * K % M == B) = true := by rw [beq_iff_eq]; exact_mod_cast hr
            have F : rootF B M = some K := find_at (by omega) (by simp [hr]) (fun j hj => by rw [beq_eq_false_iff_ne]; exact HV.out j hj)
            have HF := hid F
            clear hr F
            go_wp2
            go_ret2
            exact ⟨retV (by rw [P.out, HF.out]; rfl), rfl⟩
          · have T : ((K : Int) * K % M == B) = false := by rw [beq_eq_false_iff_ne]; exact_mod_cast hr
            have HR := hid hr
            clear hr
            go_wp2
            go_round
            case rel => exact ⟨K + 1, by go_num, by omega, hid (by intro j hj; by_cases e : j = K; (· rw [e]; exact HR.out); (· exact HV.out j (by omega)))⟩
            case measure => simp only [intOf]; omega
        · go_wp2
          go_ret2
          exact ⟨retV (by rw [P.out, rootF_none (fun j hj => HV.out j (by omega))]; rfl), rfl⟩
    all_goals
      have P := hid (rootV_no (n := n) (m := m) (by simp [C]))
      go_enter Try.func41, Try.ntmps41
      go_wp2_with (first | (go_at_call 61; refine (valid_any _ _).mono ?_; rintro e w' ⟨rfl, rfl⟩) | (go_at_call 79; refine (modulusValid_any _ _).mono ?_; rintro e w' ⟨rfl, rfl⟩))
      go_ret2
      exact ⟨retV (by rw [P.out]; rfl), rfl⟩
  all_goals
    have P := hid (rootV_no (n := n) (m := m) (by simp [A]))
    go_enter Try.func41, Try.ntmps41
    go_wp2_with (first | (go_at_call 61; refine (valid_any _ _).mono ?_; rintro e w' ⟨rfl, rfl⟩))
    go_ret2
    exact ⟨retV (by rw [P.out]; rfl), rfl⟩


end Go.Proofs.Ytamdjgcnjgiflaa
