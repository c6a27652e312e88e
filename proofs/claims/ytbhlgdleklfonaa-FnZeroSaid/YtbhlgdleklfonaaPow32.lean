/-
  The program's power of a prime, within 32.
-/
import Derived.Test.YtbhlgdleklfonaaBun0
set_option linter.unusedVariables false
namespace Go.Proofs.Ytbhlgdleklfonaa
open Go.RowKit

def pw32 (P : Nat) (k : Int) : Bool := decide (1 ≤ k) && decide (P ^ k.toNat ≤ 32)
theorem pow6 {P i : Nat} (hP : 2 ≤ P) (h : P ^ i ≤ 32) : i ≤ 6 := by
  rcases Nat.lt_or_ge 6 i with hi | hi
  · have h1 : 2 ^ 7 ≤ P ^ 7 := Nat.pow_le_pow_left hP 7
    have h2 : P ^ 7 ≤ P ^ i := Nat.pow_le_pow_right (by omega) hi
    omega
  · exact hi
theorem powerWithin32_any (P : Nat) (k : Int) (hP : 2 ≤ P) (hP5 : P ≤ 5000) (w : World) :
    Calls Try.prog 61 #[.int .i64 P, .int .i64 k, .int .i64 32] w fun e w' => (∃ x : Int, e = .returned (.tuple #[.int .i64 x, .bool (pw32 P k)]) ∧ (pw32 P k = true → x = ((P ^ k.toNat : Nat) : Int))) ∧ w = w' := by
  by_cases hk : 1 ≤ k
  · obtain ⟨K, rfl⟩ := Int.eq_ofNat_of_zero_le (show 0 ≤ k by omega)
    have HO : Hid (pw32 P (K : Int) = decide (P ^ K ≤ 32)) := hid (by unfold pw32; rw [decide_eq_true hk, Int.toNat_natCast, Bool.true_and])
    go_enter Try.func61, Try.ntmps61
    go_wp2_with fail
    go_loop [8, 10] (fun sp si => ∃ i A : Nat, si = .int .i64 i ∧ sp = .int .i64 A ∧ A ≤ 32 ∧ i ≤ 6 ∧ i ≤ K ∧ Hid (A = P ^ i)) (fun _ si => 7 - (intOf si).toNat)
    case atStart => exact ⟨0, 1, rfl, rfl, by omega, by omega, by omega, hid rfl⟩
    case round =>
      obtain ⟨i, A, rfl, rfl, hA, hi12, hiK, HA⟩ := hrel
      by_cases hlt : i < K
      · have hi0 : (i : Int) < (K : Int) := by omega
        have hAP := Nat.mul_le_mul hA hP5
        have eAP : (A : Int) * (P : Int) = ((A * P : Nat) : Int) := by push_cast; rfl
        have ap1 : 0 ≤ (A : Int) * (P : Int) := by rw [eAP]; omega
        have ap2 : (A : Int) * (P : Int) ≤ 25000000 := by rw [eAP]; omega
        have HS : Hid (A * P = P ^ (i + 1)) := hid (by rw [HA.out, Nat.pow_succ])
        have HE := hid eAP
        by_cases hle : A * P ≤ 32
        · have h12 := pow6 (i := i + 1) hP (by rw [← HS.out]; exact hle)
          have hng : ¬ (32 : Int) < (A : Int) * (P : Int) := by rw [eAP]; omega
          clear eAP
          go_wp2_with fail
          go_round
          case measure => simp only [intOf]; omega
          case rel => exact ⟨i + 1, A * P, by go_num, vI HE.out, hle, by omega, by omega, HS⟩
        · have hg : (32 : Int) < (A : Int) * (P : Int) := by rw [eAP]; omega
          have HN : Hid (pw32 P (K : Int) = false) := hid (by
            rw [HO.out]
            refine decide_eq_false fun h => hle ?_
            rw [HS.out]
            exact Nat.le_trans (Nat.pow_le_pow_right (by omega) hlt) h)
          clear eAP
          go_wp2_with fail
          go_ret2
          rw [HN.out]
          exact ⟨⟨0, rfl, fun h => by cases h⟩, rfl⟩
      · obtain rfl : i = K := by omega
        have HY : Hid (pw32 P (i : Int) = true) := hid (by rw [HO.out, ← HA.out]; exact decide_eq_true hA)
        clear hlt
        go_wp2_with fail
        go_ret2
        rw [HY.out]
        exact ⟨⟨A, rfl, fun _ => by rw [HA.out]; simp⟩, rfl⟩
  · have HN : Hid (pw32 P k = false) := hid (by unfold pw32; rw [decide_eq_false hk, Bool.false_and])
    have hk0 : ¬ (0 : Int) < k := by omega
    go_enter Try.func61, Try.ntmps61
    go_wp2_with fail
    go_loop [8, 10] (fun sp si => sp = .int .i64 1 ∧ si = .int .i64 0) (fun _ _ => 0)
    case atStart => exact ⟨rfl, rfl⟩
    case round =>
      obtain ⟨rfl, rfl⟩ := hrel
      go_wp2_with fail
      go_ret2
      rw [HN.out]
      refine ⟨⟨1, ?_, fun h => by cases h⟩, rfl⟩
      show Ending.returned (.tuple #[.int .i64 1, .bool (decide (1 ≤ k))]) = _
      rw [decide_eq_false (show ¬ 1 ≤ k by omega)]


end Go.Proofs.Ytbhlgdleklfonaa
