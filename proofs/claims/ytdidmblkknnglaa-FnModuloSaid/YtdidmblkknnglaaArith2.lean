/-
  Contracts of chapter 1's model: divisors, inverses, primes by trial, cores, residues.
-/
import Derived.Test.YtdidmblkknnglaaArith
set_option linter.unusedVariables false
namespace Go.Proofs.Ytdidmblkknnglaa
open Go.RowKit

def gcdV (a b : Int) : Int := if okN a && okN b then (Nat.gcd a.natAbs b.natAbs : Nat) else -1
theorem gcdV_yes {a b : Int} (h : (okN a && okN b) = true) : gcdV a b = (Nat.gcd a.natAbs b.natAbs : Nat) := by unfold gcdV; rw [if_pos h]
theorem gcdV_no {a b : Int} (h : (okN a && okN b) = false) : gcdV a b = -1 := by unfold gcdV; rw [if_neg (by rw [h]; decide)]


theorem primeI_no {n : Int} (h : n < 2 ∨ 5000 < n) : primeI n = false := by
  unfold primeI primeN
  rcases h with h | h
  · simp [show ¬ 2 ≤ n.toNat by omega]
  · simp [show ¬ n.toNat ≤ 5000 by omega]
theorem primeI_yes {n : Int} (h1 : 2 ≤ n) (h2 : n ≤ 5000) : primeI n = primeGo 70 2 n.toNat := by
  unfold primeI primeN
  simp [show 2 ≤ n.toNat by omega, show n.toNat ≤ 5000 by omega]

set_option maxHeartbeats 400000 in
theorem primeIsS_any (n : Int) (w : World) : Calls Try.prog 75 #[.int .i64 n] w fun e w' => e = .returned (.bool (primeI n)) ∧ w = w' := by
  rcases inR_cases n 2 5000 with ⟨h1, h2, H⟩ | ⟨h1, H⟩ | ⟨h1, h2, H⟩
  · have P := hid (primeI_yes h1 h2)
    obtain ⟨N, rfl⟩ := Int.eq_ofNat_of_zero_le (show 0 ≤ n by omega)
    go_enter Try.func75, Try.ntmps75
    go_wp2_with (go_at_call 76; refine (l6In_any _ _ _ _).mono ?_; rintro e w' ⟨rfl, rfl⟩)
    go_loop [3] (fun k => ∃ (K f : Nat), k = .int .i64 K ∧ 2 ≤ K ∧ K ≤ 71 ∧ K + f = 72 ∧ Hid (primeGo f K N = primeGo 70 2 N)) (fun k => (71 - intOf k).toNat)
    case atStart => exact ⟨2, 70, rfl, by omega, by omega, rfl, hid rfl⟩
    case round =>
      obtain ⟨K, f, rfl, hK2, hK, hf, HV⟩ := hrel
      have hKK := mul_bd (show K ≤ 71 by omega) (show K ≤ 71 by omega)
      obtain ⟨g, rfl⟩ : ∃ g, f = g + 1 := ⟨f - 1, by omega⟩
      by_cases hle : (K : Int) * K ≤ N
      · have hle' : K * K ≤ N := by exact_mod_cast hle
        have hK70 := sq_le hle' (by omega)
        by_cases hd : N % K = 0
        · have T : ((N : Int) % K == 0) = true := by rw [beq_iff_eq]; exact_mod_cast hd
          have HE : Hid (primeGo (g + 1) K N = false) := by show _ = _; unfold primeGo; rw [if_pos hle', if_pos hd]
          clear hd hle'
          go_wp2
          go_ret
          exact ⟨retB (by rw [P.out]; exact HE.out.symm.trans HV.out), rfl⟩
        · have T : ((N : Int) % K == 0) = false := by rw [beq_eq_false_iff_ne]; exact_mod_cast hd
          have HE : Hid (primeGo (g + 1) K N = primeGo g (K + 1) N) := by show _ = _; conv => lhs; unfold primeGo
                                                                          rw [if_pos hle', if_neg hd]
          clear hd hle'
          go_wp2
          go_round
          case rel => exact ⟨K + 1, g, by go_num, by omega, by omega, by omega, hid (HE.out.symm.trans HV.out)⟩
          case measure => simp only [intOf]; omega
      · have hle' : ¬ K * K ≤ N := fun h => hle (by exact_mod_cast h)
        have HE : Hid (primeGo (g + 1) K N = true) := by show _ = _; unfold primeGo; rw [if_neg hle']
        clear hle'
        go_wp2
        go_ret
        exact ⟨retB (by rw [P.out]; exact HE.out.symm.trans HV.out), rfl⟩
  all_goals
    have P := hid (primeI_no (n := n) (by omega))
    go_enter Try.func75, Try.ntmps75
    go_wp2_with (go_at_call 76; refine (l6In_any _ _ _ _).mono ?_; rintro e w' ⟨rfl, rfl⟩)
    go_ret
    exact ⟨retB P.out.symm, rfl⟩


end Go.Proofs.Ytdidmblkknnglaa
