/-
  Contracts: primes, valuations and residues of program and model.
-/
import Derived.Test.YtdidmblkknnglaaPrime
set_option linter.unusedVariables false
namespace Go.Proofs.Ytdidmblkknnglaa
open Go.RowKit

theorem primeI_bd {n : Int} (h : primeI n = true) : 2 ≤ n ∧ n ≤ 5000 := by
  unfold primeI primeN at h
  simp at h
  omega


def oddP (p : Int) : Bool := primeI p && decide (p ≠ 2)
theorem oddP_cases (p : Int) : (3 ≤ p ∧ p ≤ 5000 ∧ p ≠ 2 ∧ primeI p = true ∧ oddP p = true) ∨ (p = 2 ∧ oddP p = false) ∨ (p ≠ 2 ∧ primeI p = false ∧ oddP p = false) := by
  unfold oddP
  by_cases h2 : p = 2
  · exact .inr (.inl ⟨h2, by simp [h2]⟩)
  · cases h : primeI p with
    | true => have := primeI_bd h; exact .inl ⟨by omega, by omega, h2, rfl, by simp [h2]⟩
    | false => exact .inr (.inr ⟨h2, rfl, rfl⟩)

theorem oddPrime_any (p : Int) (w : World) : Calls Try.prog 105 #[.int .i64 p] w fun e w' => e = .returned (.bool (oddP p)) ∧ Below w.heap.size w w' := by
  rcases oddP_cases p with ⟨h3, h5, h2, hp, H⟩ | ⟨rfl, H⟩ | ⟨h2, hp, H⟩
  · have T : (p != 2) = true := by rw [bne_iff_ne]; exact h2
    have HP := hid H
    clear h2 H
    go_enter Try.func105, Try.ntmps105
    go_wp2_with (go_at_call 72; refine (prime_any _ _).mono ?_; rintro e w' ⟨rfl, hb⟩)
    go_ret
    exact ⟨retB HP.out.symm, hb⟩
  · have HP := hid H
    go_enter Try.func105, Try.ntmps105
    go_wp2
    go_ret
    exact ⟨retB HP.out.symm, Below.refl _ _⟩
  · have T : (p != 2) = true := by rw [bne_iff_ne]; exact h2
    have HP := hid H
    clear h2 H
    go_enter Try.func105, Try.ntmps105
    go_wp2_with (go_at_call 72; refine (prime_any _ _).mono ?_; rintro e w' ⟨rfl, hb⟩)
    go_ret
    exact ⟨retB HP.out.symm, hb⟩

/-- what ValuationOf answers -/
def valV (n p : Int) : Int := if factB n && primeI p then (val n.natAbs p.toNat : Nat) else -1
theorem valV_yes {n p : Int} (h1 : factB n = true) (h2 : primeI p = true) : valV n p = (val n.natAbs p.toNat : Nat) := by unfold valV; rw [if_pos (by rw [h1, h2]; rfl)]
theorem valV_no {n p : Int} (h : factB n = false ∨ primeI p = false) : valV n p = -1 := by unfold valV; rw [if_neg (by rcases h with h | h <;> simp [h])]
theorem factB_cases (n : Int) : (-5000 ≤ n ∧ n ≤ 5000 ∧ n ≠ 0 ∧ okN n = true ∧ factB n = true) ∨ (n = 0 ∧ factB n = false) ∨ (n ≠ 0 ∧ okN n = false ∧ factB n = false) := by
  rcases okN_cases n with ⟨h1, h2, H⟩ | ⟨h1, H⟩ | ⟨h1, h2, H⟩
  · by_cases h0 : n = 0
    · exact .inr (.inl ⟨h0, factB_no (by omega)⟩)
    · exact .inl ⟨h1, h2, h0, H, factB_yes h1 h2 h0⟩
  · exact .inr (.inr ⟨by omega, H, factB_no (by omega)⟩)
  · exact .inr (.inr ⟨by omega, H, factB_no (by omega)⟩)



theorem l1Residue_any (n p : Int) (h1 : -1000000000000000 ≤ n) (h2 : n ≤ 1000000000000000) (hp : 3 ≤ p) (hp2 : p ≤ 5000) (w : World) :
    Calls Try.prog 93 #[.int .i64 n, .int .i64 p] w fun e w' => e = .returned (.int .i64 (resN (n % p).toNat p.toNat)) ∧ w = w' := by
  obtain ⟨x, hx⟩ : ∃ x, x = pw (n % p).toNat ((p - 1) / 2).toNat p.toNat := ⟨_, rfl⟩
  have hx2 : x = pw (n % p).toNat ((p.toNat - 1) / 2) p.toNat := by rw [hx]; congr 1; omega
  have HX := hid hx
  have hxb : x < p.toNat := by rw [hx]; exact Nat.mod_lt _ (by omega)
  by_cases h : x = p.toNat - 1
  · have T : ((x : Int) == p - 1) = true := by rw [beq_iff_eq]; omega
    have HR : Hid (resN (n % p).toNat p.toNat = -1) := by show _ = _; unfold resN; rw [← hx2, if_pos h]
    clear hx hx2 h
    go_enter Try.func93, Try.ntmps93
    go_wp2_with (go_at_call 104; refine (l1Power_any _ _ _ (by omega) (by omega) (by omega) (by omega) (by omega) (by omega) _).mono ?_; rw [← HX.out]; rintro e w' ⟨rfl, rfl⟩)
    go_ret
    exact ⟨retI HR.out.symm, rfl⟩
  · have T : ((x : Int) == p - 1) = false := by rw [beq_eq_false_iff_ne]; omega
    have HR : Hid (resN (n % p).toNat p.toNat = x) := by show _ = _; unfold resN; rw [← hx2, if_neg h]
    clear hx hx2 h
    go_enter Try.func93, Try.ntmps93
    go_wp2_with (go_at_call 104; refine (l1Power_any _ _ _ (by omega) (by omega) (by omega) (by omega) (by omega) (by omega) _).mono ?_; rw [← HX.out]; rintro e w' ⟨rfl, rfl⟩)
    go_ret
    exact ⟨retI HR.out.symm, rfl⟩

/-- what ResidueIs answers -/
def resV (n p : Int) : Int := if okN n && oddP p then resN (n % p).toNat p.toNat else -2
theorem resV_yes {n p : Int} (h1 : okN n = true) (h2 : oddP p = true) : resV n p = resN (n % p).toNat p.toNat := by unfold resV; rw [if_pos (by rw [h1, h2]; rfl)]
theorem resV_no {n p : Int} (h : okN n = false ∨ oddP p = false) : resV n p = -2 := by unfold resV; rw [if_neg (by rcases h with h | h <;> simp [h])]


end Go.Proofs.Ytdidmblkknnglaa
