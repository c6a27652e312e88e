/-
  Plain arithmetic behind the laws on residues and Jacobi's symbol.
-/
import Derived.Test.YtdidmblkknnglaaLawMath
set_option linter.unusedVariables false
namespace Go.Proofs.Ytdidmblkknnglaa
open Go.RowKit

theorem emod_toNat_mul (n k : Int) (p : Nat) (hp : 0 < p) : (n * k % (p : Int)).toNat = (n % (p : Int)).toNat * (k % (p : Int)).toNat % p := by
  have h1 := Int.emod_nonneg n (show (p : Int) ≠ 0 by omega)
  have h2 := Int.emod_nonneg k (show (p : Int) ≠ 0 by omega)
  obtain ⟨a, ha⟩ := Int.eq_ofNat_of_zero_le h1
  obtain ⟨b, hb⟩ := Int.eq_ofNat_of_zero_le h2
  rw [Int.mul_emod, ha, hb]
  have e : ((a : Int) * (b : Int)) % (p : Int) = ((a * b % p : Nat) : Int) := by push_cast; rfl
  rw [e]
  simp only [Int.toNat_natCast]
theorem resN_mulI {p : Nat} (h : primeN p = true) (h3 : 3 ≤ p) (n k : Int) : resN (n * k % (p : Int)).toNat p = resN (n % (p : Int)).toNat p * resN (k % (p : Int)).toNat p := by
  have lt : ∀ x : Int, (x % (p : Int)).toNat < p := fun x => by
    have := Int.emod_lt_of_pos x (show (0 : Int) < p by omega)
    have := Int.emod_nonneg x (show (p : Int) ≠ 0 by omega)
    omega
  rw [emod_toNat_mul n k p (by omega), resN_mul h h3, Nat.mod_eq_of_lt (lt n), Nat.mod_eq_of_lt (lt k)]

theorem jm_mul (a b r s : Int) : ∀ k, jm (a * b) (r * s) k = jm a r k * jm b s k
  | 0 => rfl
  | k + 1 => by
    unfold jm
    rw [jm_mul a b r s k, Int.mul_assoc, Int.mul_assoc, Int.mul_left_comm (jm b s k) r s]
theorem jac_fold_mul (n k : Int) : ∀ l : List (Nat × Nat), (∀ x ∈ l, primeN x.1 = true ∧ 3 ≤ x.1) → ∀ a b : Int,
    l.foldl (fun a x => jm a (resN (n * k % (x.1 : Int)).toNat x.1) x.2) (a * b) = l.foldl (fun a x => jm a (resN (n % (x.1 : Int)).toNat x.1) x.2) a * l.foldl (fun a x => jm a (resN (k % (x.1 : Int)).toNat x.1) x.2) b
  | [], _, a, b => rfl
  | x :: l, hl, a, b => by
    obtain ⟨hp, h3⟩ := hl x (by simp)
    simp only [List.foldl_cons]
    rw [resN_mulI hp h3, jm_mul]
    exact jac_fold_mul n k l (fun y hy => hl y (by simp [hy])) _ _
theorem jac_mul {m : Nat} (h1 : 1 ≤ m) (h2 : m ≤ 5000) (ho : m % 2 = 1) (n k : Int) : jacF (n * k) (ppow m) = jacF n (ppow m) * jacF k (ppow m) := by
  have := jac_fold_mul n k (ppow m) (odd_pp h1 h2 ho) 1 1
  rw [Int.mul_one] at this
  exact this
theorem jac_fold_period (n m : Int) : ∀ l : List (Nat × Nat), (∀ x ∈ l, (x.1 : Int) ∣ m) → ∀ a : Int,
    l.foldl (fun a x => jm a (resN ((n + m) % (x.1 : Int)).toNat x.1) x.2) a = l.foldl (fun a x => jm a (resN (n % (x.1 : Int)).toNat x.1) x.2) a
  | [], _, a => rfl
  | x :: l, hl, a => by
    simp only [List.foldl_cons]
    have e : (n + m) % (x.1 : Int) = n % (x.1 : Int) := by
      obtain ⟨c, hc⟩ := hl x (by simp)
      rw [hc, Int.add_mul_emod_self_left]
    rw [e]
    exact jac_fold_period n m l (fun y hy => hl y (by simp [hy])) _
theorem jac_period {m : Nat} (h1 : 1 ≤ m) (h2 : m ≤ 5000) (n : Int) : jacF (n + m) (ppow m) = jacF n (ppow m) :=
  jac_fold_period n m _ (fun x hx => by
    have := (pp_mem h1 h2 hx).2.2.2
    exact Int.natCast_dvd_natCast.2 (Nat.dvd_of_mod_eq_zero this)) 1

def suppOk (m : Nat) : Bool := decide (m % 2 = 0) || (((jacF (-1) (ppow m) == 1) == decide (m % 4 = 1)) && ((jacF 2 (ppow m) == 1) == (decide (m % 8 = 1) || decide (m % 8 = 7))))
theorem suppOk_all : (List.range 120).all suppOk = true := by decide +kernel
theorem supp {m : Nat} (h : m ≤ 119) (ho : m % 2 = 1) : (jacF (-1) (ppow m) == 1) = decide (m % 4 = 1) ∧ (jacF 2 (ppow m) == 1) = (decide (m % 8 = 1) || decide (m % 8 = 7)) := by
  have := List.all_eq_true.1 suppOk_all m (List.mem_range.2 (by omega))
  unfold suppOk at this
  rw [decide_eq_false (by omega)] at this
  simp only [Bool.false_or, Bool.and_eq_true, beq_iff_eq] at this
  exact ⟨this.1, this.2⟩

def eulerOk (p : Nat) : Bool := (List.range p).all (fun r => ((rootF r p).isSome == (resN r p != -1)) && ((resN r p == 0) == decide (r = 0)))
theorem eulerOk_all : [3, 5, 7, 11, 13, 97].all eulerOk = true := by decide +kernel
theorem euler_small {p r : Nat} (hp : p = 3 ∨ p = 5 ∨ p = 7 ∨ p = 11 ∨ p = 13 ∨ p = 97) (hr : r < p) : (rootF r p).isSome = (resN r p != -1) ∧ (resN r p == 0) = decide (r = 0) := by
  have := List.all_eq_true.1 eulerOk_all p (by simp; omega)
  have := List.all_eq_true.1 this r (List.mem_range.2 hr)
  simp only [Bool.and_eq_true, beq_iff_eq] at this
  exact this
theorem odd_drawn {p : Int} (h : prOk p) (ho : oddP p = true) : p = 3 ∨ p = 5 ∨ p = 7 ∨ p = 11 ∨ p = 13 ∨ p = 97 := by
  unfold prOk at h
  rcases h with rfl | rfl | rfl | rfl | rfl | rfl | rfl | rfl | rfl | rfl | rfl | rfl
  all_goals first | omega | (exact absurd ho (by decide))

end Go.Proofs.Ytdidmblkknnglaa
