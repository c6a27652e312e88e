/-
  Plain arithmetic: what the test of primes says; Fermat's theorem by the binomials; Euler's power is 0, 1 or -1.
-/
import Derived.Test.YtjabklpnohfjpabQBun0
set_option linter.unusedVariables false
namespace Go.Proofs.Ytjabklpnohfjpab

theorem primeGo_no : ∀ f p n d, primeGo f p n = true → p ≤ d → d < p + f → d * d ≤ n → n % d ≠ 0
  | 0, p, n, d, _, h1, h2, _ => by omega
  | f + 1, p, n, d, h, h1, h2, h3 => by
    unfold primeGo at h
    by_cases hp : p * p ≤ n
    · rw [if_pos hp] at h
      by_cases hd : n % p = 0
      · rw [if_pos hd] at h; cases h
      · rw [if_neg hd] at h
        by_cases e : d = p
        · rw [e]; exact hd
        · exact primeGo_no f (p + 1) n d h (by omega) (by omega) h3
    · exfalso
      have := Nat.mul_le_mul h1 h1
      omega

theorem primeN_bd {p : Nat} (h : primeN p = true) : 2 ≤ p ∧ p ≤ 5000 ∧ primeGo 70 2 p = true := by
  unfold primeN at h
  simp at h
  exact ⟨h.1, h.2.1, h.2.2⟩

theorem primeN_no {p d : Nat} (h : primeN p = true) (h2 : 2 ≤ d) (h3 : d * d ≤ p) : p % d ≠ 0 := by
  obtain ⟨_, hb, hg⟩ := primeN_bd h
  have := sq_le h3 hb
  exact primeGo_no 70 2 p d hg h2 (by omega) h3

theorem primeN_dvd {p d : Nat} (h : primeN p = true) (hd : d ∣ p) : d = 1 ∨ d = p := by
  obtain ⟨h2, _, _⟩ := primeN_bd h
  obtain ⟨c, hc⟩ := hd
  by_cases d1 : d = 1
  · exact .inl d1
  · by_cases c1 : c = 1
    · subst c1; right; omega
    · exfalso
      have d0 : d ≠ 0 := by rintro rfl; omega
      have c0 : c ≠ 0 := by rintro rfl; omega
      by_cases hle : d ≤ c
      · refine primeN_no h (show 2 ≤ d by omega) ?_ (by rw [hc]; exact Nat.mul_mod_right d c)
        rw [hc]; exact Nat.mul_le_mul (Nat.le_refl _) hle
      · refine primeN_no h (show 2 ≤ c by omega) ?_ (by rw [hc]; exact Nat.mul_mod_left d c)
        rw [hc]; exact Nat.mul_le_mul (by omega) (Nat.le_refl _)

theorem prime_coprime {p a : Nat} (h : primeN p = true) (ha : ¬ p ∣ a) : Nat.Coprime p a := by
  rcases primeN_dvd h (Nat.gcd_dvd_left p a) with hg | hg
  · exact hg
  · exfalso; apply ha; rw [← hg]; exact Nat.gcd_dvd_right p a

theorem prime_mul {p a b : Nat} (h : primeN p = true) (hd : p ∣ a * b) : p ∣ a ∨ p ∣ b := by
  by_cases ha : p ∣ a
  · exact .inl ha
  · exact .inr ((prime_coprime h ha).dvd_of_dvd_mul_left hd)

/-- the binomials -/
def bin : Nat → Nat → Nat
  | _, 0 => 1
  | 0, _ + 1 => 0
  | n + 1, k + 1 => bin n k + bin n (k + 1)
theorem bin_zero (n : Nat) : bin n 0 = 1 := by cases n <;> rfl
theorem bin_succ (n k : Nat) : bin (n + 1) (k + 1) = bin n k + bin n (k + 1) := rfl
theorem bin_big : ∀ n k, n < k → bin n k = 0
  | 0, k + 1, _ => rfl
  | n + 1, k + 1, h => by rw [bin_succ, bin_big n k (by omega), bin_big n (k + 1) (by omega)]
theorem bin_self : ∀ n, bin n n = 1
  | 0 => rfl
  | n + 1 => by rw [bin_succ, bin_self n, bin_big n (n + 1) (by omega)]
theorem bin_mul : ∀ n k, (k + 1) * bin (n + 1) (k + 1) = (n + 1) * bin n k
  | 0, 0 => rfl
  | 0, k + 1 => by rw [bin_big 1 (k + 2) (by omega), bin_big 0 (k + 1) (by omega)]; rfl
  | n + 1, 0 => by
    have ih := bin_mul n 0
    rw [bin_succ (n + 1) 0]
    simp only [bin_zero] at *
    omega
  | n + 1, k + 1 => by
    have i1 := bin_mul n k
    have i2 := bin_mul n (k + 1)
    have e1 := bin_succ n k
    have e3 := bin_succ (n + 1) (k + 1)
    rw [e3]
    rw [Nat.mul_add, i2]
    have : (k + 1 + 1) * bin (n + 1) (k + 1) = (n + 1) * bin n k + bin (n + 1) (k + 1) := by rw [Nat.succ_mul, i1]
    rw [this]
    rw [Nat.succ_mul (n + 1) (bin (n + 1) (k + 1)), e1, Nat.mul_add]
    omega

def bsum (n a : Nat) : Nat → Nat
  | 0 => 0
  | m + 1 => bsum n a m + bin n m * a ^ m
theorem bsum_step (n a : Nat) : ∀ m, bsum (n + 1) a (m + 1) = bsum n a (m + 1) + a * bsum n a m
  | 0 => by simp [bsum, bin_zero]
  | m + 1 => by
    rw [bsum, bsum_step n a m, bin_succ, Nat.add_mul]
    conv => rhs; rw [bsum]
    rw [show bsum n a (m + 1) = bsum n a m + bin n m * a ^ m from rfl, Nat.mul_add, Nat.pow_succ]
    have e : bin n m * (a ^ m * a) = a * (bin n m * a ^ m) := by rw [← Nat.mul_assoc, Nat.mul_comm]
    rw [e]
    omega
theorem bsum_pow (a : Nat) : ∀ n, bsum n a (n + 1) = (a + 1) ^ n
  | 0 => by simp [bsum, bin_zero]
  | n + 1 => by
    rw [bsum_step, show bsum n a (n + 2) = bsum n a (n + 1) + bin n (n + 1) * a ^ (n + 1) from rfl, bin_big n (n + 1) (by omega), bsum_pow a n, Nat.zero_mul, show (a + 1) ^ (n + 1) = (a + 1) ^ n * (a + 1) from rfl, Nat.mul_add]
    have := Nat.mul_comm a ((a + 1) ^ n)
    omega
theorem bin_dvd {p k : Nat} (h : primeN p = true) (h1 : 1 ≤ k) (h2 : k < p) : p ∣ bin p k := by
  obtain ⟨q, rfl⟩ : ∃ q, p = q + 1 := ⟨p - 1, by omega⟩
  obtain ⟨j, rfl⟩ : ∃ j, k = j + 1 := ⟨k - 1, by omega⟩
  have e := bin_mul q j
  have hd : (q + 1) ∣ (j + 1) * bin (q + 1) (j + 1) := by rw [e]; exact Nat.dvd_mul_right _ _
  rcases prime_mul h hd with hx | hx
  · have := Nat.le_of_dvd (by omega) hx; omega
  · exact hx
theorem bsum_mod {p : Nat} (a : Nat) (h : primeN p = true) : ∀ m, 1 ≤ m → m ≤ p → bsum p a m % p = 1
  | 0, h1, _ => by omega
  | 1, _, _ => by
    have := (primeN_bd h).1
    simp [bsum, bin_zero]
    exact Nat.mod_eq_of_lt (by omega)
  | m + 2, _, h2 => by
    have ih := bsum_mod a h (m + 1) (by omega) (by omega)
    rw [show bsum p a (m + 2) = bsum p a (m + 1) + bin p (m + 1) * a ^ (m + 1) from rfl]
    have hd : p ∣ bin p (m + 1) * a ^ (m + 1) := Nat.dvd_trans (bin_dvd h (by omega) (by omega)) (Nat.dvd_mul_right _ _)
    rw [Nat.add_mod, Nat.mod_eq_zero_of_dvd hd, ih, Nat.add_zero]
    have := (primeN_bd h).1
    exact Nat.mod_eq_of_lt (by omega)
theorem fermat_step {p : Nat} (a : Nat) (h : primeN p = true) : (a + 1) ^ p % p = (a ^ p + 1) % p := by
  have := (primeN_bd h).1
  rw [← bsum_pow a p, show bsum p a (p + 1) = bsum p a p + bin p p * a ^ p from rfl, bin_self, Nat.one_mul, Nat.add_mod, bsum_mod a h p (by omega) (Nat.le_refl _), Nat.add_comm, Nat.add_mod (a ^ p) 1]
  rw [Nat.mod_eq_of_lt (show 1 < p by omega)]
theorem fermat {p : Nat} (h : primeN p = true) : ∀ a, a ^ p % p = a % p
  | 0 => by
    have := (primeN_bd h).1
    rw [Nat.zero_pow (by omega)]
  | a + 1 => by rw [fermat_step a h, Nat.add_mod, fermat h a, ← Nat.add_mod]

theorem euler_three {p : Nat} (h : primeN p = true) (h3 : 3 ≤ p) (r : Nat) : pw r ((p - 1) / 2) p = 0 ∨ pw r ((p - 1) / 2) p = 1 ∨ pw r ((p - 1) / 2) p = p - 1 := by
  have hodd : p % 2 = 1 := by
    have := primeN_no h (show 2 ≤ 2 by omega)
    by_cases h4 : 2 * 2 ≤ p
    · have := this h4; omega
    · omega
  obtain ⟨x, hx⟩ : ∃ x, x = pw r ((p - 1) / 2) p := ⟨_, rfl⟩
  rw [← hx]
  have hxp : x < p := by rw [hx]; exact Nat.mod_lt _ (by omega)
  have hf := fermat h r
  -- r * (x * x) = r, up to p
  have h1 : r * (x * x) % p = r % p := by
    rw [← hf, hx]
    unfold pw
    rw [Nat.mul_mod, ← Nat.mul_mod (r ^ ((p - 1) / 2)), ← Nat.mul_mod, ← Nat.pow_add, Nat.mul_comm, ← Nat.pow_succ]
    congr 2
    omega
  by_cases hr : p ∣ r
  · left
    rw [hx]
    unfold pw
    refine Nat.mod_eq_zero_of_dvd (Nat.dvd_trans hr ?_)
    obtain ⟨k, hk⟩ : ∃ k, (p - 1) / 2 = k + 1 := ⟨(p - 1) / 2 - 1, by omega⟩
    rw [hk, Nat.pow_succ]
    exact Nat.dvd_mul_left _ _
  · right
    by_cases hx0 : x = 0
    · exfalso
      apply hr
      rw [hx0] at h1
      simp at h1
      exact Nat.dvd_of_mod_eq_zero h1.symm
    · -- p divides r * (x * x - 1) = r * ((x - 1) * (x + 1))
      have h2 : p ∣ r * (x * x) - r := Nat.dvd_of_mod_eq_zero (Nat.sub_mod_eq_zero_of_mod_eq h1)
      have h4 : r * (x * x) - r = r * ((x - 1) * (x + 1)) := by
        obtain ⟨y, rfl⟩ : ∃ y, x = y + 1 := ⟨x - 1, by omega⟩
        have e : (y + 1) * (y + 1) = (y + 1 - 1) * (y + 1 + 1) + 1 := by
          rw [Nat.add_sub_cancel]
          simp only [Nat.mul_add, Nat.add_mul]
          omega
        rw [e, Nat.mul_add, Nat.mul_one, Nat.add_sub_cancel]
      rw [h4] at h2
      rcases prime_mul h h2 with h5 | h5
      · exact absurd h5 hr
      · rcases prime_mul h h5 with h6 | h6
        · left
          by_cases h7 : x - 1 = 0
          · omega
          · have := Nat.le_of_dvd (by omega) h6; omega
        · right
          have := Nat.le_of_dvd (by omega) h6; omega

theorem res_same {p : Nat} (h : primeN p = true) (h3 : 3 ≤ p) (r : Nat) : resM r p = resN r p := by
  unfold resM resN
  rcases euler_three h h3 r with e | e | e
  · rw [e, if_pos rfl, if_neg (by omega)]; rfl
  · rw [e, if_neg (by omega), if_pos rfl, if_neg (by omega)]; rfl
  · rw [e, if_neg (by omega), if_neg (by omega), if_pos rfl]

end Go.Proofs.Ytjabklpnohfjpab
