/-
  Plain arithmetic behind the laws of chapter 1.
-/
import Derived.Test.YtdclmjmefkgbbabQBun5
set_option linter.unusedVariables false
namespace Go.Proofs.Ytdclmjmefkgbbab
open Go.RowKit

/-- the numbers that are drawn -/
def numOk (x : Int) : Prop := (-118 ≤ x ∧ x ≤ 118) ∨ x = 5000 ∨ x = 5001 ∨ x = -5001 ∨ x = 4096 ∨ x = 3969
/-- the primes that are drawn, seldom others -/
def prOk (x : Int) : Prop := x = 0 ∨ x = 1 ∨ x = 4 ∨ x = -3 ∨ x = 97 ∨ x = 9 ∨ x = 2 ∨ x = 3 ∨ x = 5 ∨ x = 7 ∨ x = 11 ∨ x = 13

theorem pw_succ (b e m : Nat) : pw b (e + 1) m = pw b e m * b % m := by
  unfold pw
  rw [Nat.pow_succ, Nat.mod_mul_mod]
theorem pw_lt (b e : Nat) {m : Nat} (h : 0 < m) : pw b e m < m := Nat.mod_lt _ h
theorem pw_zero (b m : Nat) : pw b 0 m = 1 % m := rfl

/-- the power of a prime less 1 leaves 1 -/
theorem fermat_one {p k : Nat} (h : primeN p = true) (hk : ¬ p ∣ k) : pw k (p - 1) p = 1 := by
  have h2 := (primeN_bd h).1
  have hf := fermat h k
  obtain ⟨q, rfl⟩ : ∃ q, p = q + 1 := ⟨p - 1, by omega⟩
  rw [Nat.pow_succ, Nat.mul_comm] at hf
  have h1 : 1 ≤ k ^ q := by
    rcases Nat.eq_zero_or_pos (k ^ q) with h0 | h0
    · rw [h0] at hf
      simp at hf
      exact absurd (Nat.dvd_of_mod_eq_zero hf.symm) hk
    · exact h0
  have hd : (q + 1) ∣ k * k ^ q - k := Nat.dvd_of_mod_eq_zero (Nat.sub_mod_eq_zero_of_mod_eq hf)
  have e : k * k ^ q - k = k * (k ^ q - 1) := by rw [Nat.mul_sub, Nat.mul_one]
  rw [e] at hd
  rcases prime_mul h hd with h3 | h3
  · exact absurd h3 hk
  · unfold pw
    rw [Nat.add_sub_cancel]
    have h4 : (k ^ q - 1 + 1) % (q + 1) = (0 + 1) % (q + 1) := by rw [Nat.add_mod, Nat.mod_eq_zero_of_dvd h3]; simp
    rw [Nat.sub_add_cancel h1, Nat.zero_add] at h4
    rw [h4]
    exact Nat.mod_eq_of_lt (by omega)

theorem ppGo_of_prime : ∀ f p n, primeGo f p n = true → 2 ≤ n → 72 ≤ p + f → p ≤ 71 → n ≤ 5000 → ppGo f p n = [(n, 1)]
  | 0, p, n, _, _, hf, hp7, _ => by omega
  | f + 1, p, n, h, h2, hf, hp7, hn => by
    unfold primeGo at h
    unfold ppGo
    by_cases h1 : p * p ≤ n
    · rw [if_pos h1] at h ⊢
      by_cases hd : n % p = 0
      · rw [if_pos hd] at h; cases h
      · rw [if_neg hd] at h ⊢
        exact ppGo_of_prime f (p + 1) n h h2 (by omega) (by have := sq_le h1 hn; omega) hn
    · rw [if_neg h1, if_pos (by omega)]
theorem plist_prime {n : Nat} (h : primeN n = true) : plist n = [n] := by
  obtain ⟨h2, h5, hg⟩ := primeN_bd h
  rw [plist_eq, ppow, ppGo_of_prime 70 2 n hg h2 (by omega) (by omega) h5]
  rfl

/-- valuations add up -/
theorem val_mul {p : Nat} (h : primeN p = true) : ∀ (k a b : Nat), a + b ≤ k → 0 < a → 0 < b → val (a * b) p = val a p + val b p
  | 0, a, b, hk, ha, _ => by omega
  | k + 1, a, b, hk, ha, hb => by
    have h2 := (primeN_bd h).1
    have hab : 0 < a * b := Nat.mul_pos ha hb
    by_cases da : a % p = 0
    · obtain ⟨c, rfl⟩ := Nat.dvd_of_mod_eq_zero da
      have hc : 0 < c := by rcases Nat.eq_zero_or_pos c with rfl | h0; (· simp at ha); (· exact h0)
      have e1 : p * c / p = c := Nat.mul_div_cancel_left c (by omega)
      have hlt : c < p * c := by have := Nat.mul_le_mul_right c h2; omega
      rw [val_step h2 ha da, e1]
      have e2 : p * c * b % p = 0 := by rw [Nat.mul_assoc]; exact Nat.mul_mod_right _ _
      have e3 : p * c * b / p = c * b := by rw [Nat.mul_assoc]; exact Nat.mul_div_cancel_left _ (by omega)
      rw [val_step h2 hab e2, e3, val_mul h k c b (by omega) hc hb]
      omega
    · by_cases db : b % p = 0
      · obtain ⟨c, rfl⟩ := Nat.dvd_of_mod_eq_zero db
        have hc : 0 < c := by rcases Nat.eq_zero_or_pos c with rfl | h0; (· simp at hb); (· exact h0)
        have e1 : p * c / p = c := Nat.mul_div_cancel_left c (by omega)
        have hlt : c < p * c := by have := Nat.mul_le_mul_right c h2; omega
        rw [val_step h2 hb db, e1]
        have e2 : a * (p * c) % p = 0 := by rw [Nat.mul_left_comm]; exact Nat.mul_mod_right _ _
        have e3 : a * (p * c) / p = a * c := by rw [Nat.mul_left_comm]; exact Nat.mul_div_cancel_left _ (by omega)
        rw [val_step h2 hab e2, e3, val_mul h k a c (by omega) ha hc]
        omega
      · have e : a * b % p ≠ 0 := by
          intro hd
          rcases prime_mul h (Nat.dvd_of_mod_eq_zero hd) with h3 | h3
          · exact da (Nat.mod_eq_zero_of_dvd h3)
          · exact db (Nat.mod_eq_zero_of_dvd h3)
        rw [val_stop da, val_stop db, val_stop e]
theorem val_self {p : Nat} (h : primeN p = true) : val p p = 1 := by
  have h2 := (primeN_bd h).1
  rw [val_step h2 (by omega) (Nat.mod_self p), Nat.div_self (by omega), val_stop (by rw [Nat.mod_eq_of_lt (by omega)]; omega)]

/-- Euler's answer is the power, up to multiples -/
theorem resN_dvd {p : Nat} (h : primeN p = true) (h3 : 3 ≤ p) (r : Nat) : (p : Int) ∣ resN r p - (pw r ((p - 1) / 2) p : Nat) := by
  unfold resN
  rcases euler_three h h3 r with e | e | e
  · rw [e, if_neg (by omega)]; simp
  · rw [e, if_neg (by omega)]; simp
  · rw [e, if_pos rfl]
    exact ⟨-1, by push_cast [Nat.sub_add_cancel]; omega⟩
theorem resN_mul {p : Nat} (h : primeN p = true) (h3 : 3 ≤ p) (a b : Nat) : resN (a * b % p) p = resN (a % p) p * resN (b % p) p := by
  have hab := resN_dvd h h3 (a * b % p)
  have ha := resN_dvd h h3 (a % p)
  have hb := resN_dvd h h3 (b % p)
  have sab := resN_small h h3 (a * b % p)
  have sa := resN_small h h3 (a % p)
  have sb := resN_small h h3 (b % p)
  have sm := small_mul sa.1 sa.2 sb.1 sb.2
  obtain ⟨A, hA⟩ : ∃ A : Int, A = (pw (a % p) ((p - 1) / 2) p : Nat) := ⟨_, rfl⟩
  obtain ⟨B, hB⟩ : ∃ B : Int, B = (pw (b % p) ((p - 1) / 2) p : Nat) := ⟨_, rfl⟩
  have hp : (p : Int) ∣ (pw (a * b % p) ((p - 1) / 2) p : Nat) - A * B := by
    have e : pw (a * b % p) ((p - 1) / 2) p = pw (a % p) ((p - 1) / 2) p * pw (b % p) ((p - 1) / 2) p % p := by
      unfold pw
      rw [← Nat.pow_mod, ← Nat.pow_mod, ← Nat.pow_mod, ← Nat.mul_mod, ← Nat.mul_pow]
    rw [e, hA, hB]
    push_cast
    exact Int.dvd_of_emod_eq_zero (by rw [Int.sub_emod]; simp)
  obtain ⟨x, hx⟩ : ∃ x, x = resN (a % p) p := ⟨_, rfl⟩
  obtain ⟨y, hy⟩ : ∃ y, y = resN (b % p) p := ⟨_, rfl⟩
  rw [← hx, ← hA] at ha
  rw [← hy, ← hB] at hb
  have hxy : (p : Int) ∣ x * y - A * B := by
    have : x * y - A * B = (x - A) * y + A * (y - B) := by rw [Int.sub_mul, Int.mul_sub]; omega
    rw [this]
    exact Int.dvd_add (Int.dvd_mul_of_dvd_left ha) (Int.dvd_mul_of_dvd_right hb)
  have hfin : (p : Int) ∣ resN (a * b % p) p - x * y := by
    have h1 := Int.dvd_add hab hp
    have h2 := Int.dvd_sub h1 hxy
    have e : resN (a * b % p) p - ↑(pw (a * b % p) ((p - 1) / 2) p) + (↑(pw (a * b % p) ((p - 1) / 2) p) - A * B) - (x * y - A * B) = resN (a * b % p) p - x * y := by omega
    rwa [e] at h2
  rw [← hx, ← hy] at sm
  rw [← hx, ← hy]
  obtain ⟨c, hc⟩ := hfin
  rcases Int.lt_trichotomy c 0 with h0 | h0 | h0
  · have : (p : Int) * c ≤ (p : Int) * (-1) := Int.mul_le_mul_of_nonneg_left (by omega) (by omega)
    omega
  · subst h0; omega
  · have : (p : Int) * 1 ≤ (p : Int) * c := Int.mul_le_mul_of_nonneg_left (by omega) (by omega)
    omega

end Go.Proofs.Ytdclmjmefkgbbab
