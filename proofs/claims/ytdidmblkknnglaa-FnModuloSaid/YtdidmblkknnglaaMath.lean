/-
  Plain arithmetic of chapter 1: no Go in sight.
-/
set_option linter.unusedVariables false
namespace Go.Proofs.Ytdidmblkknnglaa

/-- how often p divides n (the first number is fuel) -/
def valF : Nat → Nat → Nat → Nat
  | 0, _, _ => 0
  | f + 1, n, p => if n % p = 0 then valF f (n / p) p + 1 else 0
def val (n p : Nat) : Nat := valF n n p

theorem valF_fuel (p : Nat) (hp : 2 ≤ p) : ∀ f g n, 0 < n → n ≤ f → n ≤ g → valF f n p = valF g n p
  | 0, _, n, h, hf, _ => by omega
  | _ + 1, 0, n, h, _, hg => by omega
  | f + 1, g + 1, n, h, hf, hg => by
    unfold valF
    by_cases hd : n % p = 0
    · rw [if_pos hd, if_pos hd]
      have h1 : n / p < n := Nat.div_lt_self h (by omega)
      have h2 : 0 < n / p := Nat.div_pos (Nat.le_of_dvd h (Nat.dvd_of_mod_eq_zero hd)) (by omega)
      rw [valF_fuel p hp f g (n / p) h2 (by omega) (by omega)]
    · rw [if_neg hd, if_neg hd]

theorem val_step {n p : Nat} (hp : 2 ≤ p) (hn : 0 < n) (h : n % p = 0) : val n p = val (n / p) p + 1 := by
  have h1 : n / p < n := Nat.div_lt_self hn (by omega)
  have h2 : 0 < n / p := Nat.div_pos (Nat.le_of_dvd hn (Nat.dvd_of_mod_eq_zero h)) (by omega)
  obtain ⟨m, rfl⟩ : ∃ m, n = m + 1 := ⟨n - 1, by omega⟩
  show valF (m + 1) (m + 1) p = _
  unfold valF
  rw [if_pos h, valF_fuel p hp m ((m + 1) / p) ((m + 1) / p) h2 (by omega) (Nat.le_refl _)]
  rfl

theorem val_stop {n p : Nat} (h : n % p ≠ 0) : val n p = 0 := by
  unfold val
  cases n with
  | zero => rfl
  | succ m => unfold valF; rw [if_neg h]

theorem val_dvd (p : Nat) (hp : 2 ≤ p) : ∀ (k n : Nat), n ≤ k → 0 < n → p ^ val n p ∣ n
  | 0, n, h, hn => by omega
  | k + 1, n, h, hn => by
    by_cases hd : n % p = 0
    · have h1 : n / p < n := Nat.div_lt_self hn (by omega)
      have h2 : 0 < n / p := Nat.div_pos (Nat.le_of_dvd hn (Nat.dvd_of_mod_eq_zero hd)) (by omega)
      have ih := val_dvd p hp k (n / p) (by omega) h2
      rw [val_step hp hn hd, Nat.pow_succ]
      have := Nat.mul_dvd_mul_right ih p
      rwa [Nat.div_mul_cancel (Nat.dvd_of_mod_eq_zero hd)] at this
    · rw [val_stop hd]; simp

theorem val_le (p : Nat) (hp : 2 ≤ p) : ∀ (k n : Nat), n ≤ k → val n p ≤ n
  | 0, n, h => by obtain rfl : n = 0 := by omega
                  exact Nat.le_refl _
  | k + 1, n, h => by
    by_cases h0 : n = 0
    · subst h0; exact Nat.le_refl _
    · by_cases hd : n % p = 0
      · have h1 : n / p < n := Nat.div_lt_self (by omega) (by omega)
        have ih := val_le p hp k (n / p) (by omega)
        rw [val_step hp (by omega) hd]
        omega
      · rw [val_stop hd]; omega

/-- the rest of a power -/
def pw (b e m : Nat) : Nat := b ^ e % m

theorem pw_start (B E M : Nat) : 1 % M * B ^ E % M = pw B E M := by
  unfold pw; rw [Nat.mul_mod, Nat.mod_mod, ← Nat.mul_mod, Nat.one_mul]

theorem pw_step_odd (r b e m : Nat) : (r * b % m) * (b * b % m) ^ (e / 2) % m = r * b ^ (e / 2 * 2 + 1) % m := by
  rw [Nat.mul_mod, Nat.mod_mod, ← Nat.mul_mod, Nat.mul_mod (r * b), ← Nat.pow_mod, ← Nat.mul_mod]
  congr 1
  rw [← Nat.pow_two, ← Nat.pow_mul, Nat.pow_succ, Nat.mul_comm 2, Nat.mul_assoc, Nat.mul_comm b]

theorem pw_step_even (r b e m : Nat) : r * (b * b % m) ^ (e / 2) % m = r * b ^ (e / 2 * 2) % m := by
  rw [Nat.mul_mod, ← Nat.pow_mod, ← Nat.mul_mod]
  congr 1
  rw [← Nat.pow_two, ← Nat.pow_mul, Nat.mul_comm 2]

/-- the prime powers by trial: the first number is fuel -/
def ppGo : Nat → Nat → Nat → List (Nat × Nat)
  | 0, _, _ => []
  | f + 1, p, left =>
    if p * p ≤ left then
      if left % p = 0 then (p, val left p) :: ppGo f (p + 1) (left / p ^ val left p) else ppGo f (p + 1) left
    else if 1 < left then [(left, 1)] else []
def ppow (n : Nat) : List (Nat × Nat) := ppGo 70 2 n

/-- the primes by trial -/
def plGo : Nat → Nat → Nat → List Nat
  | 0, _, _ => []
  | f + 1, p, left =>
    if p * p ≤ left then
      if left % p = 0 then p :: plGo f (p + 1) (left / p ^ val left p) else plGo f (p + 1) left
    else if 1 < left then [left] else []
def plist (n : Nat) : List Nat := plGo 70 2 n

theorem plGo_eq : ∀ f p left, plGo f p left = (ppGo f p left).map (·.1)
  | 0, _, _ => rfl
  | f + 1, p, left => by
    unfold plGo ppGo
    split
    · split
      · simp [plGo_eq f]
      · exact plGo_eq f _ _
    · split <;> rfl
theorem plist_eq (n : Nat) : plist n = (ppow n).map (·.1) := plGo_eq _ _ _

/-- no p from the second number on, of which the square is at most n, divides n -/
def primeGo : Nat → Nat → Nat → Bool
  | 0, _, _ => true
  | f + 1, p, n => if p * p ≤ n then (if n % p = 0 then false else primeGo f (p + 1) n) else true
def primeN (n : Nat) : Bool := decide (2 ≤ n) && (decide (n ≤ 5000) && primeGo 70 2 n)
def primeI (n : Int) : Bool := primeN n.toNat

theorem sq_le {p n : Nat} (h : p * p ≤ n) (hn : n ≤ 5000) : p ≤ 70 := by
  by_cases hp : p ≤ 70
  · exact hp
  · have := Nat.mul_le_mul (show 71 ≤ p by omega) (show 71 ≤ p by omega)
    omega

theorem ppGo_head_prime : ∀ f p n, 2 ≤ p → 2 ≤ n → 72 ≤ p + f → p ≤ 71 → n ≤ 5000 → ((ppGo f p n).head?.map (·.1) == some n) = primeGo f p n
  | 0, p, n, hp, hn, hf, hp7, hm => by
    exfalso
    omega
  | f + 1, p, n, hp, hn, hf, hp7, hm => by
    unfold ppGo primeGo
    by_cases h1 : p * p ≤ n
    · rw [if_pos h1, if_pos h1]
      by_cases h2 : n % p = 0
      · rw [if_pos h2, if_pos h2]
        have : p ≠ n := by
          intro e
          subst e
          have := Nat.mul_le_mul hp (Nat.le_refl p)
          omega
        simp [this]
      · rw [if_neg h2, if_neg h2]
        exact ppGo_head_prime f (p + 1) n (by omega) hn (by omega) (by have := sq_le h1 hm; omega) hm
    · rw [if_neg h1, if_neg h1, if_pos (by omega)]
      simp

theorem ppow_prime {n : Nat} (h2 : 2 ≤ n) (hn : n ≤ 5000) : ((ppow n).head?.map (·.1) == some n) = primeN n := by
  rw [ppow, ppGo_head_prime 70 2 n (by omega) h2 (by omega) (by omega) hn]
  simp [primeN, h2, hn]

/-- the least inverse by trial -/
def invF (r m : Nat) : Option Nat := (List.range m).find? (fun x => r * x % m == 1)
/-- the least root by trial -/
def rootF (r m : Nat) : Option Nat := (List.range m).find? (fun x => x * x % m == r)

theorem find_at {p : Nat → Bool} {n x : Nat} (h1 : x < n) (h2 : p x = true) (h3 : ∀ j, j < x → p j = false) : (List.range n).find? p = some x := by
  rw [List.find?_range_eq_some]
  refine ⟨h2, List.mem_range.2 h1, fun j hj => ?_⟩
  simp [h3 j hj]
theorem find_none {p : Nat → Bool} {n : Nat} (h3 : ∀ j, j < n → p j = false) : (List.range n).find? p = none := by
  rw [List.find?_eq_none]
  intro x hx
  simp [h3 x (List.mem_range.1 hx)]

theorem rootF_half {r m x : Nat} (hx : x < m) (h : x * x % m = r) : (m - x) * (m - x) % m = r := by
  obtain ⟨y, rfl⟩ : ∃ y, m = x + y := ⟨m - x, by omega⟩
  have e : (x + y) - x = y := by omega
  rw [e, ← h]
  have h1 : y * y + (x + y) * x = x * x + (x + y) * y := by
    simp only [Nat.add_mul, Nat.mul_comm y x]
    omega
  have := congrArg (· % (x + y)) h1
  simpa [Nat.add_mul_mod_self_left] using this

/-- none in the first half: none at all -/
theorem rootF_none {r m : Nat} (h : ∀ j, j ≤ m / 2 → j * j % m ≠ r) : rootF r m = none := by
  refine find_none fun j hj => ?_
  rw [beq_eq_false_iff_ne]
  intro e
  by_cases hh : j ≤ m / 2
  · exact h j hh e
  · exact h (m - j) (by omega) (rootF_half hj e)

theorem invF_of {r m x : Nat} (hx : x < m) (h : r * x % m = 1) : invF r m = some x := by
  refine find_at hx (by simp [h]) fun j hj => ?_
  rw [beq_eq_false_iff_ne]
  intro e
  -- x and j are both inverses: x = x (r j) = j
  have h1 : x * (r * j) % m = x % m := by rw [Nat.mul_mod, e, Nat.mul_one, Nat.mod_mod]
  have h2 : x * (r * j) % m = j % m := by
    rw [show x * (r * j) = j * (r * x) by rw [← Nat.mul_assoc, Nat.mul_comm x r, Nat.mul_comm]]
    rw [Nat.mul_mod, h, Nat.mul_one, Nat.mod_mod]
  rw [h1, Nat.mod_eq_of_lt hx, Nat.mod_eq_of_lt (by omega)] at h2
  omega

theorem invF_none {r m : Nat} (h : Nat.gcd r m ≠ 1) : invF r m = none := by
  refine find_none fun j _ => ?_
  rw [beq_eq_false_iff_ne]
  intro e
  apply h
  have hd : Nat.gcd r m ∣ r * j % m := (Nat.dvd_mod_iff (Nat.gcd_dvd_right r m)).2 (Nat.dvd_trans (Nat.gcd_dvd_left r m) (Nat.dvd_mul_right r j))
  rw [e] at hd
  exact Nat.dvd_one.1 hd

/-- what the model's Euler says: -1, or the power itself -/
def resN (r p : Nat) : Int := if pw r ((p - 1) / 2) p = p - 1 then -1 else (pw r ((p - 1) / 2) p : Nat)
/-- what the program's Euler says -/
def resM (r p : Nat) : Int := if pw r ((p - 1) / 2) p = 0 then 0 else if pw r ((p - 1) / 2) p = 1 then 1 else -1

end Go.Proofs.Ytdidmblkknnglaa
