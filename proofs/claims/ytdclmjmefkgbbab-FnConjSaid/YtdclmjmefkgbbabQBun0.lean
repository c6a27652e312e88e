/-
  Some texts in one file: Num Math Loops.
-/
import Derived.Test.YtdclmjmefkgbbabProg
import Derived.WalkKit
import Derived.WalkSpells
import Derived.WalkLawsBesides
/-! Num -/
set_option linter.unusedVariables false
namespace Go.Proofs.Ytdclmjmefkgbbab
open Go.RowKit

theorem hid {p : Prop} (h : p) : Hid p := h
theorem retB {a b : Bool} (h : a = b) : Ending.returned (.bool a) = .returned (.bool b) := by rw [h]
theorem vI {a b : Int} (h : a = b) : Value.int .i64 a = .int .i64 b := by rw [h]
theorem retI {a b : Int} (h : a = b) : Ending.returned (.int .i64 a) = .returned (.int .i64 b) := by rw [h]

/-- Is it a number of the document? -/
def okN (n : Int) : Bool := decide (-5000 ≤ n) && decide (n ≤ 5000)
theorem okN_iff {n : Int} : okN n = true ↔ -5000 ≤ n ∧ n ≤ 5000 := by simp [okN]
theorem okN_no {n : Int} : okN n = false ↔ n < -5000 ∨ 5000 < n := by
  rw [← Bool.not_eq_true, okN_iff]; omega
theorem okN_cases (n : Int) : (-5000 ≤ n ∧ n ≤ 5000 ∧ okN n = true) ∨ (n < -5000 ∧ okN n = false) ∨ (-5000 ≤ n ∧ 5000 < n ∧ okN n = false) := by
  by_cases h1 : -5000 ≤ n
  · by_cases h2 : n ≤ 5000
    · exact .inl ⟨h1, h2, okN_iff.2 ⟨h1, h2⟩⟩
    · exact .inr (.inr ⟨h1, by omega, okN_no.2 (by omega)⟩)
  · exact .inr (.inl ⟨by omega, okN_no.2 (by omega)⟩)

def inR (n a b : Int) : Bool := decide (a ≤ n) && decide (n ≤ b)
theorem inR_cases (n a b : Int) : (a ≤ n ∧ n ≤ b ∧ inR n a b = true) ∨ (n < a ∧ inR n a b = false) ∨ (a ≤ n ∧ b < n ∧ inR n a b = false) := by
  unfold inR
  by_cases h1 : a ≤ n
  · by_cases h2 : n ≤ b
    · exact .inl ⟨h1, h2, by simp [h1, h2]⟩
    · exact .inr (.inr ⟨h1, by omega, by simp [h2]⟩)
  · exact .inr (.inl ⟨by omega, by simp [h1]⟩)

theorem valid_any (n : Int) (w : World) : Calls Try.prog 94 #[.int .i64 n] w fun e w' => e = .returned (.bool (okN n)) ∧ w = w' := by
  rcases okN_cases n with ⟨h1, h2, H⟩ | ⟨h1, H⟩ | ⟨h1, h2, H⟩
  all_goals
    go_enter Try.func94, Try.ntmps94
    go_wp2
    go_ret
    exact ⟨retB (by first | rfl | exact H.symm | (rw [H]; simp; omega)), rfl⟩

theorem l6In_any (n a b : Int) (w : World) : Calls Try.prog 80 #[.int .i64 n, .int .i64 a, .int .i64 b] w fun e w' => e = .returned (.bool (inR n a b)) ∧ w = w' := by
  rcases inR_cases n a b with ⟨h1, h2, H⟩ | ⟨h1, H⟩ | ⟨h1, h2, H⟩
  all_goals
    go_enter Try.func80, Try.ntmps80
    go_wp2
    go_ret
    exact ⟨retB (by first | rfl | exact H.symm | (rw [H]; simp; omega)), rfl⟩

def factB (n : Int) : Bool := okN n && decide (n ≠ 0)
theorem factB_yes {n : Int} (h1 : -5000 ≤ n) (h2 : n ≤ 5000) (h : n ≠ 0) : factB n = true := by simp [factB, okN, h1, h2, h]
theorem factB_no {n : Int} (h : n < -5000 ∨ 5000 < n ∨ n = 0) : factB n = false := by
  unfold factB okN
  rcases h with h | h | h
  · simp [show ¬ -5000 ≤ n by omega]
  · simp [show ¬ n ≤ 5000 by omega]
  · simp [h]

theorem factored_any (n : Int) (w : World) : Calls Try.prog 66 #[.int .i64 n] w fun e w' => e = .returned (.bool (factB n)) ∧ w = w' := by
  rcases okN_cases n with ⟨h1, h2, H⟩ | ⟨h1, H⟩ | ⟨h1, h2, H⟩
  · by_cases h0 : n = 0
    · have K := factB_no (n := n) (by omega)
      have e0 : (n != 0) = false := by simp [h0]
      clear h0
      go_enter Try.func66, Try.ntmps66
      go_wp2_with (go_at_call 94; refine (valid_any _ _).mono ?_; rintro e w' ⟨rfl, rfl⟩)
      go_ret
      exact ⟨retB (by first | rfl | exact K.symm | (rw [K]; simp; omega)), rfl⟩
    · have K := factB_yes h1 h2 h0
      have e0 : (n != 0) = true := by simp [h0]
      clear h0
      go_enter Try.func66, Try.ntmps66
      go_wp2_with (go_at_call 94; refine (valid_any _ _).mono ?_; rintro e w' ⟨rfl, rfl⟩)
      go_ret
      exact ⟨retB (by first | rfl | exact K.symm | (rw [K]; simp; omega)), rfl⟩
  all_goals
    have K := factB_no (n := n) (by omega)
    go_enter Try.func66, Try.ntmps66
    go_wp2_with (go_at_call 94; refine (valid_any _ _).mono ?_; rintro e w' ⟨rfl, rfl⟩)
    go_ret
    exact ⟨retB (by first | rfl | exact K.symm | (rw [K]; simp; omega)), rfl⟩

theorem size_any (n : Int) (h1 : -4611686018427387904 ≤ n) (h2 : n ≤ 4611686018427387904) (w : World) : Calls Try.prog 91 #[.int .i64 n] w fun e w' => e = .returned (.int .i64 n.natAbs) ∧ w = w' := by
  by_cases h : n < 0
  · have hn : (n.natAbs : Int) = -n := by omega
    have HN := hid hn; clear hn
    go_enter Try.func91, Try.ntmps91
    go_wp2
    go_ret
    exact ⟨retI HN.out.symm, rfl⟩
  · have hn : (n.natAbs : Int) = n := by omega
    have HN := hid hn; clear hn
    go_enter Try.func91, Try.ntmps91
    go_wp2
    go_ret
    exact ⟨retI HN.out.symm, rfl⟩

theorem rest_any (n m : Int) (h1 : -4611686018427387904 ≤ n) (h2 : n ≤ 4611686018427387904) (hm : 1 ≤ m) (hm2 : m ≤ 4611686018427387904) (w : World) : Calls Try.prog 107 #[.int .i64 n, .int .i64 m] w fun e w' => e = .returned (.int .i64 (n % m)) ∧ w = w' := by
  by_cases h : 0 ≤ n
  · have hb := Int.emod_nonneg n (show m ≠ 0 by omega)
    go_enter Try.func107, Try.ntmps107
    go_wp2
    go_ret
    exact ⟨rfl, rfl⟩
  · have ht := Int.tmod_eq_emod (a := n) (b := m)
    by_cases hd : m ∣ n
    · have h0 : n.tmod m = 0 := (Int.dvd_iff_tmod_eq_zero).1 hd
      have h3 : n % m = 0 := Int.emod_eq_zero_of_dvd hd
      clear ht
      have T := hid h3; clear h3
      go_enter Try.func107, Try.ntmps107
      go_wp2
      go_ret
      exact ⟨retI (by first | exact T.out | exact T.out.symm), rfl⟩
    · have h3 : n.tmod m = n % m - m := by rw [ht, if_neg (by omega)]; omega
      have hb := Int.emod_lt_of_pos n (show 0 < m by omega)
      have hb2 := Int.emod_nonneg n (show m ≠ 0 by omega)
      have hneg : n.tmod m < 0 := by omega
      have hlo : -m < n.tmod m := by
        have : n % m ≠ 0 := fun e => hd (Int.dvd_of_emod_eq_zero e)
        omega
      have T : Hid (n.tmod m + m = n % m) := by show _ = _; omega
      clear h3 ht
      go_enter Try.func107, Try.ntmps107
      go_wp2
      go_ret
      exact ⟨retI (by first | exact T.out | exact T.out.symm), rfl⟩

theorem tmod_lt_abs (n m : Int) (hm : 1 ≤ m) : -m < n.tmod m ∧ n.tmod m < m := by
  have ht := Int.tmod_eq_emod (a := n) (b := m)
  have hb := Int.emod_lt_of_pos n (show 0 < m by omega)
  have hb2 := Int.emod_nonneg n (show m ≠ 0 by omega)
  rw [ht]
  by_cases hd : m ∣ n
  · rw [if_pos (.inr hd), Int.emod_eq_zero_of_dvd hd]; omega
  · have : n % m ≠ 0 := fun e => hd (Int.dvd_of_emod_eq_zero e)
    split <;> omega

theorem tmod_add_emod (n m : Int) (hm : 1 ≤ m) : (n.tmod m + m).tmod m = n % m := by
  have hb := tmod_lt_abs n m hm
  rw [Int.tmod_eq_emod_of_nonneg (by omega), Int.tmod_eq_emod]
  split
  · simp
  · rw [show n % m - ↑m.natAbs + m = n % m by omega]; simp

end Go.Proofs.Ytdclmjmefkgbbab

/-! Math -/
set_option linter.unusedVariables false
namespace Go.Proofs.Ytdclmjmefkgbbab

/-- how often p divides n (the first number is fuel) -/
def valF : Nat → Nat → Nat → Nat
  | 0, _, _ => 0
  | f + 1, n, p => if n % p = 0 then valF f (n / p) p + 1 else 0
def val (n p : Nat) : Nat := valF n n p

theorem valF_fuel (p : Nat) (hp : 2 ≤ p) : ∀ f g n, 0 < n → n ≤ f → n ≤ g → valF f n p = valF g n p
  | 0, _, n, h, hf, _ => by omega
  | _ + 1, 0, n, h, _, hg => by omega
  | f + 1, g + 1, n, h, hf, hg => by
    unfold valF
    by_cases hd : n % p = 0
    · rw [if_pos hd, if_pos hd]
      have h1 : n / p < n := Nat.div_lt_self h (by omega)
      have h2 : 0 < n / p := Nat.div_pos (Nat.le_of_dvd h (Nat.dvd_of_mod_eq_zero hd)) (by omega)
      rw [valF_fuel p hp f g (n / p) h2 (by omega) (by omega)]
    · rw [if_neg hd, if_neg hd]

theorem val_step {n p : Nat} (hp : 2 ≤ p) (hn : 0 < n) (h : n % p = 0) : val n p = val (n / p) p + 1 := by
  have h1 : n / p < n := Nat.div_lt_self hn (by omega)
  have h2 : 0 < n / p := Nat.div_pos (Nat.le_of_dvd hn (Nat.dvd_of_mod_eq_zero h)) (by omega)
  obtain ⟨m, rfl⟩ : ∃ m, n = m + 1 := ⟨n - 1, by omega⟩
  show valF (m + 1) (m + 1) p = _
  unfold valF
  rw [if_pos h, valF_fuel p hp m ((m + 1) / p) ((m + 1) / p) h2 (by omega) (Nat.le_refl _)]
  rfl

theorem val_stop {n p : Nat} (h : n % p ≠ 0) : val n p = 0 := by
  unfold val
  cases n with
  | zero => rfl
  | succ m => unfold valF; rw [if_neg h]

theorem val_dvd (p : Nat) (hp : 2 ≤ p) : ∀ (k n : Nat), n ≤ k → 0 < n → p ^ val n p ∣ n
  | 0, n, h, hn => by omega
  | k + 1, n, h, hn => by
    by_cases hd : n % p = 0
    · have h1 : n / p < n := Nat.div_lt_self hn (by omega)
      have h2 : 0 < n / p := Nat.div_pos (Nat.le_of_dvd hn (Nat.dvd_of_mod_eq_zero hd)) (by omega)
      have ih := val_dvd p hp k (n / p) (by omega) h2
      rw [val_step hp hn hd, Nat.pow_succ]
      have := Nat.mul_dvd_mul_right ih p
      rwa [Nat.div_mul_cancel (Nat.dvd_of_mod_eq_zero hd)] at this
    · rw [val_stop hd]; simp

theorem val_le (p : Nat) (hp : 2 ≤ p) : ∀ (k n : Nat), n ≤ k → val n p ≤ n
  | 0, n, h => by obtain rfl : n = 0 := by omega
                  exact Nat.le_refl _
  | k + 1, n, h => by
    by_cases h0 : n = 0
    · subst h0; exact Nat.le_refl _
    · by_cases hd : n % p = 0
      · have h1 : n / p < n := Nat.div_lt_self (by omega) (by omega)
        have ih := val_le p hp k (n / p) (by omega)
        rw [val_step hp (by omega) hd]
        omega
      · rw [val_stop hd]; omega

/-- the rest of a power -/
def pw (b e m : Nat) : Nat := b ^ e % m

theorem pw_start (B E M : Nat) : 1 % M * B ^ E % M = pw B E M := by
  unfold pw; rw [Nat.mul_mod, Nat.mod_mod, ← Nat.mul_mod, Nat.one_mul]

theorem pw_step_odd (r b e m : Nat) : (r * b % m) * (b * b % m) ^ (e / 2) % m = r * b ^ (e / 2 * 2 + 1) % m := by
  rw [Nat.mul_mod, Nat.mod_mod, ← Nat.mul_mod, Nat.mul_mod (r * b), ← Nat.pow_mod, ← Nat.mul_mod]
  congr 1
  rw [← Nat.pow_two, ← Nat.pow_mul, Nat.pow_succ, Nat.mul_comm 2, Nat.mul_assoc, Nat.mul_comm b]

theorem pw_step_even (r b e m : Nat) : r * (b * b % m) ^ (e / 2) % m = r * b ^ (e / 2 * 2) % m := by
  rw [Nat.mul_mod, ← Nat.pow_mod, ← Nat.mul_mod]
  congr 1
  rw [← Nat.pow_two, ← Nat.pow_mul, Nat.mul_comm 2]

/-- the prime powers by trial: the first number is fuel -/
def ppGo : Nat → Nat → Nat → List (Nat × Nat)
  | 0, _, _ => []
  | f + 1, p, left =>
    if p * p ≤ left then
      if left % p = 0 then (p, val left p) :: ppGo f (p + 1) (left / p ^ val left p) else ppGo f (p + 1) left
    else if 1 < left then [(left, 1)] else []
def ppow (n : Nat) : List (Nat × Nat) := ppGo 70 2 n

/-- the primes by trial -/
def plGo : Nat → Nat → Nat → List Nat
  | 0, _, _ => []
  | f + 1, p, left =>
    if p * p ≤ left then
      if left % p = 0 then p :: plGo f (p + 1) (left / p ^ val left p) else plGo f (p + 1) left
    else if 1 < left then [left] else []
def plist (n : Nat) : List Nat := plGo 70 2 n

theorem plGo_eq : ∀ f p left, plGo f p left = (ppGo f p left).map (·.1)
  | 0, _, _ => rfl
  | f + 1, p, left => by
    unfold plGo ppGo
    split
    · split
      · simp [plGo_eq f]
      · exact plGo_eq f _ _
    · split <;> rfl
theorem plist_eq (n : Nat) : plist n = (ppow n).map (·.1) := plGo_eq _ _ _

/-- no p from the second number on, of which the square is at most n, divides n -/
def primeGo : Nat → Nat → Nat → Bool
  | 0, _, _ => true
  | f + 1, p, n => if p * p ≤ n then (if n % p = 0 then false else primeGo f (p + 1) n) else true
def primeN (n : Nat) : Bool := decide (2 ≤ n) && (decide (n ≤ 5000) && primeGo 70 2 n)
def primeI (n : Int) : Bool := primeN n.toNat

theorem sq_le {p n : Nat} (h : p * p ≤ n) (hn : n ≤ 5000) : p ≤ 70 := by
  by_cases hp : p ≤ 70
  · exact hp
  · have := Nat.mul_le_mul (show 71 ≤ p by omega) (show 71 ≤ p by omega)
    omega

theorem ppGo_head_prime : ∀ f p n, 2 ≤ p → 2 ≤ n → 72 ≤ p + f → p ≤ 71 → n ≤ 5000 → ((ppGo f p n).head?.map (·.1) == some n) = primeGo f p n
  | 0, p, n, hp, hn, hf, hp7, hm => by
    exfalso
    omega
  | f + 1, p, n, hp, hn, hf, hp7, hm => by
    unfold ppGo primeGo
    by_cases h1 : p * p ≤ n
    · rw [if_pos h1, if_pos h1]
      by_cases h2 : n % p = 0
      · rw [if_pos h2, if_pos h2]
        have : p ≠ n := by
          intro e
          subst e
          have := Nat.mul_le_mul hp (Nat.le_refl p)
          omega
        simp [this]
      · rw [if_neg h2, if_neg h2]
        exact ppGo_head_prime f (p + 1) n (by omega) hn (by omega) (by have := sq_le h1 hm; omega) hm
    · rw [if_neg h1, if_neg h1, if_pos (by omega)]
      simp

theorem ppow_prime {n : Nat} (h2 : 2 ≤ n) (hn : n ≤ 5000) : ((ppow n).head?.map (·.1) == some n) = primeN n := by
  rw [ppow, ppGo_head_prime 70 2 n (by omega) h2 (by omega) (by omega) hn]
  simp [primeN, h2, hn]

/-- the least inverse by trial -/
def invF (r m : Nat) : Option Nat := (List.range m).find? (fun x => r * x % m == 1)
/-- the least root by trial -/
def rootF (r m : Nat) : Option Nat := (List.range m).find? (fun x => x * x % m == r)

theorem find_at {p : Nat → Bool} {n x : Nat} (h1 : x < n) (h2 : p x = true) (h3 : ∀ j, j < x → p j = false) : (List.range n).find? p = some x := by
  rw [List.find?_range_eq_some]
  refine ⟨h2, List.mem_range.2 h1, fun j hj => ?_⟩
  simp [h3 j hj]
theorem find_none {p : Nat → Bool} {n : Nat} (h3 : ∀ j, j < n → p j = false) : (List.range n).find? p = none := by
  rw [List.find?_eq_none]
  intro x hx
  simp [h3 x (List.mem_range.1 hx)]

theorem rootF_half {r m x : Nat} (hx : x < m) (h : x * x % m = r) : (m - x) * (m - x) % m = r := by
  obtain ⟨y, rfl⟩ : ∃ y, m = x + y := ⟨m - x, by omega⟩
  have e : (x + y) - x = y := by omega
  rw [e, ← h]
  have h1 : y * y + (x + y) * x = x * x + (x + y) * y := by
    simp only [Nat.add_mul, Nat.mul_comm y x]
    omega
  have := congrArg (· % (x + y)) h1
  simpa [Nat.add_mul_mod_self_left] using this

/-- none in the first half: none at all -/
theorem rootF_none {r m : Nat} (h : ∀ j, j ≤ m / 2 → j * j % m ≠ r) : rootF r m = none := by
  refine find_none fun j hj => ?_
  rw [beq_eq_false_iff_ne]
  intro e
  by_cases hh : j ≤ m / 2
  · exact h j hh e
  · exact h (m - j) (by omega) (rootF_half hj e)

theorem invF_of {r m x : Nat} (hx : x < m) (h : r * x % m = 1) : invF r m = some x := by
  refine find_at hx (by simp [h]) fun j hj => ?_
  rw [beq_eq_false_iff_ne]
  intro e
  -- x and j are both inverses: x = x (r j) = j
  have h1 : x * (r * j) % m = x % m := by rw [Nat.mul_mod, e, Nat.mul_one, Nat.mod_mod]
  have h2 : x * (r * j) % m = j % m := by
    rw [show x * (r * j) = j * (r * x) by rw [← Nat.mul_assoc, Nat.mul_comm x r, Nat.mul_comm]]
    rw [Nat.mul_mod, h, Nat.mul_one, Nat.mod_mod]
  rw [h1, Nat.mod_eq_of_lt hx, Nat.mod_eq_of_lt (by omega)] at h2
  omega

theorem invF_none {r m : Nat} (h : Nat.gcd r m ≠ 1) : invF r m = none := by
  refine find_none fun j _ => ?_
  rw [beq_eq_false_iff_ne]
  intro e
  apply h
  have hd : Nat.gcd r m ∣ r * j % m := (Nat.dvd_mod_iff (Nat.gcd_dvd_right r m)).2 (Nat.dvd_trans (Nat.gcd_dvd_left r m) (Nat.dvd_mul_right r j))
  rw [e] at hd
  exact Nat.dvd_one.1 hd

/-- what the model's Euler says: -1, or the power itself -/
def resN (r p : Nat) : Int := if pw r ((p - 1) / 2) p = p - 1 then -1 else (pw r ((p - 1) / 2) p : Nat)
/-- what the program's Euler says -/
def resM (r p : Nat) : Int := if pw r ((p - 1) / 2) p = 0 then 0 else if pw r ((p - 1) / 2) p = 1 then 1 else -1

end Go.Proofs.Ytdclmjmefkgbbab

/-! Loops -/
set_option linter.unusedVariables false
namespace Go.Proofs.Ytdclmjmefkgbbab
open Go.RowKit

theorem tdiv_natAbs (a b : Int) : (a.tdiv b).natAbs = a.natAbs / b.natAbs := Int.natAbs_tdiv a b
theorem tmod_eqz {L p : Int} (hp : 2 ≤ p) : (L.tmod p == 0) = decide (L.natAbs % p.toNat = 0) := by
  rw [Bool.eq_iff_iff, beq_iff_eq, decide_eq_true_iff, ← Nat.dvd_iff_mod_eq_zero, ← Int.dvd_iff_tmod_eq_zero, ← Int.natAbs_dvd_natAbs, show p.natAbs = p.toNat by omega]

set_option maxHeartbeats 400000 in
theorem valuation_any (n p : Int) (h0 : n ≠ 0) (h1 : -1000000 ≤ n) (h2 : n ≤ 1000000) (hp : 2 ≤ p) (hp2 : p ≤ 1000000) (w : World) :
    Calls Try.prog 92 #[.int .i64 n, .int .i64 p] w fun e w' => e = .returned (.int .i64 (val n.natAbs p.toNat)) ∧ w = w' := by
  go_enter Try.func92, Try.ntmps92
  go_wp2
  go_loop [5, 6] (fun k l => ∃ (K : Nat) (L : Int), k = .int .i64 K ∧ l = .int .i64 L ∧ L ≠ 0 ∧ -1000000 ≤ L ∧ L ≤ 1000000 ∧ K + L.natAbs ≤ n.natAbs ∧ Hid (val L.natAbs p.toNat + K = val n.natAbs p.toNat)) (fun _ l => (intOf l).natAbs)
  case atStart => exact ⟨0, n, rfl, rfl, h0, h1, h2, by omega, hid (by simp)⟩
  case round =>
    obtain ⟨K, L, rfl, rfl, hl0, hl1, hl2, hK, HV⟩ := hrel
    have T := tmod_eqz (L := L) hp
    by_cases hd : L.natAbs % p.toNat = 0
    · rw [decide_eq_true hd] at T
      have hs := hid (val_step (n := L.natAbs) (p := p.toNat) (by omega) (by omega) hd)
      have hA : L.natAbs / p.toNat < L.natAbs := Nat.div_lt_self (by omega) (by omega)
      have hB : 0 < L.natAbs / p.toNat := Nat.div_pos (Nat.le_of_dvd (by omega) (Nat.dvd_of_mod_eq_zero hd)) (by omega)
      have hq : (L.tdiv p).natAbs = L.natAbs / p.toNat := by rw [tdiv_natAbs, show p.natAbs = p.toNat by omega]
      have hq1 : (L.tdiv p).natAbs < L.natAbs := by omega
      have hq2 : L.tdiv p ≠ 0 := by omega
      have hq3 : -1000000 ≤ L.tdiv p := by omega
      have hq4 : L.tdiv p ≤ 1000000 := by omega
      have HQ := hid hq
      clear hq hd hA hB
      go_wp2
      go_round
      case rel => exact ⟨K + 1, L.tdiv p, by go_num, rfl, hq2, hq3, hq4, by omega, hid (by rw [HQ.out]; have := hs.out; have := HV.out; omega)⟩
      case measure => simp only [intOf]; omega
    · rw [decide_eq_false hd] at T
      have hs := hid (val_stop hd)
      clear hd
      go_wp2
      go_ret
      exact ⟨retI (by have := hs.out; have := HV.out; omega), rfl⟩

theorem ret2 {a b c d : Int} (h : a = b) (h' : c = d) : Ending.returned (.tuple #[.int .i64 a, .int .i64 c]) = .returned (.tuple #[.int .i64 b, .int .i64 d]) := by rw [h, h']

theorem mul_bd {a b m : Nat} (ha : a ≤ m) (hb : b ≤ m) : 0 ≤ (a : Int) * b ∧ (a : Int) * b ≤ (m : Int) * m := by
  have := Nat.mul_le_mul ha hb
  constructor
  · exact_mod_cast Nat.zero_le _
  · exact_mod_cast this

theorem ediv_bd {a b : Nat} (h : a ≤ 5000) : 0 ≤ (a : Int) / b ∧ (a : Int) / b ≤ 5000 := by
  have h1 := Nat.div_le_self a b
  have e : (a : Int) / b = ((a / b : Nat) : Int) := by push_cast; rfl
  rw [e]
  exact ⟨Int.natCast_nonneg _, Int.ofNat_le.2 (Nat.le_trans h1 h)⟩

set_option maxHeartbeats 400000 in
theorem power_any (n e m : Int) (h1 : -1000000 ≤ n) (h2 : n ≤ 1000000) (he : 0 ≤ e) (he2 : e ≤ 1000000) (hm : 1 ≤ m) (hm2 : m ≤ 1000000) (w : World) :
    Calls Try.prog 111 #[.int .i64 n, .int .i64 e, .int .i64 m] w fun en w' => en = .returned (.int .i64 (pw (n % m).toNat e.toNat m.toNat : Nat)) ∧ w = w' := by
  obtain ⟨M, rfl⟩ := Int.eq_ofNat_of_zero_le (show 0 ≤ m by omega)
  obtain ⟨E, rfl⟩ := Int.eq_ofNat_of_zero_le he
  obtain ⟨B, hB⟩ := Int.eq_ofNat_of_zero_le (Int.emod_nonneg n (show (M : Int) ≠ 0 by omega))
  have hBm : B < M := by have := Int.emod_lt_of_pos n (show (0 : Int) < M by omega); omega
  have HB := hid hB
  rw [hB]
  simp only [Int.toNat_natCast]
  clear hB
  go_enter Try.func111, Try.ntmps111
  go_wp2_with (go_at_call 107; refine (rest_any _ _ (by omega) (by omega) (by omega) (by omega) _).mono ?_; rw [HB.out]; rintro e w' ⟨rfl, rfl⟩)
  go_loop [1, 7, 8] (fun es rs bs => ∃ (e r b : Nat), es = .int .i64 e ∧ rs = .int .i64 r ∧ bs = .int .i64 b ∧ e ≤ E ∧ r < M ∧ b < M ∧ Hid (r * b ^ e % M = pw B E M)) (fun es _ _ => (intOf es).toNat)
  case atStart => exact ⟨E, 1 % M, B, rfl, vI (by push_cast; rfl), rfl, by omega, Nat.mod_lt _ (by omega), hBm, hid (pw_start B E M)⟩
  case round =>
    obtain ⟨e, r, b, rfl, rfl, rfl, hE, hr, hb, HV⟩ := hrel
    have hrb := mul_bd (Nat.le_of_lt hr) (Nat.le_of_lt hb)
    have hbb := mul_bd (Nat.le_of_lt hb) (Nat.le_of_lt hb)
    have hMM := mul_bd (show M ≤ 1000000 by omega) (show M ≤ 1000000 by omega)
    by_cases h0 : 0 < e
    · by_cases ho : e % 2 = 1
      · have T : ((e : Int) % 2 == 1) = true := by rw [beq_iff_eq]; omega
        have hE2 : e / 2 * 2 + 1 = e := by omega
        have HS := hid (pw_step_odd r b e M)
        have HE2 := hid hE2
        clear hE2 ho
        go_wp2
        go_round
        case rel => exact ⟨e / 2, r * b % M, b * b % M, vI (by push_cast; rfl), vI (by push_cast; rfl), vI (by push_cast; rfl), by omega, Nat.mod_lt _ (by omega), Nat.mod_lt _ (by omega), hid (by rw [HS.out, HE2.out]; exact HV.out)⟩
        case measure => simp only [intOf]; omega
      · have T : ((e : Int) % 2 == 1) = false := by rw [beq_eq_false_iff_ne]; omega
        have hE2 : e / 2 * 2 = e := by omega
        have HS := hid (pw_step_even r b e M)
        have HE2 := hid hE2
        clear hE2 ho
        go_wp2
        go_round
        case rel => exact ⟨e / 2, r, b * b % M, vI (by push_cast; rfl), rfl, vI (by push_cast; rfl), by omega, hr, Nat.mod_lt _ (by omega), hid (by rw [HS.out, HE2.out]; exact HV.out)⟩
        case measure => simp only [intOf]; omega
    · obtain rfl : e = 0 := by omega
      go_wp2
      go_ret
      exact ⟨retI (by rw [← HV.out]; simp [Nat.mod_eq_of_lt hr]), rfl⟩

theorem l1Size_any (n : Int) (h1 : -4611686018427387904 ≤ n) (h2 : n ≤ 4611686018427387904) (w : World) : Calls Try.prog 98 #[.int .i64 n] w fun e w' => e = .returned (.int .i64 n.natAbs) ∧ w = w' := by
  by_cases h : n < 0
  · have hn : (n.natAbs : Int) = -n := by omega
    have HN := hid hn; clear hn
    go_enter Try.func98, Try.ntmps98
    go_wp2
    go_ret
    exact ⟨retI (by rw [HN.out]), rfl⟩
  · have hn : (n.natAbs : Int) = n := by omega
    have HN := hid hn; clear hn
    go_enter Try.func98, Try.ntmps98
    go_wp2
    go_ret
    exact ⟨retI (by rw [HN.out]), rfl⟩

set_option maxHeartbeats 400000 in
theorem l1Valuation_any (n p : Int) (h0 : n ≠ 0) (h1 : -1000000000000000 ≤ n) (h2 : n ≤ 1000000000000000) (hp : 2 ≤ p) (hp2 : p ≤ 1000000) (w : World) :
    Calls Try.prog 64 #[.int .i64 n, .int .i64 p] w fun e w' => e = .returned (.tuple #[.int .i64 (val n.natAbs p.toNat), .int .i64 (n.tdiv (p ^ val n.natAbs p.toNat))]) ∧ w = w' := by
  go_enter Try.func64, Try.ntmps64
  go_wp2
  go_loop [6, 0] (fun k l => ∃ (K : Nat) (L : Int), k = .int .i64 K ∧ l = .int .i64 L ∧ L ≠ 0 ∧ -1000000000000000 ≤ L ∧ L ≤ 1000000000000000 ∧ K + L.natAbs ≤ n.natAbs ∧ Hid (val L.natAbs p.toNat + K = val n.natAbs p.toNat ∧ L * p ^ K = n)) (fun _ l => (intOf l).natAbs)
  case atStart => exact ⟨0, n, rfl, rfl, h0, h1, h2, by omega, hid (by simp)⟩
  case round =>
    obtain ⟨K, L, rfl, rfl, hl0, hl1, hl2, hK, HV⟩ := hrel
    have T := tmod_eqz (L := L) hp
    by_cases hd : L.natAbs % p.toNat = 0
    · rw [decide_eq_true hd] at T
      have hs := hid (val_step (n := L.natAbs) (p := p.toNat) (by omega) (by omega) hd)
      have hA : L.natAbs / p.toNat < L.natAbs := Nat.div_lt_self (by omega) (by omega)
      have hB : 0 < L.natAbs / p.toNat := Nat.div_pos (Nat.le_of_dvd (by omega) (Nat.dvd_of_mod_eq_zero hd)) (by omega)
      have hq : (L.tdiv p).natAbs = L.natAbs / p.toNat := by rw [tdiv_natAbs, show p.natAbs = p.toNat by omega]
      have hq1 : (L.tdiv p).natAbs < L.natAbs := by omega
      have hq2 : L.tdiv p ≠ 0 := by omega
      have hq3 : -1000000000000000 ≤ L.tdiv p := by omega
      have hq4 : L.tdiv p ≤ 1000000000000000 := by omega
      have hdv : p ∣ L := by rw [← Int.natAbs_dvd_natAbs, show p.natAbs = p.toNat by omega]; exact Nat.dvd_of_mod_eq_zero hd
      have HM := hid (Int.tdiv_mul_cancel hdv)
      have HQ := hid hq
      clear hq hd hA hB hdv
      go_wp2
      go_round
      case rel => exact ⟨K + 1, L.tdiv p, by go_num, rfl, hq2, hq3, hq4, by omega, hid ⟨by rw [HQ.out]; have := hs.out; have := HV.out.1; omega, by rw [Int.pow_succ, Int.mul_comm (p ^ K), ← Int.mul_assoc, HM.out]; exact HV.out.2⟩⟩
      case measure => simp only [intOf]; omega
    · rw [decide_eq_false hd] at T
      have hs := hid (val_stop hd)
      clear hd
      go_wp2
      go_ret2
      have hk : K = val n.natAbs p.toNat := by have := hs.out; have := HV.out.1; omega
      exact ⟨ret2 (congrArg _ hk) (by rw [← hk]; conv => rhs; rw [← HV.out.2]
                                      rw [Int.mul_tdiv_cancel _ (by have : 0 < p ^ K := Int.pow_pos (by omega); omega)]), rfl⟩

/-- Is it the square of an integer? -/
def sqB (n : Int) : Bool := (List.range 72).any (fun x => ((x : Int) * x == n))
theorem sq_mono {a b : Nat} (h : a ≤ b) : (a : Int) * a ≤ (b : Int) * b := by exact_mod_cast Nat.mul_le_mul h h
theorem sqB_at {n : Int} {k : Nat} (hn : n ≤ 5000) (h1 : n ≤ (k : Int) * k) (h2 : ∀ j : Nat, j < k → (j : Int) * j < n) : ((k : Int) * k == n) = sqB n := by
  rw [Bool.eq_iff_iff, beq_iff_eq]
  unfold sqB
  rw [List.any_eq_true]
  constructor
  · intro h
    refine ⟨k, ?_, by simpa using h⟩
    rw [List.mem_range]
    by_cases hk : k < 72
    · exact hk
    · have := sq_mono (show 72 ≤ k by omega)
      omega
  · rintro ⟨j, _, hj⟩
    rw [beq_iff_eq] at hj
    by_cases hjk : j < k
    · have := h2 j hjk
      omega
    · have := sq_mono (show k ≤ j by omega)
      omega




/-- what PowerMod answers -/
def pmB (n e m : Int) : Bool := okN n && (inR e 0 5000 && inR m 1 5000)
def pmV (n e m : Int) : Value := if pmB n e m then .tuple #[.int .i64 (pw (n % m).toNat e.toNat m.toNat : Nat), .bool true] else .tuple #[.int .i64 0, .bool false]
theorem pmV_yes {n e m : Int} (h : pmB n e m = true) : pmV n e m = .tuple #[.int .i64 (pw (n % m).toNat e.toNat m.toNat : Nat), .bool true] := by unfold pmV; rw [if_pos h]
theorem pmV_no {n e m : Int} (h : pmB n e m = false) : pmV n e m = .tuple #[.int .i64 0, .bool false] := by unfold pmV; rw [if_neg (by rw [h]; decide)]

end Go.Proofs.Ytdclmjmefkgbbab
