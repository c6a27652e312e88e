/-
  Triples and their tree: plain arithmetic.
-/
import Derived.Test.YtenibnblibnocaaBun0
set_option linter.unusedVariables false
namespace Go.Proofs.Ytenibnblibnocaa
open Go.RowKit

/-- three integers that are a triple -/
def triB (a b c : Int) : Bool := inR a 1 100000 && (inR b 1 100000 && (inR c 1 100000 && (decide (a * a + b * b = c * c) && (decide (a % 2 = 1) && decide (Nat.gcd a.natAbs b.natAbs = 1)))))
theorem triB_iff {a b c : Int} : triB a b c = true ↔ (1 ≤ a ∧ a ≤ 100000) ∧ (1 ≤ b ∧ b ≤ 100000) ∧ (1 ≤ c ∧ c ≤ 100000) ∧ a * a + b * b = c * c ∧ a % 2 = 1 ∧ Nat.gcd a.natAbs b.natAbs = 1 := by
  unfold triB inR
  simp only [Bool.and_eq_true, decide_eq_true_eq]
/-- the m and n of a triple -/
def Nd (m n : Nat) : Prop := 1 ≤ n ∧ n < m ∧ (m + n) % 2 = 1 ∧ Nat.gcd m n = 1
theorem cop_of {m n p q : Nat} (h : Nat.gcd m n = 1) (hd : ∀ d, d ∣ p → d ∣ q → d ∣ m ∧ d ∣ n) : Nat.gcd p q = 1 := by
  obtain ⟨h1, h2⟩ := hd _ (Nat.gcd_dvd_left p q) (Nat.gcd_dvd_right p q)
  have := Nat.dvd_gcd h1 h2
  rw [h] at this
  exact Nat.dvd_one.1 this
theorem sq_of_cop {u v h : Nat} (e : u * v = h * h) (hc : Nat.gcd u v = 1) : Nat.gcd u h * Nat.gcd u h = u := by
  have h1 : (u ^ 2).gcd (h ^ 2) = u.gcd h ^ 2 := Nat.pow_gcd_pow
  rw [Nat.pow_two, Nat.pow_two, Nat.pow_two, ← e, Nat.gcd_mul_left, hc, Nat.mul_one] at h1
  exact h1.symm
theorem sq_mod4 (x : Int) : x * x % 4 = 0 ∧ x % 2 = 0 ∨ x * x % 4 = 1 ∧ x % 2 = 1 := by
  have h := Int.emod_nonneg x (b := 4) (by decide)
  have h2 := Int.emod_lt_of_pos x (b := 4) (by decide)
  have e : x * x % 4 = (x % 4) * (x % 4) % 4 := Int.mul_emod x x 4
  have h4 : x % 4 = 0 ∨ x % 4 = 1 ∨ x % 4 = 2 ∨ x % 4 = 3 := by omega
  rcases h4 with h4 | h4 | h4 | h4 <;> rw [h4] at e <;> omega
/-- each triple is made of two numbers -/
theorem tri_nd {a b c : Int} (h : triB a b c = true) : ∃ m n : Nat, Nd m n ∧ a = m * m - n * n ∧ b = 2 * (m * n) ∧ c = m * m + n * n := by
  obtain ⟨⟨a1, a2⟩, ⟨b1, b2⟩, ⟨c1, c2⟩, e, ho, hg⟩ := triB_iff.1 h
  have hb : b % 2 = 0 := by
    rcases sq_mod4 a with h1 | h1 <;> rcases sq_mod4 b with h2 | h2 <;> rcases sq_mod4 c with h3 | h3 <;> omega
  have hc : c % 2 = 1 := by
    rcases sq_mod4 a with h1 | h1 <;> rcases sq_mod4 b with h2 | h2 <;> rcases sq_mod4 c with h3 | h3 <;> omega
  obtain ⟨u, hu⟩ : ∃ u : Nat, c + a = 2 * (u : Int) := ⟨((c + a) / 2).toNat, by omega⟩
  have hlt : a < c := Int.not_le.1 fun hle => by
    have h1 : c * c ≤ a * a := Int.mul_le_mul hle hle (by omega) (by omega)
    have h2 : 0 < b * b := Int.mul_pos (by omega) (by omega)
    omega
  obtain ⟨v, hv⟩ : ∃ v : Nat, c - a = 2 * (v : Int) := ⟨((c - a) / 2).toNat, by omega⟩
  obtain ⟨k, hk⟩ : ∃ k : Nat, b = 2 * (k : Int) := ⟨(b / 2).toNat, by omega⟩
  have ec : c = u + v := by omega
  have ea : a = u - v := by omega
  have huv : (u : Int) * v = k * k := by
    rw [ea, ec, hk] at e
    grind
  have huvN : u * v = k * k := by exact_mod_cast huv
  have hcop : Nat.gcd u v = 1 := by
    have hg2 : Nat.gcd a.natAbs (b.natAbs * b.natAbs) = 1 := Nat.Coprime.mul_right hg hg
    refine cop_of hg2 fun d h1 h2 => ?_
    have k1 : (d : Int) ∣ u := Int.natCast_dvd_natCast.2 h1
    have k2 : (d : Int) ∣ v := Int.natCast_dvd_natCast.2 h2
    have k3 : (d : Int) ∣ a := by rw [ea]; exact Int.dvd_sub k1 k2
    have k4 : (d : Int) ∣ c := by rw [ec]; exact Int.dvd_add k1 k2
    have k5 : (d : Int) ∣ b * b := by
      have : b * b = c * c - a * a := by omega
      rw [this]
      exact Int.dvd_sub (Int.dvd_mul_of_dvd_left k4) (Int.dvd_mul_of_dvd_left k3)
    refine ⟨Int.ofNat_dvd_left.1 k3, ?_⟩
    rw [← Int.natAbs_mul]
    exact Int.ofNat_dvd_left.1 k5
  have hm := sq_of_cop huvN hcop
  have hn := sq_of_cop (u := v) (v := u) (h := k) (by rw [Nat.mul_comm]; exact huvN) (by rw [Nat.gcd_comm]; exact hcop)
  obtain ⟨m, em⟩ : ∃ m, m = Nat.gcd u k := ⟨_, rfl⟩
  obtain ⟨n, en⟩ : ∃ n, n = Nat.gcd v k := ⟨_, rfl⟩
  rw [← em] at hm
  rw [← en] at hn
  have emn : m * n = k := by
    have : (m * n) * (m * n) = k * k := by rw [← huvN, ← hm, ← hn]; simp only [Nat.mul_assoc, Nat.mul_left_comm]
    exact Nat.mul_self_inj.1 this
  have n1 : 1 ≤ n := by
    rcases Nat.eq_zero_or_pos n with h0 | h0
    · rw [h0] at hn; omega
    · exact h0
  have hmn : n < m := Nat.not_le.1 fun hle => by have := Nat.mul_le_mul hle hle; omega
  have ho2 : (m + n) % 2 = 1 := by
    have h1 := sq_mod4 m
    have h2 := sq_mod4 n
    have e1 : (m : Int) * m = u := by exact_mod_cast hm
    have e2 : (n : Int) * n = v := by exact_mod_cast hn
    omega
  have hg2 : Nat.gcd m n = 1 := by
    refine cop_of hcop fun d h1 h2 => ⟨?_, ?_⟩
    · rw [← hm]; exact Nat.dvd_mul_right_of_dvd h1 _
    · rw [← hn]; exact Nat.dvd_mul_right_of_dvd h2 _
  refine ⟨m, n, ⟨n1, hmn, ho2, hg2⟩, ?_, ?_, ?_⟩
  · rw [ea, ← hm, ← hn]; push_cast; rfl
  · rw [hk, ← emn]; push_cast; rfl
  · rw [ec, ← hm, ← hn]; push_cast; rfl
theorem nd_tri {m n : Nat} (h : Nd m n) (hc : m * m + n * n ≤ 100000) : triB ((m : Int) * m - n * n) (2 * ((m : Int) * n)) ((m : Int) * m + n * n) = true := by
  obtain ⟨n1, hmn, ho, hg⟩ := h
  obtain ⟨d, rfl⟩ : ∃ d, m = n + d := ⟨m - n, by omega⟩
  have hd1 : 1 ≤ d := by omega
  have ea : ((n + d : Nat) : Int) * (n + d : Nat) - n * n = ((d * (2 * n + d) : Nat) : Int) := by push_cast; grind
  have eb : 2 * (((n + d : Nat) : Int) * n) = ((2 * ((n + d) * n) : Nat) : Int) := by push_cast; grind
  have ec : ((n + d : Nat) : Int) * (n + d : Nat) + n * n = (((n + d) * (n + d) + n * n : Nat) : Int) := by push_cast; rfl
  have gdn : Nat.gcd d n = 1 := cop_of hg fun e h1 h2 => ⟨Nat.dvd_add h2 h1, h2⟩
  have gdm : Nat.gcd d (n + d) = 1 := cop_of hg fun e h1 h2 => ⟨h2, (Nat.dvd_add_left h1).1 h2⟩
  have gsn : Nat.gcd (2 * n + d) n = 1 := cop_of gdn fun e h1 h2 => ⟨(Nat.dvd_add_right (Nat.dvd_mul_left_of_dvd h2 2)).1 h1, h2⟩
  have gsm : Nat.gcd (2 * n + d) (n + d) = 1 := cop_of hg fun e h1 h2 => by
    have : e ∣ n := by
      have e3 : 2 * n + d = n + (n + d) := by omega
      rw [e3] at h1
      exact (Nat.dvd_add_left h2).1 h1
    exact ⟨h2, this⟩
  have g2d : Nat.gcd d 2 = 1 := by
    rw [Nat.gcd_comm, Nat.gcd_rec, show d % 2 = 1 by omega]; rfl
  have g2s : Nat.gcd (2 * n + d) 2 = 1 := by
    rw [Nat.gcd_comm, Nat.gcd_rec, show (2 * n + d) % 2 = 1 by omega]; rfl
  have g1 : Nat.gcd (d * (2 * n + d)) (2 * ((n + d) * n)) = 1 :=
    Nat.Coprime.mul_left (Nat.Coprime.mul_right g2d (Nat.Coprime.mul_right gdm gdn)) (Nat.Coprime.mul_right g2s (Nat.Coprime.mul_right gsm gsn))
  have p1 : 1 ≤ d * (2 * n + d) := Nat.mul_pos hd1 (by omega)
  have p2 : 1 ≤ (n + d) * n := Nat.mul_pos (by omega) n1
  have hodd : d * (2 * n + d) % 2 = 1 := by rw [Nat.mul_mod, show d % 2 = 1 by omega, show (2 * n + d) % 2 = 1 by omega]
  have pyth : d * (2 * n + d) * (d * (2 * n + d)) + 2 * ((n + d) * n) * (2 * ((n + d) * n)) = ((n + d) * (n + d) + n * n) * ((n + d) * (n + d) + n * n) := by grind
  have s1 : d * (2 * n + d) ≤ (n + d) * (n + d) + n * n := by
    have : (n + d) * (n + d) + n * n = d * (2 * n + d) + 2 * (n * n) := by grind
    omega
  have s2 : 2 * ((n + d) * n) ≤ (n + d) * (n + d) + n * n := by
    have : (n + d) * (n + d) + n * n = 2 * ((n + d) * n) + d * d := by grind
    omega
  rw [ea, eb, ec]
  refine triB_iff.2 ⟨⟨by omega, by omega⟩, ⟨by omega, by omega⟩, ⟨by omega, by omega⟩, by exact_mod_cast pyth, by omega, ?_⟩
  rw [Int.natAbs_natCast, Int.natAbs_natCast]
  exact g1
theorem nd_of_tri {m n : Nat} (h1 : 1 ≤ n) (h2 : n < m) (h : triB ((m : Int) * m - n * n) (2 * ((m : Int) * n)) ((m : Int) * m + n * n) = true) : Nd m n := by
  obtain ⟨_, _, _, e, ho, hg⟩ := triB_iff.1 h
  refine ⟨h1, h2, ?_, ?_⟩
  · have e1 := sq_mod4 m
    have e2 := sq_mod4 n
    omega
  · refine cop_of hg fun d k1 k2 => ⟨?_, ?_⟩
    · have q1 : (d : Int) ∣ (m : Int) := Int.natCast_dvd_natCast.2 k1
      have q2 : (d : Int) ∣ (n : Int) := Int.natCast_dvd_natCast.2 k2
      exact Int.ofNat_dvd_left.1 (Int.dvd_sub (Int.dvd_mul_of_dvd_left q1) (Int.dvd_mul_of_dvd_left q2))
    · have q1 : (d : Int) ∣ (m : Int) := Int.natCast_dvd_natCast.2 k1
      exact Int.ofNat_dvd_left.1 (Int.dvd_mul_of_dvd_right (Int.dvd_mul_of_dvd_left q1))
/-- m and n are known by the triple -/
theorem nd_inj {m n p q : Nat} (e1 : (m : Int) * m - n * n = p * p - q * q) (e2 : (m : Int) * m + n * n = p * p + q * q) : m = p ∧ n = q := by
  have h1 : (m : Int) * m = p * p := by omega
  have h2 : (n : Int) * n = q * q := by omega
  exact ⟨Nat.mul_self_inj.1 (by exact_mod_cast h1), Nat.mul_self_inj.1 (by exact_mod_cast h2)⟩

/-- the child k -/
def chiM (k : Nat) (m n : Nat) : Nat := if k = 0 then 2 * m - n else if k = 1 then 2 * m + n else m + 2 * n
def chiN (k : Nat) (m n : Nat) : Nat := if k = 0 then m else if k = 1 then m else n
theorem chi_nd {m n : Nat} (h : Nd m n) (k : Nat) : Nd (chiM k m n) (chiN k m n) := by
  obtain ⟨n1, hmn, ho, hg⟩ := h
  unfold chiM chiN Nd
  by_cases h0 : k = 0
  · rw [if_pos h0, if_pos h0]
    refine ⟨by omega, by omega, by omega, cop_of hg fun d k1 k2 => ⟨k2, ?_⟩⟩
    have := Nat.dvd_sub (Nat.dvd_mul_left_of_dvd k2 2) k1
    rwa [show 2 * m - (2 * m - n) = n by omega] at this
  · rw [if_neg h0, if_neg h0]
    by_cases h1 : k = 1
    · rw [if_pos h1, if_pos h1]
      refine ⟨by omega, by omega, by omega, cop_of hg fun d k1 k2 => ⟨k2, (Nat.dvd_add_right (Nat.dvd_mul_left_of_dvd k2 2)).1 k1⟩⟩
    · rw [if_neg h1, if_neg h1]
      exact ⟨by omega, by omega, by omega, cop_of hg fun d k1 k2 => ⟨(Nat.dvd_add_left (Nat.dvd_mul_left_of_dvd k2 2)).1 k1, k2⟩⟩
/-- the parent, and which child of it one is -/
def parM (m n : Nat) : Nat := if m < 2 * n then n else if m < 3 * n then n else m - 2 * n
def parN (m n : Nat) : Nat := if m < 2 * n then 2 * n - m else if m < 3 * n then m - 2 * n else n
def parK (m n : Nat) : Nat := if m < 2 * n then 0 else if m < 3 * n then 1 else 2
theorem nd_root {m n : Nat} (h : Nd m n) (e : m = 2 * n) : m = 2 ∧ n = 1 := by
  obtain ⟨n1, hmn, ho, hg⟩ := h
  have : n ∣ Nat.gcd m n := Nat.dvd_gcd ⟨2, by omega⟩ (Nat.dvd_refl n)
  rw [hg] at this
  have := Nat.dvd_one.1 this
  omega
theorem par_nd {m n : Nat} (h : Nd m n) (e : m ≠ 2 * n) : Nd (parM m n) (parN m n) ∧ parM m n < m ∧ parN m n ≤ n := by
  obtain ⟨n1, hmn, ho, hg⟩ := h
  have h3 : m ≠ 3 * n := fun e3 => by
    have : n ∣ Nat.gcd m n := Nat.dvd_gcd ⟨3, by omega⟩ (Nat.dvd_refl n)
    rw [hg] at this
    have := Nat.dvd_one.1 this
    omega
  unfold parM parN Nd
  by_cases h1 : m < 2 * n
  · rw [if_pos h1, if_pos h1]
    refine ⟨⟨by omega, by omega, by omega, cop_of hg fun d k1 k2 => ⟨?_, k1⟩⟩, by omega, by omega⟩
    have := Nat.dvd_sub (Nat.dvd_mul_left_of_dvd k1 2) k2
    rwa [show 2 * n - (2 * n - m) = m by omega] at this
  · rw [if_neg h1, if_neg h1]
    by_cases h2 : m < 3 * n
    · rw [if_pos h2, if_pos h2]
      refine ⟨⟨by omega, by omega, by omega, cop_of hg fun d k1 k2 => ⟨?_, k1⟩⟩, by omega, by omega⟩
      have := Nat.dvd_add k2 (Nat.dvd_mul_left_of_dvd k1 2)
      rwa [show m - 2 * n + 2 * n = m by omega] at this
    · rw [if_neg h2, if_neg h2]
      refine ⟨⟨by omega, by omega, by omega, cop_of hg fun d k1 k2 => ⟨?_, k2⟩⟩, by omega, by omega⟩
      have := Nat.dvd_add k1 (Nat.dvd_mul_left_of_dvd k2 2)
      rwa [show m - 2 * n + 2 * n = m by omega] at this
theorem par_chi {m n : Nat} (h : Nd m n) {k : Nat} (hk : k < 3) : parM (chiM k m n) (chiN k m n) = m ∧ parN (chiM k m n) (chiN k m n) = n ∧ parK (chiM k m n) (chiN k m n) = k ∧ chiM k m n ≠ 2 * chiN k m n := by
  obtain ⟨n1, hmn, ho, hg⟩ := h
  have h3 : k = 0 ∨ k = 1 ∨ k = 2 := by omega
  rcases h3 with rfl | rfl | rfl
  · show parM (2 * m - n) m = m ∧ parN (2 * m - n) m = n ∧ parK (2 * m - n) m = 0 ∧ 2 * m - n ≠ 2 * m
    unfold parM parN parK
    rw [if_pos (show 2 * m - n < 2 * m by omega), if_pos (show 2 * m - n < 2 * m by omega), if_pos (show 2 * m - n < 2 * m by omega)]
    omega
  · show parM (2 * m + n) m = m ∧ parN (2 * m + n) m = n ∧ parK (2 * m + n) m = 1 ∧ 2 * m + n ≠ 2 * m
    unfold parM parN parK
    have h1 : ¬ 2 * m + n < 2 * m := by omega
    have h2 : 2 * m + n < 3 * m := by omega
    rw [if_neg h1, if_neg h1, if_neg h1, if_pos h2, if_pos h2, if_pos h2]
    omega
  · show parM (m + 2 * n) n = m ∧ parN (m + 2 * n) n = n ∧ parK (m + 2 * n) n = 2 ∧ m + 2 * n ≠ 2 * n
    unfold parM parN parK
    have h1 : ¬ m + 2 * n < 2 * n := by omega
    have h2 : ¬ m + 2 * n < 3 * n := by omega
    rw [if_neg h1, if_neg h1, if_neg h1, if_neg h2, if_neg h2, if_neg h2]
    omega
theorem chi_par {m n : Nat} (h : Nd m n) (e : m ≠ 2 * n) : chiM (parK m n) (parM m n) (parN m n) = m ∧ chiN (parK m n) (parM m n) (parN m n) = n ∧ parK m n < 3 := by
  obtain ⟨n1, hmn, ho, hg⟩ := h
  unfold parM parN parK
  by_cases h1 : m < 2 * n
  · rw [if_pos h1, if_pos h1, if_pos h1]
    show 2 * n - (2 * n - m) = m ∧ n = n ∧ 0 < 3
    omega
  · rw [if_neg h1, if_neg h1, if_neg h1]
    by_cases h2 : m < 3 * n
    · rw [if_pos h2, if_pos h2, if_pos h2]
      show 2 * n + (m - 2 * n) = m ∧ n = n ∧ 1 < 3
      omega
    · rw [if_neg h2, if_neg h2, if_neg h2]
      show m - 2 * n + 2 * n = m ∧ n = n ∧ 2 < 3
      omega
/-- how often the parent leads on -/
def depF : Nat → Nat → Nat → Nat
  | 0, _, _ => 0
  | f + 1, m, n => if m = 2 * n then 0 else depF f (parM m n) (parN m n) + 1
def depN (m n : Nat) : Nat := depF m m n
theorem depF_any : ∀ (f g m n : Nat), Nd m n → m ≤ f → m ≤ g → depF f m n = depF g m n
  | 0, g, m, n, h, h1, h2 => by have := h.2.1; omega
  | f + 1, 0, m, n, h, h1, h2 => by have := h.2.1; omega
  | f + 1, g + 1, m, n, h, h1, h2 => by
    unfold depF
    by_cases e : m = 2 * n
    · rw [if_pos e, if_pos e]
    · rw [if_neg e, if_neg e]
      obtain ⟨hn, hl, _⟩ := par_nd h e
      rw [depF_any f g _ _ hn (by omega) (by omega)]
theorem dep_root {m n : Nat} (e : m = 2 * n) : depN m n = 0 := by
  unfold depN
  cases m with
  | zero => rfl
  | succ m => unfold depF; rw [if_pos e]
theorem dep_step {m n : Nat} (h : Nd m n) (e : m ≠ 2 * n) : depN m n = depN (parM m n) (parN m n) + 1 := by
  obtain ⟨hn, hl, _⟩ := par_nd h e
  have h0 := h.2.1
  unfold depN
  obtain ⟨k, rfl⟩ : ∃ k, m = k + 1 := ⟨m - 1, by omega⟩
  conv => lhs; unfold depF
  rw [if_neg e, depF_any k _ _ _ hn (by omega) (Nat.le_refl _)]
theorem dep_le : ∀ (f m n : Nat), depF f m n ≤ f
  | 0, _, _ => Nat.le_refl _
  | f + 1, m, n => by
    unfold depF
    split
    · omega
    · have := dep_le f (parM m n) (parN m n); omega

end Go.Proofs.Ytenibnblibnocaa
