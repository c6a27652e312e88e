/-
  Some texts in one file: Num Tri TriV Res4 Math Loops.
-/
import Derived.Test.YtenibnblibnocabProg
import Derived.WalkKit
import Derived.WalkSpells
import Derived.WalkLawsBesides
/-! Num -/
set_option linter.unusedVariables false
namespace Go.Proofs.Ytenibnblibnocab
open Go.RowKit

theorem hid {p : Prop} (h : p) : Hid p := h
theorem retB {a b : Bool} (h : a = b) : Ending.returned (.bool a) = .returned (.bool b) := by rw [h]
theorem vI {a b : Int} (h : a = b) : Value.int .i64 a = .int .i64 b := by rw [h]
theorem retI {a b : Int} (h : a = b) : Ending.returned (.int .i64 a) = .returned (.int .i64 b) := by rw [h]

/-- Is it a number of the document? -/
def okN (n : Int) : Bool := decide (-5000 ≤ n) && decide (n ≤ 5000)
theorem okN_iff {n : Int} : okN n = true ↔ -5000 ≤ n ∧ n ≤ 5000 := by simp [okN]
theorem okN_no {n : Int} : okN n = false ↔ n < -5000 ∨ 5000 < n := by
  rw [← Bool.not_eq_true, okN_iff]; omega
theorem okN_cases (n : Int) : (-5000 ≤ n ∧ n ≤ 5000 ∧ okN n = true) ∨ (n < -5000 ∧ okN n = false) ∨ (-5000 ≤ n ∧ 5000 < n ∧ okN n = false) := by
  by_cases h1 : -5000 ≤ n
  · by_cases h2 : n ≤ 5000
    · exact .inl ⟨h1, h2, okN_iff.2 ⟨h1, h2⟩⟩
    · exact .inr (.inr ⟨h1, by omega, okN_no.2 (by omega)⟩)
  · exact .inr (.inl ⟨by omega, okN_no.2 (by omega)⟩)

def inR (n a b : Int) : Bool := decide (a ≤ n) && decide (n ≤ b)
theorem inR_cases (n a b : Int) : (a ≤ n ∧ n ≤ b ∧ inR n a b = true) ∨ (n < a ∧ inR n a b = false) ∨ (a ≤ n ∧ b < n ∧ inR n a b = false) := by
  unfold inR
  by_cases h1 : a ≤ n
  · by_cases h2 : n ≤ b
    · exact .inl ⟨h1, h2, by simp [h1, h2]⟩
    · exact .inr (.inr ⟨h1, by omega, by simp [h2]⟩)
  · exact .inr (.inl ⟨by omega, by simp [h1]⟩)

theorem valid_any (n : Int) (w : World) : Calls Try.prog 74 #[.int .i64 n] w fun e w' => e = .returned (.bool (okN n)) ∧ w = w' := by
  rcases okN_cases n with ⟨h1, h2, H⟩ | ⟨h1, H⟩ | ⟨h1, h2, H⟩
  all_goals
    go_enter Try.func74, Try.ntmps74
    go_wp2
    go_ret
    exact ⟨retB (by first | rfl | exact H.symm | (rw [H]; simp; omega)), rfl⟩

theorem l6In_any (n a b : Int) (w : World) : Calls Try.prog 79 #[.int .i64 n, .int .i64 a, .int .i64 b] w fun e w' => e = .returned (.bool (inR n a b)) ∧ w = w' := by
  rcases inR_cases n a b with ⟨h1, h2, H⟩ | ⟨h1, H⟩ | ⟨h1, h2, H⟩
  all_goals
    go_enter Try.func79, Try.ntmps79
    go_wp2
    go_ret
    exact ⟨retB (by first | rfl | exact H.symm | (rw [H]; simp; omega)), rfl⟩

def factB (n : Int) : Bool := okN n && decide (n ≠ 0)
theorem factB_yes {n : Int} (h1 : -5000 ≤ n) (h2 : n ≤ 5000) (h : n ≠ 0) : factB n = true := by simp [factB, okN, h1, h2, h]
theorem factB_no {n : Int} (h : n < -5000 ∨ 5000 < n ∨ n = 0) : factB n = false := by
  unfold factB okN
  rcases h with h | h | h
  · simp [show ¬ -5000 ≤ n by omega]
  · simp [show ¬ n ≤ 5000 by omega]
  · simp [h]

theorem size_any (n : Int) (h1 : -4611686018427387904 ≤ n) (h2 : n ≤ 4611686018427387904) (w : World) : Calls Try.prog 105 #[.int .i64 n] w fun e w' => e = .returned (.int .i64 n.natAbs) ∧ w = w' := by
  by_cases h : n < 0
  · have hn : (n.natAbs : Int) = -n := by omega
    have HN := hid hn; clear hn
    go_enter Try.func105, Try.ntmps105
    go_wp2
    go_ret
    exact ⟨retI HN.out.symm, rfl⟩
  · have hn : (n.natAbs : Int) = n := by omega
    have HN := hid hn; clear hn
    go_enter Try.func105, Try.ntmps105
    go_wp2
    go_ret
    exact ⟨retI HN.out.symm, rfl⟩

theorem tmod_lt_abs (n m : Int) (hm : 1 ≤ m) : -m < n.tmod m ∧ n.tmod m < m := by
  have ht := Int.tmod_eq_emod (a := n) (b := m)
  have hb := Int.emod_lt_of_pos n (show 0 < m by omega)
  have hb2 := Int.emod_nonneg n (show m ≠ 0 by omega)
  rw [ht]
  by_cases hd : m ∣ n
  · rw [if_pos (.inr hd), Int.emod_eq_zero_of_dvd hd]; omega
  · have : n % m ≠ 0 := fun e => hd (Int.dvd_of_emod_eq_zero e)
    split <;> omega

theorem tmod_add_emod (n m : Int) (hm : 1 ≤ m) : (n.tmod m + m).tmod m = n % m := by
  have hb := tmod_lt_abs n m hm
  rw [Int.tmod_eq_emod_of_nonneg (by omega), Int.tmod_eq_emod]
  split
  · simp
  · rw [show n % m - ↑m.natAbs + m = n % m by omega]; simp

end Go.Proofs.Ytenibnblibnocab

/-! Tri -/
set_option linter.unusedVariables false
namespace Go.Proofs.Ytenibnblibnocab
open Go.RowKit

/-- three integers that are a triple -/
def triB (a b c : Int) : Bool := inR a 1 100000 && (inR b 1 100000 && (inR c 1 100000 && (decide (a * a + b * b = c * c) && (decide (a % 2 = 1) && decide (Nat.gcd a.natAbs b.natAbs = 1)))))
theorem triB_iff {a b c : Int} : triB a b c = true ↔ (1 ≤ a ∧ a ≤ 100000) ∧ (1 ≤ b ∧ b ≤ 100000) ∧ (1 ≤ c ∧ c ≤ 100000) ∧ a * a + b * b = c * c ∧ a % 2 = 1 ∧ Nat.gcd a.natAbs b.natAbs = 1 := by
  unfold triB inR
  simp only [Bool.and_eq_true, decide_eq_true_eq]
/-- the m and n of a triple -/
def Nd (m n : Nat) : Prop := 1 ≤ n ∧ n < m ∧ (m + n) % 2 = 1 ∧ Nat.gcd m n = 1
theorem cop_of {m n p q : Nat} (h : Nat.gcd m n = 1) (hd : ∀ d, d ∣ p → d ∣ q → d ∣ m ∧ d ∣ n) : Nat.gcd p q = 1 := by
  obtain ⟨h1, h2⟩ := hd _ (Nat.gcd_dvd_left p q) (Nat.gcd_dvd_right p q)
  have := Nat.dvd_gcd h1 h2
  rw [h] at this
  exact Nat.dvd_one.1 this
theorem sq_of_cop {u v h : Nat} (e : u * v = h * h) (hc : Nat.gcd u v = 1) : Nat.gcd u h * Nat.gcd u h = u := by
  have h1 : (u ^ 2).gcd (h ^ 2) = u.gcd h ^ 2 := Nat.pow_gcd_pow
  rw [Nat.pow_two, Nat.pow_two, Nat.pow_two, ← e, Nat.gcd_mul_left, hc, Nat.mul_one] at h1
  exact h1.symm
theorem sq_mod4 (x : Int) : x * x % 4 = 0 ∧ x % 2 = 0 ∨ x * x % 4 = 1 ∧ x % 2 = 1 := by
  have h := Int.emod_nonneg x (b := 4) (by decide)
  have h2 := Int.emod_lt_of_pos x (b := 4) (by decide)
  have e : x * x % 4 = (x % 4) * (x % 4) % 4 := Int.mul_emod x x 4
  have h4 : x % 4 = 0 ∨ x % 4 = 1 ∨ x % 4 = 2 ∨ x % 4 = 3 := by omega
  rcases h4 with h4 | h4 | h4 | h4 <;> rw [h4] at e <;> omega
/-- each triple is made of two numbers -/
theorem tri_nd {a b c : Int} (h : triB a b c = true) : ∃ m n : Nat, Nd m n ∧ a = m * m - n * n ∧ b = 2 * (m * n) ∧ c = m * m + n * n := by
  obtain ⟨⟨a1, a2⟩, ⟨b1, b2⟩, ⟨c1, c2⟩, e, ho, hg⟩ := triB_iff.1 h
  have hb : b % 2 = 0 := by
    rcases sq_mod4 a with h1 | h1 <;> rcases sq_mod4 b with h2 | h2 <;> rcases sq_mod4 c with h3 | h3 <;> omega
  have hc : c % 2 = 1 := by
    rcases sq_mod4 a with h1 | h1 <;> rcases sq_mod4 b with h2 | h2 <;> rcases sq_mod4 c with h3 | h3 <;> omega
  obtain ⟨u, hu⟩ : ∃ u : Nat, c + a = 2 * (u : Int) := ⟨((c + a) / 2).toNat, by omega⟩
  have hlt : a < c := Int.not_le.1 fun hle => by
    have h1 : c * c ≤ a * a := Int.mul_le_mul hle hle (by omega) (by omega)
    have h2 : 0 < b * b := Int.mul_pos (by omega) (by omega)
    omega
  obtain ⟨v, hv⟩ : ∃ v : Nat, c - a = 2 * (v : Int) := ⟨((c - a) / 2).toNat, by omega⟩
  obtain ⟨k, hk⟩ : ∃ k : Nat, b = 2 * (k : Int) := ⟨(b / 2).toNat, by omega⟩
  have ec : c = u + v := by omega
  have ea : a = u - v := by omega
  have huv : (u : Int) * v = k * k := by
    rw [ea, ec, hk] at e
    grind
  have huvN : u * v = k * k := by exact_mod_cast huv
  have hcop : Nat.gcd u v = 1 := by
    have hg2 : Nat.gcd a.natAbs (b.natAbs * b.natAbs) = 1 := Nat.Coprime.mul_right hg hg
    refine cop_of hg2 fun d h1 h2 => ?_
    have k1 : (d : Int) ∣ u := Int.natCast_dvd_natCast.2 h1
    have k2 : (d : Int) ∣ v := Int.natCast_dvd_natCast.2 h2
    have k3 : (d : Int) ∣ a := by rw [ea]; exact Int.dvd_sub k1 k2
    have k4 : (d : Int) ∣ c := by rw [ec]; exact Int.dvd_add k1 k2
    have k5 : (d : Int) ∣ b * b := by
      have : b * b = c * c - a * a := by omega
      rw [this]
      exact Int.dvd_sub (Int.dvd_mul_of_dvd_left k4) (Int.dvd_mul_of_dvd_left k3)
    refine ⟨Int.ofNat_dvd_left.1 k3, ?_⟩
    rw [← Int.natAbs_mul]
    exact Int.ofNat_dvd_left.1 k5
  have hm := sq_of_cop huvN hcop
  have hn := sq_of_cop (u := v) (v := u) (h := k) (by rw [Nat.mul_comm]; exact huvN) (by rw [Nat.gcd_comm]; exact hcop)
  obtain ⟨m, em⟩ : ∃ m, m = Nat.gcd u k := ⟨_, rfl⟩
  obtain ⟨n, en⟩ : ∃ n, n = Nat.gcd v k := ⟨_, rfl⟩
  rw [← em] at hm
  rw [← en] at hn
  have emn : m * n = k := by
    have : (m * n) * (m * n) = k * k := by rw [← huvN, ← hm, ← hn]; simp only [Nat.mul_assoc, Nat.mul_left_comm]
    exact Nat.mul_self_inj.1 this
  have n1 : 1 ≤ n := by
    rcases Nat.eq_zero_or_pos n with h0 | h0
    · rw [h0] at hn; omega
    · exact h0
  have hmn : n < m := Nat.not_le.1 fun hle => by have := Nat.mul_le_mul hle hle; omega
  have ho2 : (m + n) % 2 = 1 := by
    have h1 := sq_mod4 m
    have h2 := sq_mod4 n
    have e1 : (m : Int) * m = u := by exact_mod_cast hm
    have e2 : (n : Int) * n = v := by exact_mod_cast hn
    omega
  have hg2 : Nat.gcd m n = 1 := by
    refine cop_of hcop fun d h1 h2 => ⟨?_, ?_⟩
    · rw [← hm]; exact Nat.dvd_mul_right_of_dvd h1 _
    · rw [← hn]; exact Nat.dvd_mul_right_of_dvd h2 _
  refine ⟨m, n, ⟨n1, hmn, ho2, hg2⟩, ?_, ?_, ?_⟩
  · rw [ea, ← hm, ← hn]; push_cast; rfl
  · rw [hk, ← emn]; push_cast; rfl
  · rw [ec, ← hm, ← hn]; push_cast; rfl
theorem nd_tri {m n : Nat} (h : Nd m n) (hc : m * m + n * n ≤ 100000) : triB ((m : Int) * m - n * n) (2 * ((m : Int) * n)) ((m : Int) * m + n * n) = true := by
  obtain ⟨n1, hmn, ho, hg⟩ := h
  obtain ⟨d, rfl⟩ : ∃ d, m = n + d := ⟨m - n, by omega⟩
  have hd1 : 1 ≤ d := by omega
  have ea : ((n + d : Nat) : Int) * (n + d : Nat) - n * n = ((d * (2 * n + d) : Nat) : Int) := by push_cast; grind
  have eb : 2 * (((n + d : Nat) : Int) * n) = ((2 * ((n + d) * n) : Nat) : Int) := by push_cast; grind
  have ec : ((n + d : Nat) : Int) * (n + d : Nat) + n * n = (((n + d) * (n + d) + n * n : Nat) : Int) := by push_cast; rfl
  have gdn : Nat.gcd d n = 1 := cop_of hg fun e h1 h2 => ⟨Nat.dvd_add h2 h1, h2⟩
  have gdm : Nat.gcd d (n + d) = 1 := cop_of hg fun e h1 h2 => ⟨h2, (Nat.dvd_add_left h1).1 h2⟩
  have gsn : Nat.gcd (2 * n + d) n = 1 := cop_of gdn fun e h1 h2 => ⟨(Nat.dvd_add_right (Nat.dvd_mul_left_of_dvd h2 2)).1 h1, h2⟩
  have gsm : Nat.gcd (2 * n + d) (n + d) = 1 := cop_of hg fun e h1 h2 => by
    have : e ∣ n := by
      have e3 : 2 * n + d = n + (n + d) := by omega
      rw [e3] at h1
      exact (Nat.dvd_add_left h2).1 h1
    exact ⟨h2, this⟩
  have g2d : Nat.gcd d 2 = 1 := by
    rw [Nat.gcd_comm, Nat.gcd_rec, show d % 2 = 1 by omega]; rfl
  have g2s : Nat.gcd (2 * n + d) 2 = 1 := by
    rw [Nat.gcd_comm, Nat.gcd_rec, show (2 * n + d) % 2 = 1 by omega]; rfl
  have g1 : Nat.gcd (d * (2 * n + d)) (2 * ((n + d) * n)) = 1 :=
    Nat.Coprime.mul_left (Nat.Coprime.mul_right g2d (Nat.Coprime.mul_right gdm gdn)) (Nat.Coprime.mul_right g2s (Nat.Coprime.mul_right gsm gsn))
  have p1 : 1 ≤ d * (2 * n + d) := Nat.mul_pos hd1 (by omega)
  have p2 : 1 ≤ (n + d) * n := Nat.mul_pos (by omega) n1
  have hodd : d * (2 * n + d) % 2 = 1 := by rw [Nat.mul_mod, show d % 2 = 1 by omega, show (2 * n + d) % 2 = 1 by omega]
  have pyth : d * (2 * n + d) * (d * (2 * n + d)) + 2 * ((n + d) * n) * (2 * ((n + d) * n)) = ((n + d) * (n + d) + n * n) * ((n + d) * (n + d) + n * n) := by grind
  have s1 : d * (2 * n + d) ≤ (n + d) * (n + d) + n * n := by
    have : (n + d) * (n + d) + n * n = d * (2 * n + d) + 2 * (n * n) := by grind
    omega
  have s2 : 2 * ((n + d) * n) ≤ (n + d) * (n + d) + n * n := by
    have : (n + d) * (n + d) + n * n = 2 * ((n + d) * n) + d * d := by grind
    omega
  rw [ea, eb, ec]
  refine triB_iff.2 ⟨⟨by omega, by omega⟩, ⟨by omega, by omega⟩, ⟨by omega, by omega⟩, by exact_mod_cast pyth, by omega, ?_⟩
  rw [Int.natAbs_natCast, Int.natAbs_natCast]
  exact g1
theorem nd_of_tri {m n : Nat} (h1 : 1 ≤ n) (h2 : n < m) (h : triB ((m : Int) * m - n * n) (2 * ((m : Int) * n)) ((m : Int) * m + n * n) = true) : Nd m n := by
  obtain ⟨_, _, _, e, ho, hg⟩ := triB_iff.1 h
  refine ⟨h1, h2, ?_, ?_⟩
  · have e1 := sq_mod4 m
    have e2 := sq_mod4 n
    omega
  · refine cop_of hg fun d k1 k2 => ⟨?_, ?_⟩
    · have q1 : (d : Int) ∣ (m : Int) := Int.natCast_dvd_natCast.2 k1
      have q2 : (d : Int) ∣ (n : Int) := Int.natCast_dvd_natCast.2 k2
      exact Int.ofNat_dvd_left.1 (Int.dvd_sub (Int.dvd_mul_of_dvd_left q1) (Int.dvd_mul_of_dvd_left q2))
    · have q1 : (d : Int) ∣ (m : Int) := Int.natCast_dvd_natCast.2 k1
      exact Int.ofNat_dvd_left.1 (Int.dvd_mul_of_dvd_right (Int.dvd_mul_of_dvd_left q1))
/-- m and n are known by the triple -/
theorem nd_inj {m n p q : Nat} (e1 : (m : Int) * m - n * n = p * p - q * q) (e2 : (m : Int) * m + n * n = p * p + q * q) : m = p ∧ n = q := by
  have h1 : (m : Int) * m = p * p := by omega
  have h2 : (n : Int) * n = q * q := by omega
  exact ⟨Nat.mul_self_inj.1 (by exact_mod_cast h1), Nat.mul_self_inj.1 (by exact_mod_cast h2)⟩

/-- the child k -/
def chiM (k : Nat) (m n : Nat) : Nat := if k = 0 then 2 * m - n else if k = 1 then 2 * m + n else m + 2 * n
def chiN (k : Nat) (m n : Nat) : Nat := if k = 0 then m else if k = 1 then m else n
theorem chi_nd {m n : Nat} (h : Nd m n) (k : Nat) : Nd (chiM k m n) (chiN k m n) := by
  obtain ⟨n1, hmn, ho, hg⟩ := h
  unfold chiM chiN Nd
  by_cases h0 : k = 0
  · rw [if_pos h0, if_pos h0]
    refine ⟨by omega, by omega, by omega, cop_of hg fun d k1 k2 => ⟨k2, ?_⟩⟩
    have := Nat.dvd_sub (Nat.dvd_mul_left_of_dvd k2 2) k1
    rwa [show 2 * m - (2 * m - n) = n by omega] at this
  · rw [if_neg h0, if_neg h0]
    by_cases h1 : k = 1
    · rw [if_pos h1, if_pos h1]
      refine ⟨by omega, by omega, by omega, cop_of hg fun d k1 k2 => ⟨k2, (Nat.dvd_add_right (Nat.dvd_mul_left_of_dvd k2 2)).1 k1⟩⟩
    · rw [if_neg h1, if_neg h1]
      exact ⟨by omega, by omega, by omega, cop_of hg fun d k1 k2 => ⟨(Nat.dvd_add_left (Nat.dvd_mul_left_of_dvd k2 2)).1 k1, k2⟩⟩
/-- the parent, and which child of it one is -/
def parM (m n : Nat) : Nat := if m < 2 * n then n else if m < 3 * n then n else m - 2 * n
def parN (m n : Nat) : Nat := if m < 2 * n then 2 * n - m else if m < 3 * n then m - 2 * n else n
def parK (m n : Nat) : Nat := if m < 2 * n then 0 else if m < 3 * n then 1 else 2
theorem nd_root {m n : Nat} (h : Nd m n) (e : m = 2 * n) : m = 2 ∧ n = 1 := by
  obtain ⟨n1, hmn, ho, hg⟩ := h
  have : n ∣ Nat.gcd m n := Nat.dvd_gcd ⟨2, by omega⟩ (Nat.dvd_refl n)
  rw [hg] at this
  have := Nat.dvd_one.1 this
  omega
theorem par_nd {m n : Nat} (h : Nd m n) (e : m ≠ 2 * n) : Nd (parM m n) (parN m n) ∧ parM m n < m ∧ parN m n ≤ n := by
  obtain ⟨n1, hmn, ho, hg⟩ := h
  have h3 : m ≠ 3 * n := fun e3 => by
    have : n ∣ Nat.gcd m n := Nat.dvd_gcd ⟨3, by omega⟩ (Nat.dvd_refl n)
    rw [hg] at this
    have := Nat.dvd_one.1 this
    omega
  unfold parM parN Nd
  by_cases h1 : m < 2 * n
  · rw [if_pos h1, if_pos h1]
    refine ⟨⟨by omega, by omega, by omega, cop_of hg fun d k1 k2 => ⟨?_, k1⟩⟩, by omega, by omega⟩
    have := Nat.dvd_sub (Nat.dvd_mul_left_of_dvd k1 2) k2
    rwa [show 2 * n - (2 * n - m) = m by omega] at this
  · rw [if_neg h1, if_neg h1]
    by_cases h2 : m < 3 * n
    · rw [if_pos h2, if_pos h2]
      refine ⟨⟨by omega, by omega, by omega, cop_of hg fun d k1 k2 => ⟨?_, k1⟩⟩, by omega, by omega⟩
      have := Nat.dvd_add k2 (Nat.dvd_mul_left_of_dvd k1 2)
      rwa [show m - 2 * n + 2 * n = m by omega] at this
    · rw [if_neg h2, if_neg h2]
      refine ⟨⟨by omega, by omega, by omega, cop_of hg fun d k1 k2 => ⟨?_, k2⟩⟩, by omega, by omega⟩
      have := Nat.dvd_add k1 (Nat.dvd_mul_left_of_dvd k2 2)
      rwa [show m - 2 * n + 2 * n = m by omega] at this
theorem par_chi {m n : Nat} (h : Nd m n) {k : Nat} (hk : k < 3) : parM (chiM k m n) (chiN k m n) = m ∧ parN (chiM k m n) (chiN k m n) = n ∧ parK (chiM k m n) (chiN k m n) = k ∧ chiM k m n ≠ 2 * chiN k m n := by
  obtain ⟨n1, hmn, ho, hg⟩ := h
  have h3 : k = 0 ∨ k = 1 ∨ k = 2 := by omega
  rcases h3 with rfl | rfl | rfl
  · show parM (2 * m - n) m = m ∧ parN (2 * m - n) m = n ∧ parK (2 * m - n) m = 0 ∧ 2 * m - n ≠ 2 * m
    unfold parM parN parK
    rw [if_pos (show 2 * m - n < 2 * m by omega), if_pos (show 2 * m - n < 2 * m by omega), if_pos (show 2 * m - n < 2 * m by omega)]
    omega
  · show parM (2 * m + n) m = m ∧ parN (2 * m + n) m = n ∧ parK (2 * m + n) m = 1 ∧ 2 * m + n ≠ 2 * m
    unfold parM parN parK
    have h1 : ¬ 2 * m + n < 2 * m := by omega
    have h2 : 2 * m + n < 3 * m := by omega
    rw [if_neg h1, if_neg h1, if_neg h1, if_pos h2, if_pos h2, if_pos h2]
    omega
  · show parM (m + 2 * n) n = m ∧ parN (m + 2 * n) n = n ∧ parK (m + 2 * n) n = 2 ∧ m + 2 * n ≠ 2 * n
    unfold parM parN parK
    have h1 : ¬ m + 2 * n < 2 * n := by omega
    have h2 : ¬ m + 2 * n < 3 * n := by omega
    rw [if_neg h1, if_neg h1, if_neg h1, if_neg h2, if_neg h2, if_neg h2]
    omega
theorem chi_par {m n : Nat} (h : Nd m n) (e : m ≠ 2 * n) : chiM (parK m n) (parM m n) (parN m n) = m ∧ chiN (parK m n) (parM m n) (parN m n) = n ∧ parK m n < 3 := by
  obtain ⟨n1, hmn, ho, hg⟩ := h
  unfold parM parN parK
  by_cases h1 : m < 2 * n
  · rw [if_pos h1, if_pos h1, if_pos h1]
    show 2 * n - (2 * n - m) = m ∧ n = n ∧ 0 < 3
    omega
  · rw [if_neg h1, if_neg h1, if_neg h1]
    by_cases h2 : m < 3 * n
    · rw [if_pos h2, if_pos h2, if_pos h2]
      show 2 * n + (m - 2 * n) = m ∧ n = n ∧ 1 < 3
      omega
    · rw [if_neg h2, if_neg h2, if_neg h2]
      show m - 2 * n + 2 * n = m ∧ n = n ∧ 2 < 3
      omega
/-- how often the parent leads on -/
def depF : Nat → Nat → Nat → Nat
  | 0, _, _ => 0
  | f + 1, m, n => if m = 2 * n then 0 else depF f (parM m n) (parN m n) + 1
def depN (m n : Nat) : Nat := depF m m n
theorem depF_any : ∀ (f g m n : Nat), Nd m n → m ≤ f → m ≤ g → depF f m n = depF g m n
  | 0, g, m, n, h, h1, h2 => by have := h.2.1; omega
  | f + 1, 0, m, n, h, h1, h2 => by have := h.2.1; omega
  | f + 1, g + 1, m, n, h, h1, h2 => by
    unfold depF
    by_cases e : m = 2 * n
    · rw [if_pos e, if_pos e]
    · rw [if_neg e, if_neg e]
      obtain ⟨hn, hl, _⟩ := par_nd h e
      rw [depF_any f g _ _ hn (by omega) (by omega)]
theorem dep_root {m n : Nat} (e : m = 2 * n) : depN m n = 0 := by
  unfold depN
  cases m with
  | zero => rfl
  | succ m => unfold depF; rw [if_pos e]
theorem dep_step {m n : Nat} (h : Nd m n) (e : m ≠ 2 * n) : depN m n = depN (parM m n) (parN m n) + 1 := by
  obtain ⟨hn, hl, _⟩ := par_nd h e
  have h0 := h.2.1
  unfold depN
  obtain ⟨k, rfl⟩ : ∃ k, m = k + 1 := ⟨m - 1, by omega⟩
  conv => lhs; unfold depF
  rw [if_neg e, depF_any k _ _ _ hn (by omega) (Nat.le_refl _)]
theorem dep_le : ∀ (f m n : Nat), depF f m n ≤ f
  | 0, _, _ => Nat.le_refl _
  | f + 1, m, n => by
    unfold depF
    split
    · omega
    · have := dep_le f (parM m n) (parN m n); omega

end Go.Proofs.Ytenibnblibnocab

/-! TriV -/
set_option linter.unusedVariables false
namespace Go.Proofs.Ytenibnblibnocab
open Go.RowKit

theorem mul_bd2 {a : Int} (h1 : 1 ≤ a) (h2 : a ≤ 100000) : 0 ≤ a * a ∧ a * a ≤ 10000000000 := by
  have e1 := Int.mul_le_mul h2 h2 (by omega) (show (0 : Int) ≤ 100000 by omega)
  have e2 := Int.mul_nonneg (show 0 ≤ a by omega) (show 0 ≤ a by omega)
  omega
theorem triB_in {a b c : Int} (A : inR a 1 100000 = true) (B : inR b 1 100000 = true) (C : inR c 1 100000 = true) : triB a b c = (decide (a * a + b * b = c * c) && (decide (a % 2 = 1) && decide (Nat.gcd a.natAbs b.natAbs = 1))) := by
  unfold triB; rw [A, B, C]; rfl
theorem triB_noA {a b c : Int} (A : inR a 1 100000 = false) : triB a b c = false := by unfold triB; rw [A]; rfl
theorem triB_noB {a b c : Int} (B : inR b 1 100000 = false) : triB a b c = false := by unfold triB; rw [B, Bool.false_and, Bool.and_false]
theorem triB_noC {a b c : Int} (C : inR c 1 100000 = false) : triB a b c = false := by unfold triB; rw [C, Bool.false_and, Bool.and_false, Bool.and_false]
theorem tri_even {a b c : Int} (e : a * a + b * b = c * c) (o : a % 2 = 1) : b % 2 = 0 := by
  rcases sq_mod4 a with h1 | h1 <;> rcases sq_mod4 b with h2 | h2 <;> rcases sq_mod4 c with h3 | h3 <;> omega
/-- the triple of m and n -/
def triA (m n : Int) : Int := m * m - n * n
def triBb (m n : Int) : Int := 2 * m * n
theorem triBb_eq (m n : Int) : triBb m n = 2 * (m * n) := Int.mul_assoc ..
def triC (m n : Int) : Int := m * m + n * n
def v4 (ok : Bool) (a b c : Int) : Value := if ok then .tuple #[.int .i64 a, .int .i64 b, .int .i64 c, .bool true] else .tuple #[.int .i64 0, .int .i64 0, .int .i64 0, .bool false]
def v5 (ok : Bool) (a b c k : Int) : Value := if ok then .tuple #[.int .i64 a, .int .i64 b, .int .i64 c, .int .i64 k, .bool true] else .tuple #[.int .i64 0, .int .i64 0, .int .i64 0, .int .i64 0, .bool false]
def v3 (ok : Bool) (a b : Int) : Value := if ok then .tuple #[.int .i64 a, .int .i64 b, .bool true] else .tuple #[.int .i64 0, .int .i64 0, .bool false]
def makeOk (m n : Int) : Bool := inR m 2 316 && (inR n 1 (m - 1) && triB (triA m n) (triBb m n) (triC m n))
def makeV (m n : Int) : Value := v4 (makeOk m n) (triA m n) (triBb m n) (triC m n)
/-- m and n of a triple, as the least roots -/
def sqr (n : Nat) : Nat := ((List.range (n + 1)).find? (fun z => decide (z * z = n))).getD 0
def backM (a c : Int) : Nat := sqr ((c + a) / 2).toNat
def backN (a c : Int) : Nat := sqr ((c - a) / 2).toNat
theorem sqr_sq (m : Nat) : sqr (m * m) = m := by
  unfold sqr
  have h : (List.range (m * m + 1)).find? (fun z => decide (z * z = m * m)) = some m := by
    rw [List.find?_eq_some_iff_getElem]
    refine ⟨by simp, m, by simp; exact Nat.lt_succ_of_le (Nat.le_mul_self m), by simp, fun j hj => ?_⟩
    simp
    intro e
    have := Nat.mul_self_inj.1 e
    omega
  rw [h]; rfl
theorem back_nd {m n : Nat} (h : Nd m n) : backM (triA m n) (triC m n) = m ∧ backN (triA m n) (triC m n) = n := by
  unfold backM backN triA triC
  have e1 : ((m : Int) * m + n * n + (m * m - n * n)) / 2 = ((m * m : Nat) : Int) := by push_cast; omega
  have e2 : ((m : Int) * m + n * n - (m * m - n * n)) / 2 = ((n * n : Nat) : Int) := by push_cast; omega
  rw [e1, e2, Int.toNat_natCast, Int.toNat_natCast]
  exact ⟨sqr_sq m, sqr_sq n⟩
def tbackV (a b c : Int) : Value := v3 (triB a b c) (backM a c) (backN a c)
def nchiV (k : Int) (m n : Nat) : Value := v4 (inR k 0 2 && triB (triA (chiM k.toNat m n) (chiN k.toNat m n)) (triBb (chiM k.toNat m n) (chiN k.toNat m n)) (triC (chiM k.toNat m n) (chiN k.toNat m n))) (triA (chiM k.toNat m n) (chiN k.toNat m n)) (triBb (chiM k.toNat m n) (chiN k.toNat m n)) (triC (chiM k.toNat m n) (chiN k.toNat m n))
def childV (a b c k : Int) : Value := if triB a b c then nchiV k (backM a c) (backN a c) else v4 false 0 0 0
def nparV (m n : Nat) : Value := v5 (decide (m ≠ 2 * n)) (triA (parM m n) (parN m n)) (triBb (parM m n) (parN m n)) (triC (parM m n) (parN m n)) (parK m n : Nat)
def parentV (a b c : Int) : Value := if triB a b c then nparV (backM a c) (backN a c) else v5 false 0 0 0 0
def depthV (a b c : Int) : Int := if triB a b c then (depN (backM a c) (backN a c) : Nat) else -1
/-- a triple's m and n -/
theorem tri_back {a b c : Int} (h : triB a b c = true) : ∃ m n : Nat, Nd m n ∧ backM a c = m ∧ backN a c = n ∧ a = triA m n ∧ b = triBb m n ∧ c = triC m n ∧ m ≤ 316 ∧ n ≤ 316 := by
  obtain ⟨m, n, hn, ea, eb, ec⟩ := tri_nd h
  obtain ⟨_, _, ⟨_, hc⟩, _⟩ := triB_iff.1 h
  have hb := back_nd hn
  refine ⟨m, n, hn, ?_, ?_, ea, by rw [triBb_eq]; exact eb, ec, ?_, ?_⟩
  · rw [ea, ec]; exact hb.1
  · rw [ea, ec]; exact hb.2
  · refine Nat.not_lt.1 fun hl => ?_
    have h2 : 317 * 317 ≤ m * m := Nat.mul_le_mul hl hl
    have h3 : ((317 * 317 : Nat) : Int) ≤ (m : Int) * m := by exact_mod_cast h2
    have h4 : (0 : Int) ≤ (n : Int) * n := Int.mul_nonneg (by omega) (by omega)
    omega
  · refine Nat.not_lt.1 fun hl => ?_
    have h2 : 317 * 317 ≤ n * n := Nat.mul_le_mul hl hl
    have h3 : ((317 * 317 : Nat) : Int) ≤ (n : Int) * n := by exact_mod_cast h2
    have h4 : (0 : Int) ≤ (m : Int) * m := Int.mul_nonneg (by omega) (by omega)
    omega
theorem nd_tri2 {m n : Nat} (h : Nd m n) (hc : m * m + n * n ≤ 100000) : triB (triA m n) (triBb m n) (triC m n) = true := by rw [triBb_eq]; exact nd_tri h hc
theorem nd_c {m n : Nat} (h : Nd m n) (ht : triB (triA m n) (triBb m n) (triC m n) = true) : m * m + n * n ≤ 100000 := by
  obtain ⟨_, _, ⟨_, hc⟩, _⟩ := triB_iff.1 ht
  unfold triC at hc
  have e : ((m * m + n * n : Nat) : Int) = (m : Int) * m + n * n := by push_cast; rfl
  omega
theorem nd_316 {m n : Nat} (hc : m * m + n * n ≤ 100000) : m ≤ 316 ∧ n ≤ 316 := by
  constructor
  · refine Nat.not_lt.1 fun hl => ?_
    have h2 : 317 * 317 ≤ m * m := Nat.mul_le_mul hl hl
    omega
  · refine Nat.not_lt.1 fun hl => ?_
    have h2 : 317 * 317 ≤ n * n := Nat.mul_le_mul hl hl
    omega
theorem make_nd {m n : Nat} (h : Nd m n) : makeOk m n = triB (triA m n) (triBb m n) (triC m n) := by
  unfold makeOk
  cases ht : triB (triA m n) (triBb m n) (triC m n) with
  | false => rw [Bool.and_false, Bool.and_false]
  | true =>
    have hm := nd_316 (nd_c h ht)
    obtain ⟨n1, hl, _⟩ := h
    unfold inR
    rw [decide_eq_true (show (2 : Int) ≤ m by omega), decide_eq_true (show (m : Int) ≤ 316 by omega), decide_eq_true (show (1 : Int) ≤ n by omega), decide_eq_true (show (n : Int) ≤ m - 1 by omega)]
    rfl
theorem par_c {m n : Nat} (h : Nd m n) (e : m ≠ 2 * n) (hc : m * m + n * n ≤ 100000) : parM m n * parM m n + parN m n * parN m n ≤ 100000 := by
  obtain ⟨_, h2, h3⟩ := par_nd h e
  have q1 := Nat.mul_le_mul (Nat.le_of_lt h2) (Nat.le_of_lt h2)
  have q2 := Nat.mul_le_mul h3 h3
  omega
theorem make_par {m n : Nat} (h : Nd m n) (e : m ≠ 2 * n) (hc : m * m + n * n ≤ 100000) : makeOk (parM m n) (parN m n) = true := by
  have hp := (par_nd h e).1
  rw [make_nd hp]
  exact nd_tri2 hp (par_c h e hc)
theorem tri_nd2 {m n : Nat} (h : Nd m n) (hc : m * m + n * n ≤ 100000) : triB (triA m n) (triBb m n) (triC m n) = true ∧ backM (triA m n) (triC m n) = m ∧ backN (triA m n) (triC m n) = n := ⟨nd_tri2 h hc, back_nd h⟩

end Go.Proofs.Ytenibnblibnocab

/-! Res4 -/
set_option linter.unusedVariables false
namespace Go.Proofs.Ytenibnblibnocab
open Go.RowKit

theorem results_tmp4 {fn : Func} {t u v x : Tmp} (h : fn.results = #[.tmp t, .tmp u, .tmp v, .tmp x]) (tmps : Array Value) (P : Program) (w : World) :
    (results fn tmps).run P w = .ok (.tuple #[tmps.getD t undef, tmps.getD u undef, tmps.getD v undef, tmps.getD x undef]) w := by
  simp [results, h]
theorem results_tmp5 {fn : Func} {t u v x y : Tmp} (h : fn.results = #[.tmp t, .tmp u, .tmp v, .tmp x, .tmp y]) (tmps : Array Value) (P : Program) (w : World) :
    (results fn tmps).run P w = .ok (.tuple #[tmps.getD t undef, tmps.getD u undef, tmps.getD v undef, tmps.getD x undef, tmps.getD y undef]) w := by
  simp [results, h]

end Go.Proofs.Ytenibnblibnocab

/-! Math -/
set_option linter.unusedVariables false
namespace Go.Proofs.Ytenibnblibnocab

/-- how often p divides n (the first number is fuel) -/
def valF : Nat → Nat → Nat → Nat
  | 0, _, _ => 0
  | f + 1, n, p => if n % p = 0 then valF f (n / p) p + 1 else 0
def val (n p : Nat) : Nat := valF n n p

theorem valF_fuel (p : Nat) (hp : 2 ≤ p) : ∀ f g n, 0 < n → n ≤ f → n ≤ g → valF f n p = valF g n p
  | 0, _, n, h, hf, _ => by omega
  | _ + 1, 0, n, h, _, hg => by omega
  | f + 1, g + 1, n, h, hf, hg => by
    unfold valF
    by_cases hd : n % p = 0
    · rw [if_pos hd, if_pos hd]
      have h1 : n / p < n := Nat.div_lt_self h (by omega)
      have h2 : 0 < n / p := Nat.div_pos (Nat.le_of_dvd h (Nat.dvd_of_mod_eq_zero hd)) (by omega)
      rw [valF_fuel p hp f g (n / p) h2 (by omega) (by omega)]
    · rw [if_neg hd, if_neg hd]

theorem val_step {n p : Nat} (hp : 2 ≤ p) (hn : 0 < n) (h : n % p = 0) : val n p = val (n / p) p + 1 := by
  have h1 : n / p < n := Nat.div_lt_self hn (by omega)
  have h2 : 0 < n / p := Nat.div_pos (Nat.le_of_dvd hn (Nat.dvd_of_mod_eq_zero h)) (by omega)
  obtain ⟨m, rfl⟩ : ∃ m, n = m + 1 := ⟨n - 1, by omega⟩
  show valF (m + 1) (m + 1) p = _
  unfold valF
  rw [if_pos h, valF_fuel p hp m ((m + 1) / p) ((m + 1) / p) h2 (by omega) (Nat.le_refl _)]
  rfl

theorem val_stop {n p : Nat} (h : n % p ≠ 0) : val n p = 0 := by
  unfold val
  cases n with
  | zero => rfl
  | succ m => unfold valF; rw [if_neg h]

theorem val_dvd (p : Nat) (hp : 2 ≤ p) : ∀ (k n : Nat), n ≤ k → 0 < n → p ^ val n p ∣ n
  | 0, n, h, hn => by omega
  | k + 1, n, h, hn => by
    by_cases hd : n % p = 0
    · have h1 : n / p < n := Nat.div_lt_self hn (by omega)
      have h2 : 0 < n / p := Nat.div_pos (Nat.le_of_dvd hn (Nat.dvd_of_mod_eq_zero hd)) (by omega)
      have ih := val_dvd p hp k (n / p) (by omega) h2
      rw [val_step hp hn hd, Nat.pow_succ]
      have := Nat.mul_dvd_mul_right ih p
      rwa [Nat.div_mul_cancel (Nat.dvd_of_mod_eq_zero hd)] at this
    · rw [val_stop hd]; simp

theorem val_le (p : Nat) (hp : 2 ≤ p) : ∀ (k n : Nat), n ≤ k → val n p ≤ n
  | 0, n, h => by obtain rfl : n = 0 := by omega
                  exact Nat.le_refl _
  | k + 1, n, h => by
    by_cases h0 : n = 0
    · subst h0; exact Nat.le_refl _
    · by_cases hd : n % p = 0
      · have h1 : n / p < n := Nat.div_lt_self (by omega) (by omega)
        have ih := val_le p hp k (n / p) (by omega)
        rw [val_step hp (by omega) hd]
        omega
      · rw [val_stop hd]; omega

/-- the rest of a power -/
def pw (b e m : Nat) : Nat := b ^ e % m

theorem pw_start (B E M : Nat) : 1 % M * B ^ E % M = pw B E M := by
  unfold pw; rw [Nat.mul_mod, Nat.mod_mod, ← Nat.mul_mod, Nat.one_mul]

theorem pw_step_odd (r b e m : Nat) : (r * b % m) * (b * b % m) ^ (e / 2) % m = r * b ^ (e / 2 * 2 + 1) % m := by
  rw [Nat.mul_mod, Nat.mod_mod, ← Nat.mul_mod, Nat.mul_mod (r * b), ← Nat.pow_mod, ← Nat.mul_mod]
  congr 1
  rw [← Nat.pow_two, ← Nat.pow_mul, Nat.pow_succ, Nat.mul_comm 2, Nat.mul_assoc, Nat.mul_comm b]

theorem pw_step_even (r b e m : Nat) : r * (b * b % m) ^ (e / 2) % m = r * b ^ (e / 2 * 2) % m := by
  rw [Nat.mul_mod, ← Nat.pow_mod, ← Nat.mul_mod]
  congr 1
  rw [← Nat.pow_two, ← Nat.pow_mul, Nat.mul_comm 2]

/-- the prime powers by trial: the first number is fuel -/
def ppGo : Nat → Nat → Nat → List (Nat × Nat)
  | 0, _, _ => []
  | f + 1, p, left =>
    if p * p ≤ left then
      if left % p = 0 then (p, val left p) :: ppGo f (p + 1) (left / p ^ val left p) else ppGo f (p + 1) left
    else if 1 < left then [(left, 1)] else []
def ppow (n : Nat) : List (Nat × Nat) := ppGo 70 2 n

/-- the primes by trial -/
def plGo : Nat → Nat → Nat → List Nat
  | 0, _, _ => []
  | f + 1, p, left =>
    if p * p ≤ left then
      if left % p = 0 then p :: plGo f (p + 1) (left / p ^ val left p) else plGo f (p + 1) left
    else if 1 < left then [left] else []
def plist (n : Nat) : List Nat := plGo 70 2 n

theorem plGo_eq : ∀ f p left, plGo f p left = (ppGo f p left).map (·.1)
  | 0, _, _ => rfl
  | f + 1, p, left => by
    unfold plGo ppGo
    split
    · split
      · simp [plGo_eq f]
      · exact plGo_eq f _ _
    · split <;> rfl
theorem plist_eq (n : Nat) : plist n = (ppow n).map (·.1) := plGo_eq _ _ _

/-- no p from the second number on, of which the square is at most n, divides n -/
def primeGo : Nat → Nat → Nat → Bool
  | 0, _, _ => true
  | f + 1, p, n => if p * p ≤ n then (if n % p = 0 then false else primeGo f (p + 1) n) else true
def primeN (n : Nat) : Bool := decide (2 ≤ n) && (decide (n ≤ 5000) && primeGo 70 2 n)
def primeI (n : Int) : Bool := primeN n.toNat

theorem sq_le {p n : Nat} (h : p * p ≤ n) (hn : n ≤ 5000) : p ≤ 70 := by
  by_cases hp : p ≤ 70
  · exact hp
  · have := Nat.mul_le_mul (show 71 ≤ p by omega) (show 71 ≤ p by omega)
    omega

theorem ppGo_head_prime : ∀ f p n, 2 ≤ p → 2 ≤ n → 72 ≤ p + f → p ≤ 71 → n ≤ 5000 → ((ppGo f p n).head?.map (·.1) == some n) = primeGo f p n
  | 0, p, n, hp, hn, hf, hp7, hm => by
    exfalso
    omega
  | f + 1, p, n, hp, hn, hf, hp7, hm => by
    unfold ppGo primeGo
    by_cases h1 : p * p ≤ n
    · rw [if_pos h1, if_pos h1]
      by_cases h2 : n % p = 0
      · rw [if_pos h2, if_pos h2]
        have : p ≠ n := by
          intro e
          subst e
          have := Nat.mul_le_mul hp (Nat.le_refl p)
          omega
        simp [this]
      · rw [if_neg h2, if_neg h2]
        exact ppGo_head_prime f (p + 1) n (by omega) hn (by omega) (by have := sq_le h1 hm; omega) hm
    · rw [if_neg h1, if_neg h1, if_pos (by omega)]
      simp

theorem ppow_prime {n : Nat} (h2 : 2 ≤ n) (hn : n ≤ 5000) : ((ppow n).head?.map (·.1) == some n) = primeN n := by
  rw [ppow, ppGo_head_prime 70 2 n (by omega) h2 (by omega) (by omega) hn]
  simp [primeN, h2, hn]

/-- the least inverse by trial -/
def invF (r m : Nat) : Option Nat := (List.range m).find? (fun x => r * x % m == 1)
/-- the least root by trial -/
def rootF (r m : Nat) : Option Nat := (List.range m).find? (fun x => x * x % m == r)

theorem find_at {p : Nat → Bool} {n x : Nat} (h1 : x < n) (h2 : p x = true) (h3 : ∀ j, j < x → p j = false) : (List.range n).find? p = some x := by
  rw [List.find?_range_eq_some]
  refine ⟨h2, List.mem_range.2 h1, fun j hj => ?_⟩
  simp [h3 j hj]
theorem find_none {p : Nat → Bool} {n : Nat} (h3 : ∀ j, j < n → p j = false) : (List.range n).find? p = none := by
  rw [List.find?_eq_none]
  intro x hx
  simp [h3 x (List.mem_range.1 hx)]

theorem rootF_half {r m x : Nat} (hx : x < m) (h : x * x % m = r) : (m - x) * (m - x) % m = r := by
  obtain ⟨y, rfl⟩ : ∃ y, m = x + y := ⟨m - x, by omega⟩
  have e : (x + y) - x = y := by omega
  rw [e, ← h]
  have h1 : y * y + (x + y) * x = x * x + (x + y) * y := by
    simp only [Nat.add_mul, Nat.mul_comm y x]
    omega
  have := congrArg (· % (x + y)) h1
  simpa [Nat.add_mul_mod_self_left] using this

/-- none in the first half: none at all -/
theorem rootF_none {r m : Nat} (h : ∀ j, j ≤ m / 2 → j * j % m ≠ r) : rootF r m = none := by
  refine find_none fun j hj => ?_
  rw [beq_eq_false_iff_ne]
  intro e
  by_cases hh : j ≤ m / 2
  · exact h j hh e
  · exact h (m - j) (by omega) (rootF_half hj e)

theorem invF_of {r m x : Nat} (hx : x < m) (h : r * x % m = 1) : invF r m = some x := by
  refine find_at hx (by simp [h]) fun j hj => ?_
  rw [beq_eq_false_iff_ne]
  intro e
  -- x and j are both inverses: x = x (r j) = j
  have h1 : x * (r * j) % m = x % m := by rw [Nat.mul_mod, e, Nat.mul_one, Nat.mod_mod]
  have h2 : x * (r * j) % m = j % m := by
    rw [show x * (r * j) = j * (r * x) by rw [← Nat.mul_assoc, Nat.mul_comm x r, Nat.mul_comm]]
    rw [Nat.mul_mod, h, Nat.mul_one, Nat.mod_mod]
  rw [h1, Nat.mod_eq_of_lt hx, Nat.mod_eq_of_lt (by omega)] at h2
  omega

theorem invF_none {r m : Nat} (h : Nat.gcd r m ≠ 1) : invF r m = none := by
  refine find_none fun j _ => ?_
  rw [beq_eq_false_iff_ne]
  intro e
  apply h
  have hd : Nat.gcd r m ∣ r * j % m := (Nat.dvd_mod_iff (Nat.gcd_dvd_right r m)).2 (Nat.dvd_trans (Nat.gcd_dvd_left r m) (Nat.dvd_mul_right r j))
  rw [e] at hd
  exact Nat.dvd_one.1 hd

/-- what the model's Euler says: -1, or the power itself -/
def resN (r p : Nat) : Int := if pw r ((p - 1) / 2) p = p - 1 then -1 else (pw r ((p - 1) / 2) p : Nat)
/-- what the program's Euler says -/
def resM (r p : Nat) : Int := if pw r ((p - 1) / 2) p = 0 then 0 else if pw r ((p - 1) / 2) p = 1 then 1 else -1

end Go.Proofs.Ytenibnblibnocab

/-! Loops -/
set_option linter.unusedVariables false
namespace Go.Proofs.Ytenibnblibnocab
open Go.RowKit

theorem tdiv_natAbs (a b : Int) : (a.tdiv b).natAbs = a.natAbs / b.natAbs := Int.natAbs_tdiv a b
theorem tmod_eqz {L p : Int} (hp : 2 ≤ p) : (L.tmod p == 0) = decide (L.natAbs % p.toNat = 0) := by
  rw [Bool.eq_iff_iff, beq_iff_eq, decide_eq_true_iff, ← Nat.dvd_iff_mod_eq_zero, ← Int.dvd_iff_tmod_eq_zero, ← Int.natAbs_dvd_natAbs, show p.natAbs = p.toNat by omega]

theorem ret2 {a b c d : Int} (h : a = b) (h' : c = d) : Ending.returned (.tuple #[.int .i64 a, .int .i64 c]) = .returned (.tuple #[.int .i64 b, .int .i64 d]) := by rw [h, h']

theorem mul_bd {a b m : Nat} (ha : a ≤ m) (hb : b ≤ m) : 0 ≤ (a : Int) * b ∧ (a : Int) * b ≤ (m : Int) * m := by
  have := Nat.mul_le_mul ha hb
  constructor
  · exact_mod_cast Nat.zero_le _
  · exact_mod_cast this

theorem ediv_bd {a b : Nat} (h : a ≤ 5000) : 0 ≤ (a : Int) / b ∧ (a : Int) / b ≤ 5000 := by
  have h1 := Nat.div_le_self a b
  have e : (a : Int) / b = ((a / b : Nat) : Int) := by push_cast; rfl
  rw [e]
  exact ⟨Int.natCast_nonneg _, Int.ofNat_le.2 (Nat.le_trans h1 h)⟩

theorem l1Size_any (n : Int) (h1 : -4611686018427387904 ≤ n) (h2 : n ≤ 4611686018427387904) (w : World) : Calls Try.prog 99 #[.int .i64 n] w fun e w' => e = .returned (.int .i64 n.natAbs) ∧ w = w' := by
  by_cases h : n < 0
  · have hn : (n.natAbs : Int) = -n := by omega
    have HN := hid hn; clear hn
    go_enter Try.func99, Try.ntmps99
    go_wp2
    go_ret
    exact ⟨retI (by rw [HN.out]), rfl⟩
  · have hn : (n.natAbs : Int) = n := by omega
    have HN := hid hn; clear hn
    go_enter Try.func99, Try.ntmps99
    go_wp2
    go_ret
    exact ⟨retI (by rw [HN.out]), rfl⟩

/-- Is it the square of an integer? -/
def sqB (n : Int) : Bool := (List.range 72).any (fun x => ((x : Int) * x == n))
theorem sq_mono {a b : Nat} (h : a ≤ b) : (a : Int) * a ≤ (b : Int) * b := by exact_mod_cast Nat.mul_le_mul h h
theorem sqB_at {n : Int} {k : Nat} (hn : n ≤ 5000) (h1 : n ≤ (k : Int) * k) (h2 : ∀ j : Nat, j < k → (j : Int) * j < n) : ((k : Int) * k == n) = sqB n := by
  rw [Bool.eq_iff_iff, beq_iff_eq]
  unfold sqB
  rw [List.any_eq_true]
  constructor
  · intro h
    refine ⟨k, ?_, by simpa using h⟩
    rw [List.mem_range]
    by_cases hk : k < 72
    · exact hk
    · have := sq_mono (show 72 ≤ k by omega)
      omega
  · rintro ⟨j, _, hj⟩
    rw [beq_iff_eq] at hj
    by_cases hjk : j < k
    · have := h2 j hjk
      omega
    · have := sq_mono (show k ≤ j by omega)
      omega

theorem isqrt_step {x n : Nat} (hx : n < x * x) (hn : x ≤ n) : (x + n / x) / 2 < x ∧ ∀ r : Nat, r * r ≤ n → r ≤ (x + n / x) / 2 := by
  have hx0 : 0 < x := by
    rcases Nat.eq_zero_or_pos x with e | e
    · rw [e] at hx; omega
    · exact e
  have h1 : n / x < x := (Nat.div_lt_iff_lt_mul hx0).2 hx
  have h6 : ∀ d : Nat, d * x ≤ n → d ≤ n / x := fun d hd => (Nat.le_div_iff_mul_le hx0).2 hd
  obtain ⟨q, hq⟩ : ∃ q, q = n / x := ⟨_, rfl⟩
  rw [← hq] at h1 h6 ⊢
  refine ⟨by omega, fun r hr => ?_⟩
  by_cases h2 : 2 * r ≤ x
  · omega
  · have h3 : (2 * r - x) * x ≤ n := by
      refine Nat.le_trans ?_ hr
      obtain ⟨d, hd⟩ : ∃ d, 2 * r = x + d := ⟨2 * r - x, by omega⟩
      rw [show 2 * r - x = d by omega]
      rcases Nat.le_total r x with h4 | h4
      · obtain ⟨c, hc⟩ : ∃ c, x = r + c := ⟨x - r, by omega⟩
        have hd2 : r = c + d := by omega
        rw [hc, hd2]
        have : (c + d) * (c + d) = d * (c + d + c) + c * c := by
          simp only [Nat.mul_add, Nat.add_mul, Nat.mul_comm d c]; omega
        omega
      · obtain ⟨c, hc⟩ : ∃ c, r = x + c := ⟨r - x, by omega⟩
        have hd2 : d = x + 2 * c := by omega
        rw [hc, hd2]
        have : (x + c) * (x + c) = (x + 2 * c) * x + c * c := by
          simp only [Nat.mul_add, Nat.add_mul, Nat.mul_assoc, Nat.mul_comm c x]; omega
        omega
    have h5 := h6 _ h3
    omega

/-- what the square root answers -/
def RootPost (n : Int) (e : Ending) : Prop := (n < 0 ∧ e = .returned (.tuple #[.int .i64 0, .bool false])) ∨ ∃ X : Nat, 0 ≤ n ∧ e = .returned (.tuple #[.int .i64 X, .bool ((X : Int) * X == n)]) ∧ (X : Int) * X ≤ n ∧ ∀ r : Nat, (r : Int) * r ≤ n → r ≤ X
set_option maxRecDepth 100000 in
set_option maxHeartbeats 1000000 in
theorem squareRoot_any (n : Int) (hn : n ≤ 1000000000) (w : World) : Calls Try.prog 108 #[.int .i64 n] w fun e w' => RootPost n e ∧ w = w' := by
  by_cases h0 : n < 0
  · go_enter Try.func108, Try.ntmps108
    go_wp2
    go_ret2
    exact ⟨.inl ⟨h0, rfl⟩, rfl⟩
  · obtain ⟨N, rfl⟩ := Int.eq_ofNat_of_zero_le (show 0 ≤ n by omega)
    go_enter Try.func108, Try.ntmps108
    go_wp2
    go_loop [5] (fun sx => ∃ X : Nat, sx = .int .i64 X ∧ X ≤ N ∧ Hid (∀ r : Nat, r * r ≤ N → r ≤ X)) (fun sx => (intOf sx).toNat)
    case atStart => exact ⟨N, rfl, Nat.le_refl _, hid (fun r hr => by
      rcases Nat.eq_zero_or_pos r with e | e
      · omega
      · exact Nat.le_trans (Nat.le_mul_of_pos_left r e) hr)⟩
    case round =>
      obtain ⟨X, rfl, hX, HX⟩ := hrel
      have hXX := Nat.mul_le_mul (show X ≤ 1000000000 by omega) (show X ≤ 1000000000 by omega)
      have eXX : (X : Int) * X = ((X * X : Nat) : Int) := by push_cast; rfl
      have x1 : 0 ≤ (X : Int) * X := by rw [eXX]; omega
      have x2 : (X : Int) * X ≤ 1000000000000000000 := by rw [eXX]; omega
      by_cases hlt : (N : Int) < (X : Int) * X
      · have hlt' : N < X * X := by rw [eXX] at hlt; omega
        have hst := isqrt_step hlt' hX
        have HS := hid hst.2
        have hs1 := hst.1
        have hX0 : 0 < X := by
          rcases Nat.eq_zero_or_pos X with e | e
          · rw [e] at hlt'; omega
          · exact e
        have hdv : N / X ≤ N := Nat.div_le_self _ _
        obtain ⟨Q, hQ⟩ : ∃ Q, Q = N / X := ⟨_, rfl⟩
        rw [← hQ] at hdv hs1
        have eQ : (N : Int).tdiv (X : Int) = (Q : Int) := by rw [hQ]; exact (Int.ofNat_tdiv N X).symm
        have eQ2 : (N : Int) / (X : Int) = (Q : Int) := by rw [hQ]; push_cast; rfl
        have HQ := hid hQ
        have T : ((X : Int) == 0) = false := by rw [beq_eq_false_iff_ne]; omega
        clear hst hlt' eXX hXX hQ
        go_wp2
        go_round
        case rel => exact ⟨(X + Q) / 2, vI (by push_cast; rfl), by omega, hid (by rw [HQ.out]; exact HS.out)⟩
        case measure => simp only [intOf]; omega
      · have hle : X * X ≤ N := by rw [eXX] at hlt; omega
        have HXE := hid eXX
        clear hXX eXX
        go_wp2
        go_ret2
        exact ⟨.inr ⟨X, by omega, rfl, by omega, fun r hr => HX.out r (by exact_mod_cast hr)⟩, rfl⟩



/-- what PowerMod answers -/
def pmB (n e m : Int) : Bool := okN n && (inR e 0 5000 && inR m 1 5000)
def pmV (n e m : Int) : Value := if pmB n e m then .tuple #[.int .i64 (pw (n % m).toNat e.toNat m.toNat : Nat), .bool true] else .tuple #[.int .i64 0, .bool false]
theorem pmV_yes {n e m : Int} (h : pmB n e m = true) : pmV n e m = .tuple #[.int .i64 (pw (n % m).toNat e.toNat m.toNat : Nat), .bool true] := by unfold pmV; rw [if_pos h]
theorem pmV_no {n e m : Int} (h : pmB n e m = false) : pmV n e m = .tuple #[.int .i64 0, .bool false] := by unfold pmV; rw [if_neg (by rw [h]; decide)]

end Go.Proofs.Ytenibnblibnocab
