/-
  Plain arithmetic: Jacobi's symbol place by place; the product formula for two numbers above 0.
-/
import Derived.Test.YtdclmjmefkgbbabQQrK
import Derived.Test.YtdclmjmefkgbbabQBun8
set_option linter.unusedVariables false
namespace Go.Proofs.Ytdclmjmefkgbbab
open Go.RowKit

theorem mem_odd {p : Nat} : p ∈ oddPrimes ↔ primeN p = true ∧ 3 ≤ p := by
  rw [← odd_eq, List.mem_filter, List.mem_range, Bool.and_eq_true, Nat.ble_eq]
  constructor
  · exact fun h => h.2
  · intro h
    have := (primeN_bd h.1).2.1
    exact ⟨by omega, h⟩
theorem odd_nodup : oddPrimes.Nodup := by
  rw [← odd_eq]
  exact List.Pairwise.filter _ List.nodup_range
theorem recAll_mem : ∀ l : List Nat, recAll l = true → ∀ p ∈ l, ∀ q ∈ l, p ≠ q → recB p q = true ∨ recB q p = true
  | [], _, p, hp, _, _, _ => by cases hp
  | x :: t, h, p, hp, q, hq, hne => by
    unfold recAll at h
    rw [Bool.and_eq_true] at h
    rcases List.mem_cons.1 hp with rfl | hp2
    · rcases List.mem_cons.1 hq with e | hq2
      · exact absurd e.symm hne
      · exact .inl (List.all_eq_true.1 h.1 q hq2)
    · rcases List.mem_cons.1 hq with rfl | hq2
      · exact .inr (List.all_eq_true.1 h.1 p hp2)
      · exact recAll_mem t h.2 p hp2 q hq2 hne

/-- what Euler's power tells -/
theorem leg_val {a q : Nat} (hq : primeN q = true) (h3 : 3 ≤ q) (hd : ¬ q ∣ a) : resN a q = if legB a q = true then 1 else -1 := by
  have hl : legB a q = true ↔ pw a ((q - 1) / 2) q = 1 := by unfold legB; rw [Nat.beq_eq]; exact Iff.rfl
  rcases res_unit hq h3 hd with e | e
  · rw [e]
    unfold resN at e
    split at e
    · omega
    · rw [if_pos (hl.2 (by omega))]
  · rw [e]
    unfold resN at e
    split at e
    · next h => rw [if_neg (fun hh => by have := hl.1 hh; omega)]
    · omega
theorem resN_mod (a : Int) {q : Nat} (hq : 0 < q) (n : Nat) (h : a % (q : Int) = (n : Int) % (q : Int)) : resN (a % (q : Int)).toNat q = resN n q := by
  have e : (a % (q : Int)).toNat = n % q := by rw [h, ← Int.natCast_emod, Int.toNat_natCast]
  rw [e]
  unfold resN pw
  rw [← Nat.pow_mod]
theorem prime_ndvd {p q : Nat} (hp : primeN p = true) (hq : primeN q = true) (hne : p ≠ q) : ¬ p ∣ q := by
  intro h
  have h2 := (primeN_bd hp).1
  rcases primeN_dvd hq h with e | e
  · omega
  · exact hne e
/-- two odd primes -/
theorem recip {p q : Nat} (hp : primeN p = true) (p3 : 3 ≤ p) (hq : primeN q = true) (q3 : 3 ≤ q) (hne : p ≠ q) : resN p q * resN q p = if p % 4 = 3 ∧ q % 4 = 3 then -1 else 1 := by
  rw [leg_val hq q3 (prime_ndvd hq hp (Ne.symm hne)), leg_val hp p3 (prime_ndvd hp hq hne)]
  have h := recAll_mem oddPrimes rec_all p (mem_odd.2 ⟨hp, p3⟩) q (mem_odd.2 ⟨hq, q3⟩) hne
  have e : ∀ a b : Nat, recB a b = true → (legB a b == legB b a) = !(decide (a % 4 = 3) && decide (b % 4 = 3)) := by
    intro a b h
    unfold recB at h
    rw [beq_iff_eq] at h
    rw [h]
    have e2 : ∀ k : Nat, Nat.beq k 3 = decide (k = 3) := fun k => by
      rw [Bool.eq_iff_iff, Nat.beq_eq, decide_eq_true_eq]
    rw [e2, e2]
  rcases h with h | h
  · have := e _ _ h
    by_cases h1 : p % 4 = 3 <;> by_cases h2 : q % 4 = 3 <;> (cases ha : legB p q <;> cases hb : legB q p <;> simp_all)
  · have := e _ _ h
    by_cases h1 : p % 4 = 3 <;> by_cases h2 : q % 4 = 3 <;> (cases ha : legB p q <;> cases hb : legB q p <;> simp_all)
theorem two_leg {p : Nat} (hp : primeN p = true) (p3 : 3 ≤ p) : resN 2 p = if p % 8 = 1 ∨ p % 8 = 7 then 1 else -1 := by
  have hne : ¬ p ∣ 2 := by
    intro h
    have := Nat.le_of_dvd (by decide) h
    omega
  rw [leg_val hp p3 hne]
  have := List.all_eq_true.1 two_all p (mem_odd.2 ⟨hp, p3⟩)
  rw [beq_iff_eq] at this
  have e : legB 2 p = true ↔ (p % 8 = 1 ∨ p % 8 = 7) := by rw [this, Bool.or_eq_true, Nat.beq_eq, Nat.beq_eq]
  by_cases h : p % 8 = 1 ∨ p % 8 = 7
  · rw [if_pos h, if_pos (e.2 h)]
  · rw [if_neg h, if_neg (fun x => h (e.1 x))]

/-- products over a list -/
def prodF (f : Nat → Int) : List Nat → Int
  | [] => 1
  | q :: t => f q * prodF f t
theorem prodF_congr {f g : Nat → Int} : ∀ l : List Nat, (∀ q ∈ l, f q = g q) → prodF f l = prodF g l
  | [], _ => rfl
  | q :: t, h => by
    unfold prodF
    rw [h q List.mem_cons_self, prodF_congr t (fun x hx => h x (List.mem_cons_of_mem _ hx))]
theorem prodF_one {f : Nat → Int} (l : List Nat) (h : ∀ q ∈ l, f q = 1) : prodF f l = 1 := by
  rw [prodF_congr (g := fun _ => 1) l h]
  clear h
  induction l with
  | nil => rfl
  | cons q t ih => unfold prodF; rw [ih]; rfl
theorem prodF_mul (f g : Nat → Int) : ∀ l : List Nat, prodF (fun q => f q * g q) l = prodF f l * prodF g l
  | [] => rfl
  | q :: t => by
    unfold prodF
    rw [prodF_mul f g t]
    simp only [Int.mul_left_comm, Int.mul_assoc]
theorem prodF_at {f : Nat → Int} {p : Nat} : ∀ l : List Nat, l.Nodup → p ∈ l → (∀ q ∈ l, q ≠ p → f q = 1) → prodF f l = f p
  | [], _, h, _ => by cases h
  | q :: t, hn, hp, h => by
    rw [List.nodup_cons] at hn
    unfold prodF
    rcases List.mem_cons.1 hp with rfl | hp2
    · rw [prodF_one t (fun x hx => h x (List.mem_cons_of_mem _ hx) (fun e => hn.1 (e ▸ hx))), Int.mul_one]
    · rw [h q List.mem_cons_self (fun e => hn.1 (e ▸ hp2)), Int.one_mul]
      exact prodF_at t hn.2 hp2 (fun x hx => h x (List.mem_cons_of_mem _ hx))

/-- the product of the symbols at 2 and all odd primes -/
def twoP (n m : Int) : Int := symV n m 2 * prodF (fun q => symV n m (q : Int)) oddPrimes
theorem pl2 : plI 2 = true := rfl
theorem plP {p : Nat} (h : primeN p = true) : plI (p : Int) = true := by
  unfold plI
  rw [show primeI (p : Int) = true from h, Bool.or_true]
theorem twoP_mul {a b c : Int} (ha : a ≠ 0) (hb : b ≠ 0) (hc : c ≠ 0) : twoP a (b * c) = twoP a b * twoP a c := by
  unfold twoP
  rw [symV_mul ha hb hc pl2, prodF_congr (g := fun q => symV a b (q : Int) * symV a c (q : Int)) oddPrimes (fun q hq => symV_mul ha hb hc (plP (mem_odd.1 hq).1)), prodF_mul]
  simp only [Int.mul_left_comm, Int.mul_assoc]
theorem twoP_comm {a b : Int} (ha : a ≠ 0) (hb : b ≠ 0) : twoP a b = twoP b a := by
  unfold twoP
  rw [symV_comm ha hb pl2, prodF_congr oddPrimes (fun q hq => symV_comm ha hb (plP (mem_odd.1 hq).1))]
theorem sq_one {q : Int} (hq : plI q = true) : sqAt 1 q = true := by
  rcases plI_cases hq with rfl | rfl | ⟨P, rfl, hP, h3, h5⟩
  · rfl
  · rfl
  · have hd : ¬ P ∣ (1 : Int).natAbs := by
      intro h
      have := Nat.le_of_dvd (by decide) h
      have : (1 : Int).natAbs = 1 := rfl
      omega
    obtain ⟨a, b⟩ := unit_self hP hd (by decide)
    unfold sqAt
    rw [cls_odd h3, a, b, resN_mod 1 (by omega) 1 rfl, resN_one h3]
    rfl
theorem twoP_one {a : Int} (ha : a ≠ 0) : twoP a 1 = 1 := by
  unfold twoP
  rw [symV_sq ha pl2 (sq_one pl2), prodF_one oddPrimes (fun q hq => symV_sq ha (plP (mem_odd.1 hq).1) (sq_one (plP (mem_odd.1 hq).1)))]
  rfl
theorem sym_away' {a b : Int} {P : Nat} (hP : primeN P = true) (h3 : 3 ≤ P) (ha : ¬ P ∣ a.natAbs) (hb : ¬ P ∣ b.natAbs) (a0 : a ≠ 0) (b0 : b ≠ 0) : symV a b (P : Int) = 1 := by
  unfold symV symC
  obtain ⟨va, _⟩ := unit_self hP ha a0
  obtain ⟨vb, _⟩ := unit_self hP hb b0
  rw [cls_odd h3, cls_odd h3, va, vb, if_neg (by omega), if_neg (by omega)]
  simp [halfI]
theorem odd_two {p : Nat} (hp : primeN p = true) (p3 : 3 ≤ p) : p % 2 = 1 := by
  have := primeN_no hp (Nat.le_refl 2)
  by_cases h : p % 2 = 0
  · exact absurd h (this (by omega))
  · omega
theorem cls_two_odd {n : Int} (h : n % 2 = 1) : cls n 2 = (0, n % 8) := by
  have hd : ¬ 2 ∣ n.natAbs := by omega
  obtain ⟨a, b⟩ := unit_self prime2 hd (by omega)
  have b2 : unitI n 2 = n := b
  rw [cls_two, a, b2]
theorem symTwo (a b : Int) : symV a b 2 = halfI (((cls a 2).2 - 1) / 2 * (((cls b 2).2 - 1) / 2) + ((cls a 2).1 : Int) * (((cls b 2).2 * (cls b 2).2 - 1) / 8) + ((cls b 2).1 : Int) * (((cls a 2).2 * (cls a 2).2 - 1) / 8)) := rfl
theorem symOdd (a b : Int) {P : Nat} (h3 : 3 ≤ P) : symV a b (P : Int) = halfI (((cls a P).1 : Int) * ((cls b P).1 : Int) * (((P : Int) - 1) / 2)) * (if (cls b P).1 = 1 then (cls a P).2 else 1) * (if (cls a P).1 = 1 then (cls b P).2 else 1) := by
  unfold symV symC
  rw [if_neg (by omega), if_neg (by omega)]
theorem cls_unit {n : Int} {P : Nat} (hP : primeN P = true) (h3 : 3 ≤ P) (hd : ¬ P ∣ n.natAbs) (n0 : n ≠ 0) : cls n P = (0, resN (n % (P : Int)).toNat P) := by
  obtain ⟨a, b⟩ := unit_self hP hd n0
  rw [cls_odd h3, a, b]
theorem cls_self {P : Nat} (hP : primeN P = true) (h3 : 3 ≤ P) : cls (P : Int) P = (1, 1) := by
  have hu : unitI (P : Int) (P : Int) = 1 := by
    have := unit_eq hP (show (P : Int) ≠ 0 by omega)
    rw [Int.natAbs_natCast, val_self hP, Int.pow_one] at this
    have h0 : (P : Int) ≠ 0 := by omega
    exact Int.eq_of_mul_eq_mul_right h0 (by rw [this, Int.one_mul])
  rw [cls_odd h3, Int.natAbs_natCast, val_self hP, hu, resN_mod 1 (by omega) 1 rfl, resN_one h3]
theorem nab (p : Nat) : (p : Int).natAbs = p := Int.natAbs_natCast p

/-- for two primes -/
theorem twoP_prime {p q : Nat} (hp : primeN p = true) (hq : primeN q = true) : twoP (p : Int) (q : Int) = 1 := by
  have hp2 := (primeN_bd hp).1
  have hq2 := (primeN_bd hq).1
  have aux : ∀ {q : Nat}, primeN q = true → 3 ≤ q → twoP (2 : Int) (q : Int) = 1 := by
    intro q hq q3
    have hq2 := odd_two hq q3
    unfold twoP
    rw [prodF_at (p := q) oddPrimes odd_nodup (mem_odd.2 ⟨hq, q3⟩) (fun r hr hne => by
      obtain ⟨r1, r3⟩ := mem_odd.1 hr
      exact sym_away' r1 r3 (prime_ndvd r1 prime2 (by omega)) (prime_ndvd r1 hq hne) (by decide) (by omega))]
    rw [symTwo, symOdd _ _ q3, cls_two_odd (n := (q : Int)) (by omega), cls_self hq q3, cls_unit (n := (2 : Int)) hq q3 (prime_ndvd hq prime2 (by omega)) (by decide), resN_mod 2 (by omega) 2 rfl, two_leg hq q3, show cls 2 2 = (1, 1) from by decide]
    have : q % 8 = 1 ∨ q % 8 = 3 ∨ q % 8 = 5 ∨ q % 8 = 7 := by omega
    have e : (q : Int) % 8 = ((q % 8 : Nat) : Int) := by omega
    rw [e]
    rcases this with h | h | h | h <;> rw [h] <;> simp [halfI]
  by_cases p2 : p = 2
  · subst p2
    by_cases q2 : q = 2
    · subst q2
      unfold twoP
      rw [prodF_one oddPrimes (fun r hr => by
        obtain ⟨r1, r3⟩ := mem_odd.1 hr
        exact sym_away' r1 r3 (prime_ndvd r1 prime2 (by omega)) (prime_ndvd r1 prime2 (by omega)) (by decide) (by decide))]
      decide
    · exact aux hq (by omega)
  · have p3 : 3 ≤ p := by omega
    by_cases q2 : q = 2
    · subst q2
      rw [twoP_comm (by omega) (by decide)]
      exact aux hp p3
    · have q3 : 3 ≤ q := by omega
      have po := odd_two hp p3
      have qo := odd_two hq q3
      unfold twoP
      by_cases e : p = q
      · subst e
        rw [prodF_at (p := p) oddPrimes odd_nodup (mem_odd.2 ⟨hp, p3⟩) (fun r hr hne => by
          obtain ⟨r1, r3⟩ := mem_odd.1 hr
          exact sym_away' r1 r3 (prime_ndvd r1 hp hne) (prime_ndvd r1 hp hne) (by omega) (by omega))]
        rw [symTwo, symOdd _ _ p3, cls_two_odd (n := (p : Int)) (by omega), cls_self hp p3]
        have e : (p : Int) % 8 = ((p % 8 : Nat) : Int) := by omega
        have : p % 8 = 1 ∨ p % 8 = 3 ∨ p % 8 = 5 ∨ p % 8 = 7 := by omega
        have e2 : ((p : Int) - 1) / 2 % 2 = (((p % 8 : Nat) : Int) - 1) / 2 % 2 := by omega
        rw [show halfI (((1 : Nat) : Int) * ((1 : Nat) : Int) * (((p : Int) - 1) / 2)) = halfI ((((p % 8 : Nat) : Int) - 1) / 2) from halfI_congr (by simpa using e2), e]
        rcases this with h | h | h | h <;> rw [h] <;> simp [halfI]
      · have hf : ∀ r ∈ oddPrimes, symV (p : Int) (q : Int) (r : Int) = (if r = q then resN p q else 1) * (if r = p then resN q p else 1) := by
          intro r hr
          obtain ⟨r1, r3⟩ := mem_odd.1 hr
          by_cases rp : r = p
          · subst rp
            rw [if_neg e, if_pos rfl, symOdd _ _ p3, cls_self hp p3, cls_unit (n := (q : Int)) hp p3 (prime_ndvd hp hq e) (by omega), resN_mod q (by omega) q rfl]
            simp [halfI]
          · by_cases rq : r = q
            · subst rq
              rw [if_pos rfl, if_neg rp, symOdd _ _ q3, cls_self hq q3, cls_unit (n := (p : Int)) hq q3 (prime_ndvd hq hp rp) (by omega), resN_mod p (by omega) p rfl]
              simp [halfI]
            · rw [if_neg rq, if_neg rp]
              exact sym_away' r1 r3 (prime_ndvd r1 hp rp) (prime_ndvd r1 hq rq) (by omega) (by omega)
        rw [prodF_congr oddPrimes hf, prodF_mul, prodF_at (p := q) oddPrimes odd_nodup (mem_odd.2 ⟨hq, q3⟩) (fun r _ h => by rw [if_neg h]), prodF_at (p := p) oddPrimes odd_nodup (mem_odd.2 ⟨hp, p3⟩) (fun r _ h => by rw [if_neg h]), if_pos rfl, if_pos rfl, recip hp p3 hq q3 e, symTwo, cls_two_odd (n := (p : Int)) (by omega), cls_two_odd (n := (q : Int)) (by omega)]
        have e1 : (p : Int) % 8 = ((p % 8 : Nat) : Int) := by omega
        have e2 : (q : Int) % 8 = ((q % 8 : Nat) : Int) := by omega
        have h1 : p % 8 = 1 ∨ p % 8 = 3 ∨ p % 8 = 5 ∨ p % 8 = 7 := by omega
        have h2 : q % 8 = 1 ∨ q % 8 = 3 ∨ q % 8 = 5 ∨ q % 8 = 7 := by omega
        rw [e1, e2, show p % 4 = p % 8 % 4 by omega, show q % 4 = q % 8 % 4 by omega]
        rcases h1 with h | h | h | h <;> rcases h2 with k | k | k | k <;> rw [h, k] <;> simp [halfI]

theorem prime_factor' : ∀ (k n : Nat), n ≤ k → 1 < n → ∃ p, PrG p ∧ p ∣ n
  | 0, n, h, h1 => by omega
  | k + 1, n, h, h1 => by
    by_cases hp : PrG n
    · exact ⟨n, hp, Nat.dvd_refl n⟩
    · have : ∃ d, d ∣ n ∧ d ≠ 1 ∧ d ≠ n := Classical.byContradiction fun hc => hp ⟨h1, fun d hd => Classical.byContradiction fun hne => hc ⟨d, hd, fun e => hne (.inl e), fun e => hne (.inr e)⟩⟩
      obtain ⟨d, hd, d1, dn⟩ := this
      have hle := Nat.le_of_dvd (by omega) hd
      have hd0 : d ≠ 0 := by rintro rfl; rw [Nat.zero_dvd] at hd; omega
      obtain ⟨p, hp1, hp2⟩ := prime_factor' k d (by omega) (by omega)
      exact ⟨p, hp1, Nat.dvd_trans hp2 hd⟩
theorem pos_ind {C : Nat → Prop} (h1 : C 1) (hm : ∀ p, primeN p = true → ∀ c, 0 < c → C c → C (p * c)) : ∀ k n : Nat, n ≤ k → 0 < n → n ≤ 5000 → C n
  | 0, n, h, h0, _ => by omega
  | k + 1, n, h, h0, h5 => by
    by_cases hn : n = 1
    · rw [hn]; exact h1
    · obtain ⟨p, hp, c, rfl⟩ := prime_factor' n n (Nat.le_refl _) (by omega)
      have hp2 := hp.1
      have hc0 : 0 < c := by
        rcases Nat.eq_zero_or_pos c with e | e
        · rw [e] at h0; omega
        · exact e
      have hle : p ≤ p * c := Nat.le_mul_of_pos_right p hc0
      have hlt : c < p * c := by
        have := Nat.mul_le_mul_right c hp2
        omega
      exact hm p (prG_primeN hp (by omega)) c hc0 (pos_ind h1 hm k c (by omega) hc0 (by omega))
/-- THE PRODUCT FORMULA for two numbers above 0 -/
theorem twoP_all {n m : Nat} (n0 : 0 < n) (n5 : n ≤ 5000) (m0 : 0 < m) (m5 : m ≤ 5000) : twoP (n : Int) (m : Int) = 1 := by
  have one : ∀ {p : Nat}, primeN p = true → twoP (p : Int) (m : Int) = 1 := by
    intro p hp
    have hp2 := (primeN_bd hp).1
    refine pos_ind (C := fun m => twoP (p : Int) (m : Int) = 1) (twoP_one (by omega)) (fun q hq c hc hC => ?_) m m (Nat.le_refl _) m0 m5
    have hq2 := (primeN_bd hq).1
    rw [Int.natCast_mul, twoP_mul (by omega) (by omega) (by omega), twoP_prime hp hq, hC]
    rfl
  refine pos_ind (C := fun n => twoP (n : Int) (m : Int) = 1) ?_ (fun q hq c hc hC => ?_) n n (Nat.le_refl _) n0 n5
  · rw [twoP_comm (by decide) (by omega)]
    exact twoP_one (by omega)
  · have hq2 := (primeN_bd hq).1
    rw [twoP_comm (by have := Nat.mul_pos (show 0 < q by omega) hc; omega) (by omega), Int.natCast_mul, twoP_mul (by omega) (by omega) (by omega), twoP_comm (by omega) (by omega), one hq, twoP_comm (by omega) (by omega), hC]
    rfl

/-- Jacobi's symbol, place by place -/
def jf (n m : Int) (q : Nat) : Int := if val m.natAbs q % 2 = 1 then resN (n % (q : Int)).toNat q else 1
def jaS (n m : Int) : Int := prodF (jf n m) oddPrimes
theorem val_nd {n q : Nat} (h : ¬ q ∣ n) : val n q = 0 := val_stop (fun e => h (Nat.dvd_of_mod_eq_zero e))
theorem jf_nd {n m : Int} {q : Nat} (h : ¬ q ∣ m.natAbs) : jf n m q = 1 := by unfold jf; rw [val_nd h, if_neg (by decide)]
theorem sym_jf {n m : Nat} {q : Nat} (hq : primeN q = true) (q3 : 3 ≤ q) (n0 : 0 < n) (m0 : 0 < m) (hd : ¬ q ∣ n) : symV (n : Int) (m : Int) (q : Int) = jf n m q := by
  rw [symOdd _ _ q3, cls_unit hq q3 (n := (n : Int)) (by rw [nab]; exact hd) (by omega), cls_odd q3]
  unfold jf
  simp [halfI]
theorem sym_two_jf {n m q : Nat} (hq : primeN q = true) (q3 : 3 ≤ q) (n0 : 0 < n) (m0 : 0 < m) (hc : Nat.gcd n m = 1) : symV (n : Int) (m : Int) (q : Int) = jf n m q * jf m n q := by
  by_cases hn : q ∣ n
  · have hm : ¬ q ∣ m := by
      intro hm
      have := Nat.dvd_gcd hn hm
      rw [hc, Nat.dvd_one] at this
      omega
    rw [symV_comm (by omega) (by omega) (plP hq), sym_jf hq q3 m0 n0 hm, jf_nd (n := (n : Int)) (m := (m : Int)) (by rw [nab]; exact hm), Int.one_mul]
  · rw [sym_jf hq q3 n0 m0 hn, jf_nd (n := (m : Int)) (m := (n : Int)) (by rw [nab]; exact hn), Int.mul_one]
theorem jaS_both {n m : Nat} (n0 : 0 < n) (n5 : n ≤ 5000) (m0 : 0 < m) (m5 : m ≤ 5000) (hc : Nat.gcd n m = 1) : symV (n : Int) (m : Int) 2 * (jaS n m * jaS m n) = 1 := by
  have := twoP_all n0 n5 m0 m5
  unfold twoP at this
  rw [prodF_congr (g := fun q => jf n m q * jf m n q) oddPrimes (fun q hq => sym_two_jf (mem_odd.1 hq).1 (mem_odd.1 hq).2 n0 m0 hc), prodF_mul] at this
  exact this
theorem unit_two {n : Nat} (n0 : 0 < n) : 0 < unitI (n : Int) 2 ∧ unitI (n : Int) 2 ≤ n ∧ unitI (n : Int) 2 % 2 = 1 ∧ unitI (n : Int) 2 * 2 ^ val n 2 = n := by
  have e : unitI (n : Int) 2 * 2 ^ val n 2 = n := by
    have := unit_eq prime2 (show (n : Int) ≠ 0 by omega)
    rw [nab] at this
    exact this
  have hd := unit_dvd prime2 (show (n : Int) ≠ 0 by omega)
  have hp : (0 : Int) < 2 ^ val n 2 := Int.pow_pos (by decide)
  have h0 : 0 < unitI (n : Int) 2 := by
    refine Classical.byContradiction fun hc => ?_
    have := Int.mul_le_mul_of_nonneg_right (show unitI (n : Int) 2 ≤ 0 by omega) (Int.le_of_lt hp)
    omega
  refine ⟨h0, ?_, by have hd2 : ¬ 2 ∣ (unitI (n : Int) 2).natAbs := hd; omega, e⟩
  have := Int.mul_le_mul_of_nonneg_left (show (1 : Int) ≤ 2 ^ val n 2 by omega) (Int.le_of_lt h0)
  omega
theorem jf_odd {m : Int} {n o : Nat} (n0 : 0 < n) (ho : unitI (n : Int) 2 = (o : Int)) {q : Nat} (hq : primeN q = true) (q3 : 3 ≤ q) : jf m (n : Int) q = jf (m % (o : Int)) (o : Int) q := by
  obtain ⟨h1, _, _, h4⟩ := unit_two n0
  rw [ho] at h1 h4
  have e : n = o * 2 ^ val n 2 := by exact_mod_cast h4.symm
  have hv : val n q = val o q := by
    have h5 := val_mul hq _ o (2 ^ val n 2) (Nat.le_refl _) (by omega) (Nat.pow_pos (by decide))
    rw [← e, val_nd (n := 2 ^ val n 2) (pow_ndvd hq (prime_ndvd hq prime2 (by omega)) _)] at h5
    omega
  unfold jf
  rw [nab, nab, hv]
  split
  · next h =>
    have hdo : q ∣ o := Classical.byContradiction fun hc => by rw [val_nd hc] at h; omega
    rw [Int.emod_emod_of_dvd m (Int.natCast_dvd_natCast.2 hdo)]
  · rfl
theorem unit_of_mul {a b c : Int} (h : a * (b * c) = 1) : b = a * c := by
  have h1 : a.natAbs * (b.natAbs * c.natAbs) = 1 := by rw [← Int.natAbs_mul, ← Int.natAbs_mul, h]; rfl
  have a1 := Nat.eq_one_of_mul_eq_one_right h1
  have h2 := Nat.eq_one_of_mul_eq_one_left h1
  have b1 := Nat.eq_one_of_mul_eq_one_right h2
  have c1 := Nat.eq_one_of_mul_eq_one_left h2
  have ha : a = 1 ∨ a = -1 := by omega
  have hb : b = 1 ∨ b = -1 := by omega
  have hc : c = 1 ∨ c = -1 := by omega
  rcases ha with rfl | rfl <;> rcases hb with rfl | rfl <;> rcases hc with rfl | rfl <;> simp_all
/-- one round of the program's loop -/
theorem jaS_step {n m o : Nat} (n0 : 0 < n) (n5 : n ≤ 5000) (m0 : 0 < m) (m5 : m ≤ 5000) (hc : Nat.gcd n m = 1) (ho : unitI (n : Int) 2 = (o : Int)) : jaS (n : Int) (m : Int) = symV (n : Int) (m : Int) 2 * jaS ((m % o : Nat) : Int) (o : Int) := by
  have := unit_of_mul (jaS_both n0 n5 m0 m5 hc)
  rw [this]
  congr 1
  unfold jaS
  refine prodF_congr _ fun q hq => ?_
  rw [jf_odd n0 ho (mem_odd.1 hq).1 (mem_odd.1 hq).2, Int.natCast_emod]
theorem jaS_zero : jaS 0 1 = 1 := by
  unfold jaS
  refine prodF_one _ fun q hq => jf_nd ?_
  have := (mem_odd.1 hq).2
  intro h
  have := Nat.le_of_dvd (by decide) h
  have : (1 : Int).natAbs = 1 := rfl
  omega
theorem jaS_prime (u : Int) {p : Nat} (hp : primeN p = true) (p3 : 3 ≤ p) : jaS u (p : Int) = resN (u % (p : Int)).toNat p := by
  unfold jaS
  rw [prodF_at (p := p) oddPrimes odd_nodup (mem_odd.2 ⟨hp, p3⟩) (fun q hq hne => jf_nd (by rw [nab]; exact prime_ndvd (mem_odd.1 hq).1 hp hne))]
  unfold jf
  rw [nab, val_self hp, if_pos rfl]
theorem gcd_round {n m o : Nat} (n0 : 0 < n) (hc : Nat.gcd n m = 1) (ho : unitI (n : Int) 2 = (o : Int)) : Nat.gcd (m % o) o = 1 := by
  obtain ⟨_, _, _, h4⟩ := unit_two n0
  rw [ho] at h4
  have e : n = o * 2 ^ val n 2 := by exact_mod_cast h4.symm
  have hd : Nat.gcd o m ∣ Nat.gcd n m := Nat.dvd_gcd (Nat.dvd_trans (Nat.gcd_dvd_left _ _) ⟨_, e⟩) (Nat.gcd_dvd_right _ _)
  rw [hc, Nat.dvd_one] at hd
  rw [← Nat.gcd_rec]
  exact hd

end Go.Proofs.Ytdclmjmefkgbbab
