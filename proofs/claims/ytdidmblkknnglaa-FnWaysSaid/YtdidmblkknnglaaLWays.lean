/-
  Proves: for every code: up to an odd prime of which just one of both numbers is not a multiple, or none or both, the equation has as many ways as the document says.
  Conditions: none beyond the given statement's own.
-/
import Derived.Test.YtdidmblkknnglaaQrK
import Derived.Test.YtdidmblkknnglaaSym2
import Derived.Test.YtdidmblkknnglaaPlacesG
import Derived.Test.YtdidmblkknnglaaImpA
import Derived.Maps.OwnOps
import Derived.Maps.Views
import Derived.DeepKeys4
import Derived.Test.YtdidmblkknnglaaVals3
import Derived.Test.YtdidmblkknnglaaRows
import Derived.Test.YtdidmblkknnglaaSymLaw
import Derived.Test.YtdidmblkknnglaaLaw4
import Derived.Test.YtdidmblkknnglaaLaw4W
import Derived.Test.YtdidmblkknnglaaSym8
import Derived.Test.YtdidmblkknnglaaDraws5
import Derived.Test.YtdidmblkknnglaaRowWord
import Derived.ProofKit
import Derived.OpenShut
import Derived.ShutString
import Derived.ChangeOld
set_option linter.unusedVariables false
namespace Go.Proofs.Ytdidmblkknnglaa
open Go.RowKit

theorem mem_odd {p : Nat} : p ∈ oddPrimes ↔ primeN p = true ∧ 3 ≤ p := by
  rw [← odd_eq, List.mem_filter, List.mem_range, Bool.and_eq_true, Nat.ble_eq]
  constructor
  · exact fun h => h.2
  · intro h
    have := (primeN_bd h.1).2.1
    exact ⟨by omega, h⟩
theorem odd_nodup : oddPrimes.Nodup := by
  rw [← odd_eq]
  exact List.Pairwise.filter _ List.nodup_range
theorem recAll_mem : ∀ l : List Nat, recAll l = true → ∀ p ∈ l, ∀ q ∈ l, p ≠ q → recB p q = true ∨ recB q p = true
  | [], _, p, hp, _, _, _ => by cases hp
  | x :: t, h, p, hp, q, hq, hne => by
    unfold recAll at h
    rw [Bool.and_eq_true] at h
    rcases List.mem_cons.1 hp with rfl | hp2
    · rcases List.mem_cons.1 hq with e | hq2
      · exact absurd e.symm hne
      · exact .inl (List.all_eq_true.1 h.1 q hq2)
    · rcases List.mem_cons.1 hq with rfl | hq2
      · exact .inr (List.all_eq_true.1 h.1 p hp2)
      · exact recAll_mem t h.2 p hp2 q hq2 hne

/-- what Euler's power tells -/
theorem leg_val {a q : Nat} (hq : primeN q = true) (h3 : 3 ≤ q) (hd : ¬ q ∣ a) : resN a q = if legB a q = true then 1 else -1 := by
  have hl : legB a q = true ↔ pw a ((q - 1) / 2) q = 1 := by unfold legB; rw [Nat.beq_eq]; exact Iff.rfl
  rcases res_unit hq h3 hd with e | e
  · rw [e]
    unfold resN at e
    split at e
    · omega
    · rw [if_pos (hl.2 (by omega))]
  · rw [e]
    unfold resN at e
    split at e
    · next h => rw [if_neg (fun hh => by have := hl.1 hh; omega)]
    · omega
theorem resN_mod (a : Int) {q : Nat} (hq : 0 < q) (n : Nat) (h : a % (q : Int) = (n : Int) % (q : Int)) : resN (a % (q : Int)).toNat q = resN n q := by
  have e : (a % (q : Int)).toNat = n % q := by rw [h, ← Int.natCast_emod, Int.toNat_natCast]
  rw [e]
  unfold resN pw
  rw [← Nat.pow_mod]
theorem prime_ndvd {p q : Nat} (hp : primeN p = true) (hq : primeN q = true) (hne : p ≠ q) : ¬ p ∣ q := by
  intro h
  have h2 := (primeN_bd hp).1
  rcases primeN_dvd hq h with e | e
  · omega
  · exact hne e
/-- two odd primes -/
theorem recip {p q : Nat} (hp : primeN p = true) (p3 : 3 ≤ p) (hq : primeN q = true) (q3 : 3 ≤ q) (hne : p ≠ q) : resN p q * resN q p = if p % 4 = 3 ∧ q % 4 = 3 then -1 else 1 := by
  rw [leg_val hq q3 (prime_ndvd hq hp (Ne.symm hne)), leg_val hp p3 (prime_ndvd hp hq hne)]
  have h := recAll_mem oddPrimes rec_all p (mem_odd.2 ⟨hp, p3⟩) q (mem_odd.2 ⟨hq, q3⟩) hne
  have e : ∀ a b : Nat, recB a b = true → (legB a b == legB b a) = !(decide (a % 4 = 3) && decide (b % 4 = 3)) := by
    intro a b h
    unfold recB at h
    rw [beq_iff_eq] at h
    rw [h]
    have e2 : ∀ k : Nat, Nat.beq k 3 = decide (k = 3) := fun k => by
      rw [Bool.eq_iff_iff, Nat.beq_eq, decide_eq_true_eq]
    rw [e2, e2]
  rcases h with h | h
  · have := e _ _ h
    by_cases h1 : p % 4 = 3 <;> by_cases h2 : q % 4 = 3 <;> (cases ha : legB p q <;> cases hb : legB q p <;> simp_all)
  · have := e _ _ h
    by_cases h1 : p % 4 = 3 <;> by_cases h2 : q % 4 = 3 <;> (cases ha : legB p q <;> cases hb : legB q p <;> simp_all)
theorem two_leg {p : Nat} (hp : primeN p = true) (p3 : 3 ≤ p) : resN 2 p = if p % 8 = 1 ∨ p % 8 = 7 then 1 else -1 := by
  have hne : ¬ p ∣ 2 := by
    intro h
    have := Nat.le_of_dvd (by decide) h
    omega
  rw [leg_val hp p3 hne]
  have := List.all_eq_true.1 two_all p (mem_odd.2 ⟨hp, p3⟩)
  rw [beq_iff_eq] at this
  have e : legB 2 p = true ↔ (p % 8 = 1 ∨ p % 8 = 7) := by rw [this, Bool.or_eq_true, Nat.beq_eq, Nat.beq_eq]
  by_cases h : p % 8 = 1 ∨ p % 8 = 7
  · rw [if_pos h, if_pos (e.2 h)]
  · rw [if_neg h, if_neg (fun x => h (e.1 x))]

/-- products over a list -/
def prodF (f : Nat → Int) : List Nat → Int
  | [] => 1
  | q :: t => f q * prodF f t
theorem prodF_congr {f g : Nat → Int} : ∀ l : List Nat, (∀ q ∈ l, f q = g q) → prodF f l = prodF g l
  | [], _ => rfl
  | q :: t, h => by
    unfold prodF
    rw [h q List.mem_cons_self, prodF_congr t (fun x hx => h x (List.mem_cons_of_mem _ hx))]
theorem prodF_one {f : Nat → Int} (l : List Nat) (h : ∀ q ∈ l, f q = 1) : prodF f l = 1 := by
  rw [prodF_congr (g := fun _ => 1) l h]
  clear h
  induction l with
  | nil => rfl
  | cons q t ih => unfold prodF; rw [ih]; rfl
theorem prodF_mul (f g : Nat → Int) : ∀ l : List Nat, prodF (fun q => f q * g q) l = prodF f l * prodF g l
  | [] => rfl
  | q :: t => by
    unfold prodF
    rw [prodF_mul f g t]
    simp only [Int.mul_left_comm, Int.mul_assoc]
theorem prodF_at {f : Nat → Int} {p : Nat} : ∀ l : List Nat, l.Nodup → p ∈ l → (∀ q ∈ l, q ≠ p → f q = 1) → prodF f l = f p
  | [], _, h, _ => by cases h
  | q :: t, hn, hp, h => by
    rw [List.nodup_cons] at hn
    unfold prodF
    rcases List.mem_cons.1 hp with rfl | hp2
    · rw [prodF_one t (fun x hx => h x (List.mem_cons_of_mem _ hx) (fun e => hn.1 (e ▸ hx))), Int.mul_one]
    · rw [h q List.mem_cons_self (fun e => hn.1 (e ▸ hp2)), Int.one_mul]
      exact prodF_at t hn.2 hp2 (fun x hx => h x (List.mem_cons_of_mem _ hx))

/-- the product of the symbols at 2 and all odd primes -/
def twoP (n m : Int) : Int := symV n m 2 * prodF (fun q => symV n m (q : Int)) oddPrimes
theorem pl2 : plI 2 = true := rfl
theorem plP {p : Nat} (h : primeN p = true) : plI (p : Int) = true := by
  unfold plI
  rw [show primeI (p : Int) = true from h, Bool.or_true]
theorem twoP_mul {a b c : Int} (ha : a ≠ 0) (hb : b ≠ 0) (hc : c ≠ 0) : twoP a (b * c) = twoP a b * twoP a c := by
  unfold twoP
  rw [symV_mul ha hb hc pl2, prodF_congr (g := fun q => symV a b (q : Int) * symV a c (q : Int)) oddPrimes (fun q hq => symV_mul ha hb hc (plP (mem_odd.1 hq).1)), prodF_mul]
  simp only [Int.mul_left_comm, Int.mul_assoc]
theorem twoP_comm {a b : Int} (ha : a ≠ 0) (hb : b ≠ 0) : twoP a b = twoP b a := by
  unfold twoP
  rw [symV_comm ha hb pl2, prodF_congr oddPrimes (fun q hq => symV_comm ha hb (plP (mem_odd.1 hq).1))]
theorem sq_one {q : Int} (hq : plI q = true) : sqAt 1 q = true := by
  rcases plI_cases hq with rfl | rfl | ⟨P, rfl, hP, h3, h5⟩
  · rfl
  · rfl
  · have hd : ¬ P ∣ (1 : Int).natAbs := by
      intro h
      have := Nat.le_of_dvd (by decide) h
      have : (1 : Int).natAbs = 1 := rfl
      omega
    obtain ⟨a, b⟩ := unit_self hP hd (by decide)
    unfold sqAt
    rw [cls_odd h3, a, b, resN_mod 1 (by omega) 1 rfl, resN_one h3]
    rfl
theorem twoP_one {a : Int} (ha : a ≠ 0) : twoP a 1 = 1 := by
  unfold twoP
  rw [symV_sq ha pl2 (sq_one pl2), prodF_one oddPrimes (fun q hq => symV_sq ha (plP (mem_odd.1 hq).1) (sq_one (plP (mem_odd.1 hq).1)))]
  rfl
theorem sym_away' {a b : Int} {P : Nat} (hP : primeN P = true) (h3 : 3 ≤ P) (ha : ¬ P ∣ a.natAbs) (hb : ¬ P ∣ b.natAbs) (a0 : a ≠ 0) (b0 : b ≠ 0) : symV a b (P : Int) = 1 := by
  unfold symV symC
  obtain ⟨va, _⟩ := unit_self hP ha a0
  obtain ⟨vb, _⟩ := unit_self hP hb b0
  rw [cls_odd h3, cls_odd h3, va, vb, if_neg (by omega), if_neg (by omega)]
  simp [halfI]
theorem odd_two {p : Nat} (hp : primeN p = true) (p3 : 3 ≤ p) : p % 2 = 1 := by
  have := primeN_no hp (Nat.le_refl 2)
  by_cases h : p % 2 = 0
  · exact absurd h (this (by omega))
  · omega
theorem cls_two_odd {n : Int} (h : n % 2 = 1) : cls n 2 = (0, n % 8) := by
  have hd : ¬ 2 ∣ n.natAbs := by omega
  obtain ⟨a, b⟩ := unit_self prime2 hd (by omega)
  have b2 : unitI n 2 = n := b
  rw [cls_two, a, b2]
theorem symTwo (a b : Int) : symV a b 2 = halfI (((cls a 2).2 - 1) / 2 * (((cls b 2).2 - 1) / 2) + ((cls a 2).1 : Int) * (((cls b 2).2 * (cls b 2).2 - 1) / 8) + ((cls b 2).1 : Int) * (((cls a 2).2 * (cls a 2).2 - 1) / 8)) := rfl
theorem symOdd (a b : Int) {P : Nat} (h3 : 3 ≤ P) : symV a b (P : Int) = halfI (((cls a P).1 : Int) * ((cls b P).1 : Int) * (((P : Int) - 1) / 2)) * (if (cls b P).1 = 1 then (cls a P).2 else 1) * (if (cls a P).1 = 1 then (cls b P).2 else 1) := by
  unfold symV symC
  rw [if_neg (by omega), if_neg (by omega)]
theorem cls_unit {n : Int} {P : Nat} (hP : primeN P = true) (h3 : 3 ≤ P) (hd : ¬ P ∣ n.natAbs) (n0 : n ≠ 0) : cls n P = (0, resN (n % (P : Int)).toNat P) := by
  obtain ⟨a, b⟩ := unit_self hP hd n0
  rw [cls_odd h3, a, b]
theorem cls_self {P : Nat} (hP : primeN P = true) (h3 : 3 ≤ P) : cls (P : Int) P = (1, 1) := by
  have hu : unitI (P : Int) (P : Int) = 1 := by
    have := unit_eq hP (show (P : Int) ≠ 0 by omega)
    rw [Int.natAbs_natCast, val_self hP, Int.pow_one] at this
    have h0 : (P : Int) ≠ 0 := by omega
    exact Int.eq_of_mul_eq_mul_right h0 (by rw [this, Int.one_mul])
  rw [cls_odd h3, Int.natAbs_natCast, val_self hP, hu, resN_mod 1 (by omega) 1 rfl, resN_one h3]
theorem nab (p : Nat) : (p : Int).natAbs = p := Int.natAbs_natCast p

/-- for two primes -/
theorem twoP_prime {p q : Nat} (hp : primeN p = true) (hq : primeN q = true) : twoP (p : Int) (q : Int) = 1 := by
  have hp2 := (primeN_bd hp).1
  have hq2 := (primeN_bd hq).1
  have aux : ∀ {q : Nat}, primeN q = true → 3 ≤ q → twoP (2 : Int) (q : Int) = 1 := by
    intro q hq q3
    have hq2 := odd_two hq q3
    unfold twoP
    rw [prodF_at (p := q) oddPrimes odd_nodup (mem_odd.2 ⟨hq, q3⟩) (fun r hr hne => by
      obtain ⟨r1, r3⟩ := mem_odd.1 hr
      exact sym_away' r1 r3 (prime_ndvd r1 prime2 (by omega)) (prime_ndvd r1 hq hne) (by decide) (by omega))]
    rw [symTwo, symOdd _ _ q3, cls_two_odd (n := (q : Int)) (by omega), cls_self hq q3, cls_unit (n := (2 : Int)) hq q3 (prime_ndvd hq prime2 (by omega)) (by decide), resN_mod 2 (by omega) 2 rfl, two_leg hq q3, show cls 2 2 = (1, 1) from by decide]
    have : q % 8 = 1 ∨ q % 8 = 3 ∨ q % 8 = 5 ∨ q % 8 = 7 := by omega
    have e : (q : Int) % 8 = ((q % 8 : Nat) : Int) := by omega
    rw [e]
    rcases this with h | h | h | h <;> rw [h] <;> simp [halfI]
  by_cases p2 : p = 2
  · subst p2
    by_cases q2 : q = 2
    · subst q2
      unfold twoP
      rw [prodF_one oddPrimes (fun r hr => by
        obtain ⟨r1, r3⟩ := mem_odd.1 hr
        exact sym_away' r1 r3 (prime_ndvd r1 prime2 (by omega)) (prime_ndvd r1 prime2 (by omega)) (by decide) (by decide))]
      decide
    · exact aux hq (by omega)
  · have p3 : 3 ≤ p := by omega
    by_cases q2 : q = 2
    · subst q2
      rw [twoP_comm (by omega) (by decide)]
      exact aux hp p3
    · have q3 : 3 ≤ q := by omega
      have po := odd_two hp p3
      have qo := odd_two hq q3
      unfold twoP
      by_cases e : p = q
      · subst e
        rw [prodF_at (p := p) oddPrimes odd_nodup (mem_odd.2 ⟨hp, p3⟩) (fun r hr hne => by
          obtain ⟨r1, r3⟩ := mem_odd.1 hr
          exact sym_away' r1 r3 (prime_ndvd r1 hp hne) (prime_ndvd r1 hp hne) (by omega) (by omega))]
        rw [symTwo, symOdd _ _ p3, cls_two_odd (n := (p : Int)) (by omega), cls_self hp p3]
        have e : (p : Int) % 8 = ((p % 8 : Nat) : Int) := by omega
        have : p % 8 = 1 ∨ p % 8 = 3 ∨ p % 8 = 5 ∨ p % 8 = 7 := by omega
        have e2 : ((p : Int) - 1) / 2 % 2 = (((p % 8 : Nat) : Int) - 1) / 2 % 2 := by omega
        rw [show halfI (((1 : Nat) : Int) * ((1 : Nat) : Int) * (((p : Int) - 1) / 2)) = halfI ((((p % 8 : Nat) : Int) - 1) / 2) from halfI_congr (by simpa using e2), e]
        rcases this with h | h | h | h <;> rw [h] <;> simp [halfI]
      · have hf : ∀ r ∈ oddPrimes, symV (p : Int) (q : Int) (r : Int) = (if r = q then resN p q else 1) * (if r = p then resN q p else 1) := by
          intro r hr
          obtain ⟨r1, r3⟩ := mem_odd.1 hr
          by_cases rp : r = p
          · subst rp
            rw [if_neg e, if_pos rfl, symOdd _ _ p3, cls_self hp p3, cls_unit (n := (q : Int)) hp p3 (prime_ndvd hp hq e) (by omega), resN_mod q (by omega) q rfl]
            simp [halfI]
          · by_cases rq : r = q
            · subst rq
              rw [if_pos rfl, if_neg rp, symOdd _ _ q3, cls_self hq q3, cls_unit (n := (p : Int)) hq q3 (prime_ndvd hq hp rp) (by omega), resN_mod p (by omega) p rfl]
              simp [halfI]
            · rw [if_neg rq, if_neg rp]
              exact sym_away' r1 r3 (prime_ndvd r1 hp rp) (prime_ndvd r1 hq rq) (by omega) (by omega)
        rw [prodF_congr oddPrimes hf, prodF_mul, prodF_at (p := q) oddPrimes odd_nodup (mem_odd.2 ⟨hq, q3⟩) (fun r _ h => by rw [if_neg h]), prodF_at (p := p) oddPrimes odd_nodup (mem_odd.2 ⟨hp, p3⟩) (fun r _ h => by rw [if_neg h]), if_pos rfl, if_pos rfl, recip hp p3 hq q3 e, symTwo, cls_two_odd (n := (p : Int)) (by omega), cls_two_odd (n := (q : Int)) (by omega)]
        have e1 : (p : Int) % 8 = ((p % 8 : Nat) : Int) := by omega
        have e2 : (q : Int) % 8 = ((q % 8 : Nat) : Int) := by omega
        have h1 : p % 8 = 1 ∨ p % 8 = 3 ∨ p % 8 = 5 ∨ p % 8 = 7 := by omega
        have h2 : q % 8 = 1 ∨ q % 8 = 3 ∨ q % 8 = 5 ∨ q % 8 = 7 := by omega
        rw [e1, e2, show p % 4 = p % 8 % 4 by omega, show q % 4 = q % 8 % 4 by omega]
        rcases h1 with h | h | h | h <;> rcases h2 with k | k | k | k <;> rw [h, k] <;> simp [halfI]

theorem prime_factor' : ∀ (k n : Nat), n ≤ k → 1 < n → ∃ p, PrG p ∧ p ∣ n
  | 0, n, h, h1 => by omega
  | k + 1, n, h, h1 => by
    by_cases hp : PrG n
    · exact ⟨n, hp, Nat.dvd_refl n⟩
    · have : ∃ d, d ∣ n ∧ d ≠ 1 ∧ d ≠ n := Classical.byContradiction fun hc => hp ⟨h1, fun d hd => Classical.byContradiction fun hne => hc ⟨d, hd, fun e => hne (.inl e), fun e => hne (.inr e)⟩⟩
      obtain ⟨d, hd, d1, dn⟩ := this
      have hle := Nat.le_of_dvd (by omega) hd
      have hd0 : d ≠ 0 := by rintro rfl; rw [Nat.zero_dvd] at hd; omega
      obtain ⟨p, hp1, hp2⟩ := prime_factor' k d (by omega) (by omega)
      exact ⟨p, hp1, Nat.dvd_trans hp2 hd⟩
theorem pos_ind {C : Nat → Prop} (h1 : C 1) (hm : ∀ p, primeN p = true → ∀ c, 0 < c → C c → C (p * c)) : ∀ k n : Nat, n ≤ k → 0 < n → n ≤ 5000 → C n
  | 0, n, h, h0, _ => by omega
  | k + 1, n, h, h0, h5 => by
    by_cases hn : n = 1
    · rw [hn]; exact h1
    · obtain ⟨p, hp, c, rfl⟩ := prime_factor' n n (Nat.le_refl _) (by omega)
      have hp2 := hp.1
      have hc0 : 0 < c := by
        rcases Nat.eq_zero_or_pos c with e | e
        · rw [e] at h0; omega
        · exact e
      have hle : p ≤ p * c := Nat.le_mul_of_pos_right p hc0
      have hlt : c < p * c := by
        have := Nat.mul_le_mul_right c hp2
        omega
      exact hm p (prG_primeN hp (by omega)) c hc0 (pos_ind h1 hm k c (by omega) hc0 (by omega))
/-- THE PRODUCT FORMULA for two numbers above 0 -/
theorem twoP_all {n m : Nat} (n0 : 0 < n) (n5 : n ≤ 5000) (m0 : 0 < m) (m5 : m ≤ 5000) : twoP (n : Int) (m : Int) = 1 := by
  have one : ∀ {p : Nat}, primeN p = true → twoP (p : Int) (m : Int) = 1 := by
    intro p hp
    have hp2 := (primeN_bd hp).1
    refine pos_ind (C := fun m => twoP (p : Int) (m : Int) = 1) (twoP_one (by omega)) (fun q hq c hc hC => ?_) m m (Nat.le_refl _) m0 m5
    have hq2 := (primeN_bd hq).1
    rw [Int.natCast_mul, twoP_mul (by omega) (by omega) (by omega), twoP_prime hp hq, hC]
    rfl
  refine pos_ind (C := fun n => twoP (n : Int) (m : Int) = 1) ?_ (fun q hq c hc hC => ?_) n n (Nat.le_refl _) n0 n5
  · rw [twoP_comm (by decide) (by omega)]
    exact twoP_one (by omega)
  · have hq2 := (primeN_bd hq).1
    rw [twoP_comm (by have := Nat.mul_pos (show 0 < q by omega) hc; omega) (by omega), Int.natCast_mul, twoP_mul (by omega) (by omega) (by omega), twoP_comm (by omega) (by omega), one hq, twoP_comm (by omega) (by omega), hC]
    rfl

/-- Jacobi's symbol, place by place -/
def jf (n m : Int) (q : Nat) : Int := if val m.natAbs q % 2 = 1 then resN (n % (q : Int)).toNat q else 1
def jaS (n m : Int) : Int := prodF (jf n m) oddPrimes
theorem val_nd {n q : Nat} (h : ¬ q ∣ n) : val n q = 0 := val_stop (fun e => h (Nat.dvd_of_mod_eq_zero e))
theorem jf_nd {n m : Int} {q : Nat} (h : ¬ q ∣ m.natAbs) : jf n m q = 1 := by unfold jf; rw [val_nd h, if_neg (by decide)]
theorem sym_jf {n m : Nat} {q : Nat} (hq : primeN q = true) (q3 : 3 ≤ q) (n0 : 0 < n) (m0 : 0 < m) (hd : ¬ q ∣ n) : symV (n : Int) (m : Int) (q : Int) = jf n m q := by
  rw [symOdd _ _ q3, cls_unit hq q3 (n := (n : Int)) (by rw [nab]; exact hd) (by omega), cls_odd q3]
  unfold jf
  simp [halfI]
theorem sym_two_jf {n m q : Nat} (hq : primeN q = true) (q3 : 3 ≤ q) (n0 : 0 < n) (m0 : 0 < m) (hc : Nat.gcd n m = 1) : symV (n : Int) (m : Int) (q : Int) = jf n m q * jf m n q := by
  by_cases hn : q ∣ n
  · have hm : ¬ q ∣ m := by
      intro hm
      have := Nat.dvd_gcd hn hm
      rw [hc, Nat.dvd_one] at this
      omega
    rw [symV_comm (by omega) (by omega) (plP hq), sym_jf hq q3 m0 n0 hm, jf_nd (n := (n : Int)) (m := (m : Int)) (by rw [nab]; exact hm), Int.one_mul]
  · rw [sym_jf hq q3 n0 m0 hn, jf_nd (n := (m : Int)) (m := (n : Int)) (by rw [nab]; exact hn), Int.mul_one]
theorem jaS_both {n m : Nat} (n0 : 0 < n) (n5 : n ≤ 5000) (m0 : 0 < m) (m5 : m ≤ 5000) (hc : Nat.gcd n m = 1) : symV (n : Int) (m : Int) 2 * (jaS n m * jaS m n) = 1 := by
  have := twoP_all n0 n5 m0 m5
  unfold twoP at this
  rw [prodF_congr (g := fun q => jf n m q * jf m n q) oddPrimes (fun q hq => sym_two_jf (mem_odd.1 hq).1 (mem_odd.1 hq).2 n0 m0 hc), prodF_mul] at this
  exact this
theorem unit_two {n : Nat} (n0 : 0 < n) : 0 < unitI (n : Int) 2 ∧ unitI (n : Int) 2 ≤ n ∧ unitI (n : Int) 2 % 2 = 1 ∧ unitI (n : Int) 2 * 2 ^ val n 2 = n := by
  have e : unitI (n : Int) 2 * 2 ^ val n 2 = n := by
    have := unit_eq prime2 (show (n : Int) ≠ 0 by omega)
    rw [nab] at this
    exact this
  have hd := unit_dvd prime2 (show (n : Int) ≠ 0 by omega)
  have hp : (0 : Int) < 2 ^ val n 2 := Int.pow_pos (by decide)
  have h0 : 0 < unitI (n : Int) 2 := by
    refine Classical.byContradiction fun hc => ?_
    have := Int.mul_le_mul_of_nonneg_right (show unitI (n : Int) 2 ≤ 0 by omega) (Int.le_of_lt hp)
    omega
  refine ⟨h0, ?_, by have hd2 : ¬ 2 ∣ (unitI (n : Int) 2).natAbs := hd; omega, e⟩
  have := Int.mul_le_mul_of_nonneg_left (show (1 : Int) ≤ 2 ^ val n 2 by omega) (Int.le_of_lt h0)
  omega
theorem jf_odd {m : Int} {n o : Nat} (n0 : 0 < n) (ho : unitI (n : Int) 2 = (o : Int)) {q : Nat} (hq : primeN q = true) (q3 : 3 ≤ q) : jf m (n : Int) q = jf (m % (o : Int)) (o : Int) q := by
  obtain ⟨h1, _, _, h4⟩ := unit_two n0
  rw [ho] at h1 h4
  have e : n = o * 2 ^ val n 2 := by exact_mod_cast h4.symm
  have hv : val n q = val o q := by
    have h5 := val_mul hq _ o (2 ^ val n 2) (Nat.le_refl _) (by omega) (Nat.pow_pos (by decide))
    rw [← e, val_nd (n := 2 ^ val n 2) (pow_ndvd hq (prime_ndvd hq prime2 (by omega)) _)] at h5
    omega
  unfold jf
  rw [nab, nab, hv]
  split
  · next h =>
    have hdo : q ∣ o := Classical.byContradiction fun hc => by rw [val_nd hc] at h; omega
    rw [Int.emod_emod_of_dvd m (Int.natCast_dvd_natCast.2 hdo)]
  · rfl
theorem unit_of_mul {a b c : Int} (h : a * (b * c) = 1) : b = a * c := by
  have h1 : a.natAbs * (b.natAbs * c.natAbs) = 1 := by rw [← Int.natAbs_mul, ← Int.natAbs_mul, h]; rfl
  have a1 := Nat.eq_one_of_mul_eq_one_right h1
  have h2 := Nat.eq_one_of_mul_eq_one_left h1
  have b1 := Nat.eq_one_of_mul_eq_one_right h2
  have c1 := Nat.eq_one_of_mul_eq_one_left h2
  have ha : a = 1 ∨ a = -1 := by omega
  have hb : b = 1 ∨ b = -1 := by omega
  have hc : c = 1 ∨ c = -1 := by omega
  rcases ha with rfl | rfl <;> rcases hb with rfl | rfl <;> rcases hc with rfl | rfl <;> simp_all
/-- one round of the program's loop -/
theorem jaS_step {n m o : Nat} (n0 : 0 < n) (n5 : n ≤ 5000) (m0 : 0 < m) (m5 : m ≤ 5000) (hc : Nat.gcd n m = 1) (ho : unitI (n : Int) 2 = (o : Int)) : jaS (n : Int) (m : Int) = symV (n : Int) (m : Int) 2 * jaS ((m % o : Nat) : Int) (o : Int) := by
  have := unit_of_mul (jaS_both n0 n5 m0 m5 hc)
  rw [this]
  congr 1
  unfold jaS
  refine prodF_congr _ fun q hq => ?_
  rw [jf_odd n0 ho (mem_odd.1 hq).1 (mem_odd.1 hq).2, Int.natCast_emod]
theorem jaS_zero : jaS 0 1 = 1 := by
  unfold jaS
  refine prodF_one _ fun q hq => jf_nd ?_
  have := (mem_odd.1 hq).2
  intro h
  have := Nat.le_of_dvd (by decide) h
  have : (1 : Int).natAbs = 1 := rfl
  omega
theorem jaS_prime (u : Int) {p : Nat} (hp : primeN p = true) (p3 : 3 ≤ p) : jaS u (p : Int) = resN (u % (p : Int)).toNat p := by
  unfold jaS
  rw [prodF_at (p := p) oddPrimes odd_nodup (mem_odd.2 ⟨hp, p3⟩) (fun q hq hne => jf_nd (by rw [nab]; exact prime_ndvd (mem_odd.1 hq).1 hp hne))]
  unfold jf
  rw [nab, val_self hp, if_pos rfl]
theorem gcd_round {n m o : Nat} (n0 : 0 < n) (hc : Nat.gcd n m = 1) (ho : unitI (n : Int) 2 = (o : Int)) : Nat.gcd (m % o) o = 1 := by
  obtain ⟨_, _, _, h4⟩ := unit_two n0
  rw [ho] at h4
  have e : n = o * 2 ^ val n 2 := by exact_mod_cast h4.symm
  have hd : Nat.gcd o m ∣ Nat.gcd n m := Nat.dvd_gcd (Nat.dvd_trans (Nat.gcd_dvd_left _ _) ⟨_, e⟩) (Nat.gcd_dvd_right _ _)
  rw [hc, Nat.dvd_one] at hd
  rw [← Nat.gcd_rec]
  exact hd

end Go.Proofs.Ytdidmblkknnglaa

set_option linter.unusedVariables false
namespace Go.Proofs.Ytdidmblkknnglaa
open Go.RowKit

def sgB (b : Bool) : Int := if b = true then -1 else 1
theorem signOf_any (b : Bool) (w : World) : Calls Try.prog 87 #[.bool b] w fun e w' => e = .returned (.int .i64 (sgB b)) ∧ w = w' := by
  cases b
  all_goals
    go_enter Try.func87, Try.ntmps87
    go_wp2
    go_ret
    exact ⟨retI rfl, rfl⟩

def s8 (u : Int) : Int := if u % 8 = 3 ∨ u % 8 = 5 then -1 else 1
theorem s8_small (u : Int) : -1 ≤ s8 u ∧ s8 u ≤ 1 := by unfold s8; split <;> omega
theorem sgB_small (b : Bool) : -1 ≤ sgB b ∧ sgB b ≤ 1 := by cases b <;> decide
theorem signByEight_any (u : Int) (h1 : -1000000000 ≤ u) (h2 : u ≤ 1000000000) (w : World) : Calls Try.prog 103 #[.int .i64 u] w fun e w' => e = .returned (.int .i64 (s8 u)) ∧ w = w' := by
  have H : Hid (sgB (u % 8 == 3 || u % 8 == 5) = s8 u) := by
    show _ = _
    cases hb : (u % 8 == 3 || u % 8 == 5) with
    | true =>
      rw [Bool.or_eq_true, beq_iff_eq, beq_iff_eq] at hb
      unfold s8
      rw [if_pos hb]
      rfl
    | false =>
      have h : ¬ (u % 8 = 3 ∨ u % 8 = 5) := by
        intro h
        rw [← beq_iff_eq, ← beq_iff_eq (a := u % 8) (b := 5), ← Bool.or_eq_true, hb] at h
        cases h
      unfold s8
      rw [if_neg h]
      rfl
  by_cases h3 : u % 8 = 3
  · have T : (u % 8 == 3) = true := by rw [beq_iff_eq]; exact h3
    have H2 : Hid (sgB true = s8 u) := hid (by rw [← H.out, T]; rfl)
    clear h3
    go_enter Try.func103, Try.ntmps103
    go_wp2_with (first | (go_at_call 94; refine (rest_any _ _ (by omega) (by omega) (by omega) (by omega) _).mono ?_; rintro e w' ⟨rfl, rfl⟩) | (go_at_call 87; refine (signOf_any _ _).mono ?_; rintro e w' ⟨rfl, rfl⟩))
    go_ret
    exact ⟨retI H2.out, rfl⟩
  · have T : (u % 8 == 3) = false := by rw [beq_eq_false_iff_ne]; exact h3
    have H2 : Hid (sgB (u % 8 == 5) = s8 u) := hid (by rw [← H.out, T]; rfl)
    clear h3
    go_enter Try.func103, Try.ntmps103
    go_wp2_with (first | (go_at_call 94; refine (rest_any _ _ (by omega) (by omega) (by omega) (by omega) _).mono ?_; rintro e w' ⟨rfl, rfl⟩) | (go_at_call 87; refine (signOf_any _ _).mono ?_; rintro e w' ⟨rfl, rfl⟩))
    go_ret
    exact ⟨retI H2.out, rfl⟩

theorem emod4 (u : Int) : u % 8 % 4 = u % 4 := Int.emod_emod_of_dvd u (by decide)
theorem symTwo_eq {a b : Int} (a0 : a ≠ 0) (b0 : b ≠ 0) : symV a b 2 = sgB (unitI a 2 % 4 == 3 && unitI b 2 % 4 == 3) * (if val a.natAbs 2 % 2 = 1 then s8 (unitI b 2) else 1) * (if val b.natAbs 2 % 2 = 1 then s8 (unitI a 2) else 1) := by
  have hu : ¬ 2 ∣ (unitI a 2).natAbs := unit_dvd prime2 a0
  have hv : ¬ 2 ∣ (unitI b 2).natAbs := unit_dvd prime2 b0
  rw [symTwo, cls_two, cls_two]
  obtain ⟨u, hu2⟩ : ∃ u, u = unitI a 2 := ⟨_, rfl⟩
  obtain ⟨v, hv2⟩ : ∃ v, v = unitI b 2 := ⟨_, rfl⟩
  rw [← hu2] at hu ⊢
  rw [← hv2] at hv ⊢
  have h1 : u % 8 = 1 ∨ u % 8 = 3 ∨ u % 8 = 5 ∨ u % 8 = 7 := by omega
  have h2 : v % 8 = 1 ∨ v % 8 = 3 ∨ v % 8 = 5 ∨ v % 8 = 7 := by omega
  have h3 : val a.natAbs 2 % 2 = 0 ∨ val a.natAbs 2 % 2 = 1 := by omega
  have h4 : val b.natAbs 2 % 2 = 0 ∨ val b.natAbs 2 % 2 = 1 := by omega
  unfold s8
  rw [← emod4 u, ← emod4 v]
  rcases h1 with h | h | h | h <;> rcases h2 with k | k | k | k <;> rcases h3 with i | i <;> rcases h4 with j | j <;> rw [h, k, i, j] <;> decide

set_option maxHeartbeats 1000000 in
theorem symbolAtTwo_any (a b : Int) (a0 : a ≠ 0) (b0 : b ≠ 0) (a1 : -1000000000 ≤ a) (a2 : a ≤ 1000000000) (b1 : -1000000000 ≤ b) (b2 : b ≤ 1000000000) (w : World) :
    Calls Try.prog 88 #[.int .i64 a, .int .i64 b] w fun e w' => e = .returned (.int .i64 (symV a b 2)) ∧ w = w' := by
  have hub := unit_bd a 2
  have hvb := unit_bd b 2
  have HE := hid (symTwo_eq a0 b0)
  have A0 := hid a0
  have B0 := hid b0
  obtain ⟨i, hi⟩ : ∃ i, i = val a.natAbs 2 := ⟨_, rfl⟩
  obtain ⟨j, hj⟩ : ∃ j, j = val b.natAbs 2 := ⟨_, rfl⟩
  obtain ⟨U, hU⟩ : ∃ U, U = unitI a 2 := ⟨_, rfl⟩
  obtain ⟨V, hV⟩ : ∃ V, V = unitI b 2 := ⟨_, rfl⟩
  have hiv := val_le 2 (by omega) _ a.natAbs (Nat.le_refl _)
  have hjv := val_le 2 (by omega) _ b.natAbs (Nat.le_refl _)
  rw [← hi, ← hj, ← hU, ← hV] at HE
  rw [← hi] at hiv
  rw [← hj] at hjv
  rw [← hU] at hub
  rw [← hV] at hvb
  have HI : Hid (val a.natAbs (2 : Int).toNat = i) := hid hi.symm
  have HJ : Hid (val b.natAbs (2 : Int).toNat = j) := hid hj.symm
  have HU := hid hU.symm
  have HV := hid hV.symm
  have sv := s8_small V
  have su := s8_small U
  obtain ⟨x, hx⟩ : ∃ x, x = s8 V := ⟨_, rfl⟩
  obtain ⟨y, hy⟩ : ∃ y, y = s8 U := ⟨_, rfl⟩
  rw [← hx, ← hy] at HE
  rw [← hx] at sv
  rw [← hy] at su
  have HX := hid hx.symm
  have HY := hid hy.symm
  have sv1 := sv.1
  have sv2 := sv.2
  have su1 := su.1
  have su2 := su.2
  clear hi hj hU hV hx hy sv su a0 b0
  have key : ∀ t : Bool, (U % 4 == 3 && V % 4 == 3) = t → ∃ s, sgB t = s ∧ -1 ≤ s ∧ s ≤ 1 ∧ Hid (symV a b 2 = s * (if i % 2 = 1 then x else 1) * (if j % 2 = 1 then y else 1)) := fun t ht => ⟨_, rfl, (sgB_small t).1, (sgB_small t).2, hid (by rw [HE.out, ht])⟩
  have go : ∀ t : Bool, (U % 4 == 3 && V % 4 == 3) = t → (U % 4 == 3) = true ∨ ((U % 4 == 3) = false ∧ t = false) := fun t ht => by
    cases h : (U % 4 == 3)
    · right; rw [h] at ht; exact ⟨rfl, by rw [← ht]; rfl⟩
    · left; rfl
  obtain ⟨t, ht⟩ : ∃ t, (U % 4 == 3 && V % 4 == 3) = t := ⟨_, rfl⟩
  obtain ⟨s, hs, s1, s2, HS⟩ := key t ht
  have hsx := small_mul s1 s2 sv1 sv2
  have hsy := small_mul s1 s2 su1 su2
  have hsxy := small_mul hsx.1 hsx.2 su1 su2
  have p1 := hsx.1
  have p2 := hsx.2
  have q1 := hsy.1
  have q2 := hsy.2
  have r1 := hsxy.1
  have r2 := hsxy.2
  have HT := hid hs
  clear hs hsx hsy hsxy key HE
  rcases go t ht with T1 | ⟨T1, rfl⟩
  · have T2 : (V % 4 == 3) = t := by rw [← ht, T1]; rfl
    clear ht go
    have hi2 : i % 2 = 0 ∨ i % 2 = 1 := by omega
    have hj2 : j % 2 = 0 ∨ j % 2 = 1 := by omega
    rcases hi2 with e1 | e1 <;> rcases hj2 with e2 | e2
    all_goals
      rw [e1, e2] at HS
      first
        | have Ti : ((i : Int) % 2 == 1) = true := by rw [beq_iff_eq]; omega
        | have Ti : ((i : Int) % 2 == 1) = false := by rw [beq_eq_false_iff_ne]; omega
      first
        | have Tj : ((j : Int) % 2 == 1) = true := by rw [beq_iff_eq]; omega
        | have Tj : ((j : Int) % 2 == 1) = false := by rw [beq_eq_false_iff_ne]; omega
      clear e1 e2
      go_enter Try.func88, Try.ntmps88
      go_wp2_with fail
      refine (splitAt_any a 2 A0.out a1 a2 (by omega) (by omega) _).mono ?_
      rw [HI.out, HU.out]
      rintro e w' ⟨rfl, rfl⟩
      go_wp2_with fail
      refine (splitAt_any b 2 B0.out b1 b2 (by omega) (by omega) _).mono ?_
      rw [HJ.out, HV.out]
      rintro e w' ⟨rfl, rfl⟩
      go_wp2_with (first | (go_at_call 94; refine (rest_any _ _ (by omega) (by omega) (by omega) (by omega) _).mono ?_; rintro e w' ⟨rfl, rfl⟩) | (go_at_call 87; refine (signOf_any _ _).mono ?_; rw [HT.out]; rintro e w' ⟨rfl, rfl⟩) | (go_at_call 103; refine (signByEight_any _ (by omega) (by omega) _).mono ?_; (first | rw [HX.out] | rw [HY.out]); rintro e w' ⟨rfl, rfl⟩))
      go_ret
      exact ⟨retI (by rw [HS.out]; simp), rfl⟩
  · clear ht go
    have hi2 : i % 2 = 0 ∨ i % 2 = 1 := by omega
    have hj2 : j % 2 = 0 ∨ j % 2 = 1 := by omega
    rcases hi2 with e1 | e1 <;> rcases hj2 with e2 | e2
    all_goals
      rw [e1, e2] at HS
      first
        | have Ti : ((i : Int) % 2 == 1) = true := by rw [beq_iff_eq]; omega
        | have Ti : ((i : Int) % 2 == 1) = false := by rw [beq_eq_false_iff_ne]; omega
      first
        | have Tj : ((j : Int) % 2 == 1) = true := by rw [beq_iff_eq]; omega
        | have Tj : ((j : Int) % 2 == 1) = false := by rw [beq_eq_false_iff_ne]; omega
      clear e1 e2
      go_enter Try.func88, Try.ntmps88
      go_wp2_with fail
      refine (splitAt_any a 2 A0.out a1 a2 (by omega) (by omega) _).mono ?_
      rw [HI.out, HU.out]
      rintro e w' ⟨rfl, rfl⟩
      go_wp2_with fail
      refine (splitAt_any b 2 B0.out b1 b2 (by omega) (by omega) _).mono ?_
      rw [HJ.out, HV.out]
      rintro e w' ⟨rfl, rfl⟩
      go_wp2_with (first | (go_at_call 94; refine (rest_any _ _ (by omega) (by omega) (by omega) (by omega) _).mono ?_; rintro e w' ⟨rfl, rfl⟩) | (go_at_call 87; refine (signOf_any _ _).mono ?_; rw [HT.out]; rintro e w' ⟨rfl, rfl⟩) | (go_at_call 103; refine (signByEight_any _ (by omega) (by omega) _).mono ?_; (first | rw [HX.out] | rw [HY.out]); rintro e w' ⟨rfl, rfl⟩))
      go_ret
      exact ⟨retI (by rw [HS.out]; simp), rfl⟩

set_option maxHeartbeats 1000000 in
theorem residueSign_any (u : Int) (P : Nat) (hP : primeN P = true) (h3 : 3 ≤ P) (hd : ¬ P ∣ u.natAbs) (h1 : -1000000000 ≤ u) (h2 : u ≤ 1000000000) (w : World) :
    Calls Try.prog 91 #[.int .i64 u, .int .i64 P] w fun e w' => e = .returned (.int .i64 (resN (u % (P : Int)).toNat P)) ∧ w = w' := by
  have h5 := (primeN_bd hP).2.1
  have m1 := Int.emod_nonneg u (show (P : Int) ≠ 0 by omega)
  have m2 := Int.emod_lt_of_pos u (show (0 : Int) < (P : Int) by omega)
  obtain ⟨N, hN⟩ := Int.eq_ofNat_of_zero_le m1
  have hNP : N < P := by omega
  obtain ⟨R, hR⟩ : ∃ R, R = resN (u % (P : Int)).toNat P := ⟨_, rfl⟩
  have HR := hid hR
  have H0 : Hid (Nat.gcd N P = 1 ∧ P % 2 = 1 ∧ 1 * jaS (N : Int) (P : Int) = R) := hid (by
    refine ⟨?_, odd_two hP h3, ?_⟩
    · rw [Nat.gcd_comm]
      refine prime_coprime hP ?_
      have := emod_ndvd (by omega) hd
      rw [hN] at this
      exact this
    · rw [Int.one_mul, jaS_prime _ hP h3, hR, ← hN, Int.emod_emod_of_dvd u (Int.dvd_refl _)])
  have HN := hid hN
  rw [← hR]
  clear hR hN hd m1 m2
  go_enter Try.func91, Try.ntmps91
  go_wp2_with (go_at_call 94; refine (rest_any u (P : Int) (by omega) (by omega) (by omega) (by omega) _).mono ?_; rw [HN.out]; rintro e w' ⟨rfl, rfl⟩)
  go_loop [0, 1, 5] (fun sn sm ss => ∃ (n m : Nat) (s : Int), sn = .int .i64 n ∧ sm = .int .i64 m ∧ ss = .int .i64 s ∧ n ≤ 5000 ∧ 1 ≤ m ∧ m ≤ 5000 ∧ -1 ≤ s ∧ s ≤ 1 ∧ Hid (Nat.gcd n m = 1 ∧ m % 2 = 1 ∧ s * jaS (n : Int) (m : Int) = R)) (fun sn _ _ => (intOf sn).toNat)
  case atStart => exact ⟨N, P, 1, rfl, rfl, rfl, by omega, by omega, h5, by omega, by omega, H0⟩
  case round =>
    obtain ⟨n, m, s, rfl, rfl, rfl, n5, m1, m5, s1, s2, HI⟩ := hrel
    by_cases n0 : n = 0
    · subst n0
      have HF : Hid (s = R) := hid (by
        obtain ⟨g1, g2, g3⟩ := HI.out
        rw [Nat.gcd_zero_left] at g1
        rw [g1] at g3
        rw [← g3]
        have := jaS_zero
        show s = s * jaS 0 1
        rw [this, Int.mul_one])
      go_wp2
      go_ret
      exact ⟨retI HF.out, rfl⟩
    · have hn0 : (n : Int) ≠ 0 := by omega
      have T : ((n : Int) == 0) = false := by rw [beq_eq_false_iff_ne]; exact hn0
      obtain ⟨u1, u2, u3, _⟩ := unit_two (n := n) (by omega)
      obtain ⟨o, ho⟩ := Int.eq_ofNat_of_zero_le (show 0 ≤ unitI (n : Int) 2 by omega)
      have ho1 : 1 ≤ o := by omega
      have ho2 : o ≤ n := by omega
      have ho3 : o % 2 = 1 := by omega
      have hsv := symV_val (a := (n : Int)) (b := (m : Int)) (by omega) (by omega) pl2
      obtain ⟨x, hx⟩ : ∃ x, x = symV (n : Int) (m : Int) 2 := ⟨_, rfl⟩
      rw [← hx] at hsv
      have x1 : -1 ≤ x := by omega
      have x2 : x ≤ 1 := by omega
      have hsx := small_mul s1 s2 x1 x2
      have p1 := hsx.1
      have p2 := hsx.2
      have hml : m % o < o := Nat.mod_lt _ (by omega)
      have HX := hid hx.symm
      have HO := hid ho
      have hvv := val_le 2 (by omega) _ n (Nat.le_refl _)
      obtain ⟨v, hv⟩ : ∃ v, v = val (n : Int).natAbs (2 : Int).toNat := ⟨_, rfl⟩
      have HV := hid hv.symm
      have HNEW : Hid (Nat.gcd (m % o) o = 1 ∧ o % 2 = 1 ∧ s * x * jaS ((m % o : Nat) : Int) (o : Int) = R) := hid (by
        obtain ⟨g1, g2, g3⟩ := HI.out
        refine ⟨gcd_round (by omega) g1 ho, ho3, ?_⟩
        rw [jaS_step (by omega) n5 (by omega) m5 g1 ho] at g3
        rw [hx, Int.mul_assoc]
        exact g3)
      have HM : Hid (((m % o : Nat) : Int) = (m : Int) % (o : Int)) := hid (by rw [Int.natCast_emod])
      clear hsv hx hsx ho u1 u2 u3 hv n0
      go_wp2_with fail
      refine (symbolAtTwo_any _ _ (by omega) (by omega) (by omega) (by omega) (by omega) (by omega) _).mono ?_
      rw [HX.out]
      rintro e w' ⟨rfl, rfl⟩
      go_wp2_with fail
      refine (splitAt_any _ _ (by omega) (by omega) (by omega) (by omega) (by omega) _).mono ?_
      rw [HO.out, HV.out]
      rintro e w' ⟨rfl, rfl⟩
      go_wp2
      go_round
      case rel => exact ⟨m % o, o, s * x, by rw [HM.out], rfl, rfl, by omega, ho1, by omega, p1, p2, HNEW⟩
      case measure =>
        simp only [intOf]
        rw [← HM.out]
        omega

theorem symZero_any (a b : Int) (a0 : a ≠ 0) (b0 : b ≠ 0) (w : World) : Calls Try.prog 86 #[.int .i64 a, .int .i64 b] w fun e w' => e = .returned (.int .i64 (symV a b 0)) ∧ w = w' := by
  by_cases ha : a < 0
  · by_cases hb : b < 0
    · have H : Hid (sgB true = symV a b 0) := hid (by unfold symV symC; rw [cls_zero, cls_zero, if_neg (by omega : ¬ 0 < a), if_neg (by omega : ¬ 0 < b)]; rfl)
      go_enter Try.func86, Try.ntmps86
      go_wp2_with (go_at_call 87; refine (signOf_any _ _).mono ?_; rintro e w' ⟨rfl, rfl⟩)
      go_ret
      exact ⟨retI H.out, rfl⟩
    · have H : Hid (sgB false = symV a b 0) := hid (by unfold symV symC; rw [cls_zero, cls_zero, if_neg (by omega : ¬ 0 < a), if_pos (by omega : 0 < b)]; rfl)
      go_enter Try.func86, Try.ntmps86
      go_wp2_with (go_at_call 87; refine (signOf_any _ _).mono ?_; rintro e w' ⟨rfl, rfl⟩)
      go_ret
      exact ⟨retI H.out, rfl⟩
  · have H : Hid (sgB false = symV a b 0) := hid (by unfold symV symC; rw [cls_zero, cls_zero, if_pos (by omega : 0 < a)]; simp [sgB])
    go_enter Try.func86, Try.ntmps86
    go_wp2_with (go_at_call 87; refine (signOf_any _ _).mono ?_; rintro e w' ⟨rfl, rfl⟩)
    go_ret
    exact ⟨retI H.out, rfl⟩

theorem symOdd_eq (a b : Int) {P : Nat} (hP : primeN P = true) (h3 : 3 ≤ P) : symV a b (P : Int) = sgB (val a.natAbs P % 2 == 1 && val b.natAbs P % 2 == 1 && P % 4 == 3) * (if val b.natAbs P % 2 = 1 then resN (unitI a P % (P : Int)).toNat P else 1) * (if val a.natAbs P % 2 = 1 then resN (unitI b P % (P : Int)).toNat P else 1) := by
  have ho := odd_two hP h3
  rw [symOdd a b h3, cls_odd h3, cls_odd h3]
  congr 2
  dsimp only
  have h1 : val a.natAbs P % 2 = 0 ∨ val a.natAbs P % 2 = 1 := by omega
  have h2 : val b.natAbs P % 2 = 0 ∨ val b.natAbs P % 2 = 1 := by omega
  have h4 : P % 4 = 1 ∨ P % 4 = 3 := by omega
  rcases h1 with e1 | e1 <;> rcases h2 with e2 | e2 <;> rw [e1, e2]
  · simp [halfI, sgB]
  · simp [halfI, sgB]
  · simp [halfI, sgB]
  · rcases h4 with e | e
    · rw [e, halfI_congr (f := 0) (by omega)]; rfl
    · rw [e, halfI_congr (f := 1) (by omega)]; rfl

set_option maxHeartbeats 2000000 in
theorem symP_any (a b : Int) (P B : Nat) (hP : primeN P = true) (h3 : 3 ≤ P) (a0 : a ≠ 0) (b0 : b ≠ 0) (a1 : -1000000000 ≤ a) (a2 : a ≤ 1000000000) (b1 : -1000000000 ≤ b) (b2 : b ≤ 1000000000) (w : World) (hc : w.cell? ⟨B, 0, none⟩ = some (.int .i64 P)) :
    Calls Try.prog 89 #[.int .i64 a, .int .i64 b, .pointer (some ⟨B, 0, none⟩)] w fun e w' => e = .returned (.int .i64 (symV a b (P : Int))) ∧ w = w' := by
  have h5 := (primeN_bd hP).2.1
  have hub := unit_bd a P
  have hvb := unit_bd b P
  have HE := hid (symOdd_eq a b hP h3)
  have A0 := hid a0
  have B0 := hid b0
  have HP := hid hP
  obtain ⟨i, hi⟩ : ∃ i, i = val a.natAbs P := ⟨_, rfl⟩
  obtain ⟨j, hj⟩ : ∃ j, j = val b.natAbs P := ⟨_, rfl⟩
  obtain ⟨U, hU⟩ : ∃ U, U = unitI a (P : Int) := ⟨_, rfl⟩
  obtain ⟨V, hV⟩ : ∃ V, V = unitI b (P : Int) := ⟨_, rfl⟩
  have hiv := val_le P (by omega) _ a.natAbs (Nat.le_refl _)
  have hjv := val_le P (by omega) _ b.natAbs (Nat.le_refl _)
  have hud : ¬ P ∣ (unitI a (P : Int)).natAbs := unit_dvd hP a0
  have hvd : ¬ P ∣ (unitI b (P : Int)).natAbs := unit_dvd hP b0
  rw [← hi, ← hj, ← hU, ← hV] at HE
  rw [← hi] at hiv
  rw [← hj] at hjv
  rw [← hU] at hub hud
  rw [← hV] at hvb hvd
  have HI : Hid (val a.natAbs (P : Int).toNat = i) := hid hi.symm
  have HJ : Hid (val b.natAbs (P : Int).toNat = j) := hid hj.symm
  have HU := hid hU.symm
  have HV := hid hV.symm
  have HUD := hid hud
  have HVD := hid hvd
  obtain ⟨x, hx⟩ : ∃ x, x = resN (U % (P : Int)).toNat P := ⟨_, rfl⟩
  obtain ⟨y, hy⟩ : ∃ y, y = resN (V % (P : Int)).toNat P := ⟨_, rfl⟩
  have sx := resN_small hP h3 (U % (P : Int)).toNat
  have sy := resN_small hP h3 (V % (P : Int)).toNat
  rw [← hx, ← hy] at HE
  rw [← hx] at sx
  rw [← hy] at sy
  have HX := hid hx.symm
  have HY := hid hy.symm
  have sx1 := sx.1
  have sx2 := sx.2
  have sy1 := sy.1
  have sy2 := sy.2
  have hsxy := small_mul sx1 sx2 sy1 sy2
  clear hi hj hU hV hx hy sx sy a0 b0 hud hvd hP
  have hi2 : i % 2 = 0 ∨ i % 2 = 1 := by omega
  have hj2 : j % 2 = 0 ∨ j % 2 = 1 := by omega
  have hp4 : P % 4 = 3 ∨ ¬ P % 4 = 3 := by omega
  have key : ∀ t : Bool, (i % 2 == 1 && j % 2 == 1 && P % 4 == 3) = t → ∃ s, sgB t = s ∧ -1 ≤ s ∧ s ≤ 1 ∧ Hid (symV a b (P : Int) = s * (if j % 2 = 1 then x else 1) * (if i % 2 = 1 then y else 1)) := fun t h => ⟨_, rfl, (sgB_small _).1, (sgB_small _).2, hid (by rw [HE.out, h])⟩
  rcases hi2 with e1 | e1 <;> rcases hj2 with e2 | e2 <;> rcases hp4 with e3 | e3
  all_goals
    first
      | have hk : (i % 2 == 1 && j % 2 == 1 && P % 4 == 3) = false := by simp [e1, e2, e3]
      | have hk : (i % 2 == 1 && j % 2 == 1 && P % 4 == 3) = true := by simp [e1, e2, e3]
    obtain ⟨s, hs, s1, s2, HS⟩ := key _ hk
    clear hk
    rw [e1, e2] at HS
    have hsx := small_mul s1 s2 sx1 sx2
    have hsy := small_mul s1 s2 sy1 sy2
    have hsz := small_mul hsx.1 hsx.2 sy1 sy2
    have p1 := hsx.1
    have p2 := hsx.2
    have q1 := hsy.1
    have q2 := hsy.2
    have r1 := hsz.1
    have r2 := hsz.2
    have HT := hid hs
    first
      | have Ti : ((i : Int) % 2 == 1) = true := by rw [beq_iff_eq]; omega
      | have Ti : ((i : Int) % 2 == 1) = false := by rw [beq_eq_false_iff_ne]; omega
    first
      | have Tj : ((j : Int) % 2 == 1) = true := by rw [beq_iff_eq]; omega
      | have Tj : ((j : Int) % 2 == 1) = false := by rw [beq_eq_false_iff_ne]; omega
    first
      | have Tp : ((P : Int) % 4 == 3) = true := by rw [beq_iff_eq]; omega
      | have Tp : ((P : Int) % 4 == 3) = false := by rw [beq_eq_false_iff_ne]; omega
    clear hs hsx hsy hsz key HE e1 e2 e3 hsxy
    go_enter Try.func89, Try.ntmps89
    go_wp2_with fail
    refine (splitAt_any a P A0.out a1 a2 (by omega) (by omega) _).mono ?_
    rw [HI.out, HU.out]
    rintro e w' ⟨rfl, rfl⟩
    go_wp2_with fail
    refine (splitAt_any b P B0.out b1 b2 (by omega) (by omega) _).mono ?_
    rw [HJ.out, HV.out]
    rintro e w' ⟨rfl, rfl⟩
    go_wp2_with (first | (go_at_call 87; refine (signOf_any _ _).mono ?_; rw [HT.out]; rintro e w' ⟨rfl, rfl⟩) | (go_at_call 91; refine (residueSign_any _ _ HP.out h3 (by first | exact HUD.out | exact HVD.out) (by omega) (by omega) _).mono ?_; (first | rw [HX.out] | rw [HY.out]); rintro e w' ⟨rfl, rfl⟩))
    go_ret
    exact ⟨retI (by rw [HS.out]; simp), rfl⟩

/-- what symbolAt hands back -/
theorem symbolAt_zero (w : World) : Calls Try.prog 57 #[.int .i64 0] w fun e w' => e = .returned (.func (.func 86) #[] #[]) ∧ w = w' := by
  go_enter Try.func57, Try.ntmps57
  go_wp2
  go_ret
  exact ⟨rfl, rfl⟩
theorem symbolAt_two (w : World) : Calls Try.prog 57 #[.int .i64 2] w fun e w' => e = .returned (.func (.func 88) #[] #[]) ∧ w = w' := by
  go_enter Try.func57, Try.ntmps57
  go_wp2
  go_ret
  exact ⟨rfl, rfl⟩
theorem symbolAt_odd (P : Nat) (h3 : 3 ≤ P) (h5 : P ≤ 5000) (w : World) : Calls Try.prog 57 #[.int .i64 P] w fun e w' => e = .returned (.func (.func 89) #[] #[.pointer (some ⟨w.heap.size, 0, none⟩)]) ∧ w' = w.alloc (.cells #[.int .i64 P] 3) := by
  have T0 : ((P : Int) == 0) = false := by rw [beq_eq_false_iff_ne]; omega
  have T2 : ((P : Int) == 2) = false := by rw [beq_eq_false_iff_ne]; omega
  go_enter Try.func57, Try.ntmps57
  go_wp2
  go_ret
  exact ⟨rfl, rfl⟩

/-- a function value that tells the symbol at a place -/
def IsSym (B : Nat) (q : Int) (fv : Value) (w : World) : Prop :=
  (q = 0 ∧ fv = .func (.func 86) #[] #[]) ∨ (q = 2 ∧ fv = .func (.func 88) #[] #[]) ∨
  (∃ P C : Nat, q = (P : Int) ∧ primeN P = true ∧ 3 ≤ P ∧ fv = .func (.func 89) #[] #[.pointer (some ⟨C, 0, none⟩)] ∧ B ≤ C ∧ C < w.heap.size ∧ w.cell? ⟨C, 0, none⟩ = some (.int .i64 P))
theorem IsSym.keep {B : Nat} {q : Int} {fv : Value} {w w' : World} (h : IsSym B q fv w) (hb : Below w.heap.size w w') : IsSym B q fv w' := by
  rcases h with h | h | ⟨P, C, a, b, c, d, e, f, g⟩
  · exact .inl h
  · exact .inr (.inl h)
  · exact .inr (.inr ⟨P, C, a, b, c, d, e, Nat.lt_of_lt_of_le f hb.size, (World.cell?_of_block (hb.block C f)).trans g⟩)
theorem symbolAt_any (q : Int) (hq : plI q = true) (w : World) : Calls Try.prog 57 #[.int .i64 q] w fun e w' => ∃ fv, e = .returned fv ∧ IsSym w.heap.size q fv w' ∧ Below w.heap.size w w' := by
  rcases plI_cases hq with rfl | rfl | ⟨P, rfl, hP, h3, h5⟩
  · refine (symbolAt_zero w).mono ?_
    rintro e w' ⟨rfl, rfl⟩
    exact ⟨_, rfl, .inl ⟨rfl, rfl⟩, Below.refl _ _⟩
  · refine (symbolAt_two w).mono ?_
    rintro e w' ⟨rfl, rfl⟩
    exact ⟨_, rfl, .inr (.inl ⟨rfl, rfl⟩), Below.refl _ _⟩
  · refine (symbolAt_odd P h3 h5 w).mono ?_
    rintro e w' ⟨rfl, rfl⟩
    exact ⟨_, rfl, .inr (.inr ⟨P, _, rfl, hP, h3, rfl, Nat.le_refl _, by simp, (Boxed.new w 3 (.int .i64 P)).cell⟩), (Below.refl _ _).alloc (Nat.le_refl _) _⟩

end Go.Proofs.Ytdidmblkknnglaa

set_option linter.unusedVariables false
namespace Go.Proofs.Ytdidmblkknnglaa
open Go.RowKit

theorem clsLaid : laidOutB Try.prog = true := by kernel_rfl
theorem clsWide : (match Try.prog.underlying 60 with | some (.array _ _) | some (.struct _) => true | _ => false) = true := by rw [Try.underlying60]
theorem clsRow : (60 : TypeId) < Try.prog.types.size := of_decide_eq_true (by kernel_rfl)
theorem clsKeyed : Maps.Keyed Try.prog 60 := Maps.Keyed.of_law (deep_law_laid clsLaid (m := 2) (by omega) clsRow (by kernel_rfl) clsWide)

theorem wf_small {u : Int} (h1 : -5000 ≤ u) (h2 : u ≤ 1000000000) : (Lit.int .i64 u).wf = true := by simp [Lit.wf, IntKind.min, IntKind.max, IntKind.signed, IntKind.bits]; omega

theorem clsSize : ∃ m, Try.prog.types.size = m + 1 := Nat.exists_eq_succ_of_ne_zero (Nat.pos_iff_ne_zero.1 (Nat.lt_of_le_of_lt (Nat.zero_le _) clsRow))
theorem clsKT : Try.prog.keyType 60 = true := by kernel_rfl
theorem clsCells : Try.prog.cellsOf 60 = 2 := by kernel_rfl
theorem clsCB : Try.prog.cellsOf 4 = 1 := by kernel_rfl
theorem clsCI : Try.prog.cellsOf 3 = 1 := by kernel_rfl
def keyC (c : Nat × Int) : Lit := .string (keyBytes [.bool (c.1 == 1), .int .i64 c.2])
theorem clsLits (o : Bool) (u : Int) (hu : (Lit.int .i64 u).wf = true) (m : Nat) : Try.prog.keyLits (m + 1 + 1) 60 [.bool o, .int .i64 u] = some [.bool o, .int .i64 u] := by
  unfold Program.keyLits
  simp only [Try.underlying60]
  rw [if_pos ⟨by rw [clsCells]; rfl, by simp⟩]
  simp only [List.mapM_cons, List.mapM_nil]
  simp [Program.keyLits, Try.underlying4, Try.underlying3, hu, clsCB, clsCI]
theorem key_cls (c : Nat × Int) (hu : (Lit.int .i64 c.2).wf = true) : keyOf Try.prog 60 (clsT c) = some (keyC c) := by
  obtain ⟨m, hm⟩ := clsSize
  unfold keyOf keyC clsT
  simp only [Try.underlying60]
  rw [if_pos (by rw [clsKT]; simp [Value.formed, Try.underlying60, clsCells]), hm]
  simp only [Value.cells]
  rw [clsLits _ _ hu]
  rfl

theorem cls_small {n q : Int} (hn : n ≠ 0) (hq : plI q = true) : (cls n q).1 < 2 ∧ -1 ≤ (cls n q).2 ∧ (cls n q).2 ≤ 7 := by
  have hm := cls_mem hn hq
  unfold clsList at hm
  split at hm
  · simp only [List.mem_cons, List.not_mem_nil, or_false] at hm
    rcases hm with h | h <;> rw [h] <;> decide
  · split at hm
    · simp only [List.mem_cons, List.not_mem_nil, or_false] at hm
      rcases hm with h | h | h | h | h | h | h | h <;> rw [h] <;> decide
    · simp only [List.mem_cons, List.not_mem_nil, or_false] at hm
      rcases hm with h | h | h | h <;> rw [h] <;> decide

theorem clsT_inj {c d : Nat × Int} (hc : c.1 < 2) (hd : d.1 < 2) (h : clsT c = clsT d) : c = d := by
  obtain ⟨a, b⟩ := c
  obtain ⟨a', b'⟩ := d
  unfold clsT at h
  simp only [Value.agg.injEq, Array.mk.injEq, List.cons.injEq, Value.bool.injEq, Value.int.injEq, true_and, and_true] at h
  obtain ⟨h1, h2⟩ := h
  have : a = a' := by
    rw [Bool.eq_iff_iff, beq_iff_eq, beq_iff_eq] at h1
    simp only at hc hd
    omega
  rw [this, h2]
theorem keyC_ne {c d : Nat × Int} (hc : c.1 < 2) (hd : d.1 < 2) (hc2 : (Lit.int .i64 c.2).wf = true) (hd2 : (Lit.int .i64 d.2).wf = true) (h : c ≠ d) : keyC c ≠ keyC d := by
  intro e
  have k1 := key_cls c hc2
  have k2 := key_cls d hd2
  rw [← e] at k2
  exact h (clsT_inj hc hd (clsKeyed.inj k1 k2))

theorem plValid_any (q : Int) (w : World) : Calls Try.prog 56 #[.int .i64 q] w fun e w' => e = .returned (.bool (plI q)) ∧ Below w.heap.size w w' := by
  by_cases h : q = 0
  · subst h
    go_enter Try.func56, Try.ntmps56
    go_wp2
    go_ret
    exact ⟨rfl, Below.refl _ _⟩
  · have T : (q == 0) = false := by rw [beq_eq_false_iff_ne]; exact h
    have HP : Hid (plI q = primeI q) := by show _ = _; unfold plI; rw [decide_eq_false h, Bool.false_or]
    clear h
    go_enter Try.func56, Try.ntmps56
    go_wp2_with (go_at_call 72; refine (prime_any _ _).mono ?_; rintro e w' ⟨rfl, hb⟩)
    go_ret
    exact ⟨retB HP.out.symm, hb⟩

theorem cls_one {q : Int} (hq : plI q = true) : cls 1 q = (0, 1) := by
  rcases plI_cases hq with rfl | rfl | ⟨P, rfl, hP, h3, h5⟩
  · rfl
  · rfl
  · have h := names_cls hq
    rw [names_odd h3] at h
    have e : clsList (P : Int) = [(0, 1), (0, -1), (1, 1), (1, -1)] := by unfold clsList; rw [if_neg (by omega), if_neg (by omega)]
    rw [e] at h
    simp only [List.map_cons, List.cons.injEq] at h
    exact h.1

theorem plSquare_any (n q : Int) (h0 : n ≠ 0) (h1 : -1000000000 ≤ n) (h2 : n ≤ 1000000000) (hq : plI q = true) (w : World) :
    Calls Try.prog 66 #[.int .i64 q, .int .i64 n] w fun e w' => e = .returned (.bool (sqAt n q)) ∧ Below w.heap.size w w' := by
  have H0 := hid h0
  have HQ := hid hq
  have HO := hid (cls_one hq)
  have hs := cls_small h0 hq
  obtain ⟨c, hc⟩ : ∃ c, c = cls n q := ⟨_, rfl⟩
  have HS : Hid (sqAt n q = (((c.1 == 1) == false) && (c.2 == 1))) := hid (by
    unfold sqAt
    rw [← hc] at hs ⊢
    obtain ⟨a, b⟩ := c
    rw [Bool.eq_iff_iff, beq_iff_eq, Prod.mk.injEq, Bool.and_eq_true, beq_iff_eq, beq_eq_false_iff_ne, beq_iff_eq]
    simp only at hs
    constructor
    · rintro ⟨rfl, rfl⟩; exact ⟨by decide, rfl⟩
    · rintro ⟨h, rfl⟩; exact ⟨by omega, rfl⟩)
  have HC := hid hc
  clear h0 hq hs hc
  go_enter Try.func66, Try.ntmps66
  go_wp2_with fail
  go_at_call 62
  refine (class_any _ _ H0.out h1 h2 HQ.out _).mono ?_
  rintro e w1 ⟨rfl, hb1⟩
  go_wp2_with fail
  go_at_call 62
  refine (class_any _ _ (by decide) (by omega) (by omega) HQ.out _).mono ?_
  rintro e w2 ⟨rfl, hb2⟩
  rw [HO.out, ← HC.out]
  unfold clsT
  go_wp2
  all_goals (go_ret; exact ⟨retB (by rw [HS.out]; simp [*]), hb1.trans (hb2.mono hb1.size)⟩)

theorem plNames_any (q : Int) (hq : plI q = true) (w : World) : Calls Try.prog 63 #[.int .i64 q] w fun e w' => ∃ v, e = .returned v ∧ Owns w' w.heap.size v (namesOf q) ∧ Below w.heap.size w w' := by
  rcases plI_cases hq with rfl | rfl | ⟨P, rfl, hP, h3, h5⟩
  · go_enter Try.func63, Try.ntmps63
    go_wp2
    go_ret
    exact ⟨_, rfl, owns_lit [1, -1] _ rfl (Nat.le_refl _) (by unfold maxLen; simp), (Below.refl _ _).alloc (Nat.le_refl _) _⟩
  · go_enter Try.func63, Try.ntmps63
    go_wp2
    go_ret
    exact ⟨_, rfl, owns_lit [1, 3, 5, 7, 2, 6, 10, 14] _ rfl (Nat.le_refl _) (by unfold maxLen; simp), (Below.refl _ _).alloc (Nat.le_refl _) _⟩
  · obtain ⟨s1, s2, s3, s4, _⟩ := noneF_spec hP h3
    have HN := hid (names_odd h3)
    obtain ⟨u, hu⟩ : ∃ u, u = noneF P := ⟨_, rfl⟩
    have T2 : ((P : Int) == 2) = false := by rw [beq_eq_false_iff_ne]; omega
    have T0 : ((P : Int) == 0) = false := by rw [beq_eq_false_iff_ne]; omega
    have hm := Nat.mul_le_mul h5 (show u ≤ 63 by omega)
    have m1 : (0 : Int) ≤ (P : Int) * (u : Int) := by rw [← Int.natCast_mul]; exact Int.natCast_nonneg _
    have m2 : (P : Int) * (u : Int) ≤ 315000 := by rw [← Int.natCast_mul]; omega
    have HU : Hid (nonV (P : Int) = .tuple #[.int .i64 (u : Nat), .bool true]) := hid (by rw [nonV_yes (oddP_nat hP h3), Int.toNat_natCast, hu])
    have HL : Hid (namesOf (P : Int) = [1, (u : Int), (P : Int), (P : Int) * (u : Int)]) := hid (by rw [HN.out, hu])
    clear hu s4 hq hm
    go_enter Try.func63, Try.ntmps63
    go_wp2_with (go_at_call 96; refine (nonResidue_any _ _).mono ?_; rw [HU.out]; rintro e w' ⟨rfl, hb⟩)
    go_ret
    exact ⟨_, rfl, by rw [HL.out]; exact owns_lit [1, (u : Int), (P : Int), (P : Int) * (u : Int)] _ rfl hb.size (by unfold maxLen; simp), hb.alloc hb.size _⟩

/-- behind K rounds the map has the names of the first K classes -/
def MapSays (D : DataW Unit) (q : Int) (K : Nat) : Prop := Maps.IsMap D ∧ ∀ i, i < K → D.atKey (keyC ((clsList q).getD i (0, 0))) (.lit (.int .i64 0)) = .lit (.int .i64 ((namesOf q).getD i 0))
theorem mapSays_step {D : DataW Unit} {q : Int} {K : Nat} (hq : plI q = true) (hK : K < (namesOf q).length) (h : MapSays D q K) : MapSays (D.put (keyC ((clsList q).getD K (0, 0))) (.lit (.int .i64 ((namesOf q).getD K 0)))) q (K + 1) := by
  have hl := names_len hq
  have hsm : ∀ i, i < (namesOf q).length → ((clsList q).getD i (0, 0)).1 < 2 ∧ (Lit.int .i64 ((clsList q).getD i (0, 0)).2).wf = true := fun i hi => by
    have e := cls_at hq i hi
    have hne := names_ne hq ((namesOf q).getD i 0) (by rw [getD_at _ _ hi]; exact List.getElem_mem _)
    have hs := cls_small hne hq
    rw [e] at hs
    exact ⟨hs.1, wf_small (by omega) (by omega)⟩
  refine ⟨h.1.put _ _, fun i hi => ?_⟩
  by_cases e : i = K
  · subst e
    exact Maps.atKey_put_same h.1 (clsKeyed.key (key_cls _ (hsm i hK).2)) _ _
  · have hiK : i < (namesOf q).length := by omega
    rw [Maps.atKey_put_other]
    · exact h.2 i (by omega)
    · refine keyC_ne (hsm i hiK).1 (hsm K hK).1 (hsm i hiK).2 (hsm K hK).2 ?_
      intro e2
      have hnd := List.pairwise_iff_getElem.1 (cls_nodup q)
      rw [getD_at _ _ (by omega), getD_at _ _ (by omega)] at e2
      exact hnd i K (by omega) (by omega) (by omega) e2
theorem ownsMap_of_block {P : Program} {k : TypeId} {R : Value → Option (DataW Unit × List MemPlace)} {w w' : World} {b n : Nat} {D : DataW Unit} (h : w.ownsMap P k R b n D) (e : w'.heap[b]? = w.heap[b]?) : w'.ownsMap P k R b n D := by
  obtain ⟨es, clock, hb, r⟩ := h
  exact ⟨es, clock, e.trans hb, r⟩
theorem cell_of_row {w : World} {b : Nat} {cs : Array Value} {t : TypeId} {fr : Nat × Nat} (h : w.heap[b]? = some (.cells cs t fr)) (i : Nat) (v : Value) (hv : cs[i]? = some v) : w.cell? ⟨b, i, none⟩ = some v := by
  simp [World.cell?, h, hv]

set_option maxRecDepth 100000 in
set_option maxHeartbeats 1000000 in
theorem nameOf_any (n q : Int) (h0 : n ≠ 0) (hq : plI q = true) (w : World) :
    Calls Try.prog 61 #[.int .i64 q, clsT (cls n q)] w fun e w' => e = .returned (.int .i64 (nameOf n q)) ∧ Below w.heap.size w w' := by
  have HQ := hid hq
  have HI := hid (clsIdx_lt h0 hq)
  have HAT := hid (idx_at h0 hq)
  have hs := cls_small h0 hq
  have HW := hid (key_cls (cls n q) (wf_small (by omega) (by omega)))
  obtain ⟨c, hc⟩ : ∃ c, c = cls n q := ⟨_, rfl⟩
  have HNB := hid (names_bd hq)
  have HNZ := hid (names_ne hq)
  have hlen : (namesOf q).length ≤ 8 := by
    rw [names_len hq]; unfold clsList
    split
    · simp
    · split <;> simp
  rw [← hc] at HAT HW ⊢
  have HC := hid hc
  clear hq hs hc h0
  go_enter Try.func61, Try.ntmps61
  unfold clsT
  have hmk : ∀ wx, (Instr.makeMap 77 none).run Try.prog wx = .ok (.map (some wx.heap.size)) (wx.alloc (.map #[] 0)) := fun wx => run_makeMap _ _
  go_wp2_with (go_at_call 63; refine (plNames_any _ HQ.out _).mono ?_; rintro e w1 ⟨v, rfl, ho, hb⟩)
  have hs1 := hb.size
  simp only [World.size_alloc] at hs1
  have e0 := (hb.block w.heap.size (by simp; omega)).trans (heap_alloc2_old _ _ _)
  have HBX := hid e0
  have HOM := hid (ownsMap_of_block ((World.ownsMap_made (w.alloc (.cells #[.bool (c.1 == 1), .int .i64 c.2] 60)) Try.prog 60 (plainElem (H := Unit) Try.prog 3))) (hb.block _ (by simp)))
  simp only [World.size_alloc] at HOM
  have HB1 := hid (((((Below.refl w.heap.size w).alloc (Nat.le_refl _) (.cells #[.bool (c.1 == 1), .int .i64 c.2] 60)).alloc (by simp) (.map #[] 0)).trans (hb.mono (by simp; omega))))
  have HG := hid ho.ge
  have HLT := hid ho.lt
  obtain ⟨a, cap, rfl, hform⟩ := ho.rd.form
  obtain ⟨bn, o, rfl, hml, hcells⟩ := hform (by have := HI.out; omega)
  have hbn := HG.out bn rfl
  have hbn2 := HLT.out bn rfl
  simp only [World.size_alloc] at hbn
  have HCL := hid hcells
  clear hb ho e0 hform hcells HG HLT
  unfold maxLen at hml
  go_wp2_with fail
  simp only [Builtin.len_]
  go_simp
  go_wp2_with fail
  go_loopw [12] (fun si wr => ∃ K : Nat, si = .int .i64 K ∧ K ≤ (namesOf q).length ∧ (∃ D : DataW Unit, Hid (wr.ownsMap Try.prog 60 (plainElem Try.prog 3) (w.heap.size + 1) K D) ∧ Hid (MapSays D q K)) ∧
      Hid (wr.heap[w.heap.size]? = w1.heap[w.heap.size]?) ∧ Hid (wr.heap[bn]? = w1.heap[bn]?) ∧ w1.heap.size ≤ wr.heap.size ∧ Hid (Below w.heap.size w wr)) (fun si _ => (namesOf q).length - (intOf si).toNat)
  case atStart => exact ⟨0, rfl, by omega, ⟨.map [], HOM, hid ⟨Maps.isMap_empty, fun i hi => by omega⟩⟩, hid rfl, hid rfl, Nat.le_refl _, HB1⟩
  case round =>
    obtain ⟨K, rfl, hK, ⟨D, HD, HM⟩, HX, HN, hsz, HB⟩ := hrel
    rename World => wA
    by_cases hlt : K < (namesOf q).length
    · have hcell := (World.cell?_of_block HN.out).trans (HCL.out K hlt)
      have hmem : (namesOf q).getD K 0 ∈ namesOf q := by rw [getD_at _ _ hlt]; exact List.getElem_mem _
      have hbd := HNB.out _ hmem
      have HZ := hid (HNZ.out _ hmem)
      have HCA := hid (cls_at HQ.out K hlt)
      have HST := hid (mapSays_step HQ.out hlt HM.out)
      obtain ⟨m, hm⟩ : ∃ m, m = (namesOf q).getD K 0 := ⟨_, rfl⟩
      rw [← hm] at hcell hbd HZ HCA HST
      have hs := cls_small HZ.out HQ.out
      have HKY := hid (key_cls (cls m q) (wf_small (by omega) (by omega)))
      have HEL := hid (plainElem_int (H := Unit) (P := Try.prog) Try.underlying3 (wf_small (show -5000 ≤ m by omega) (show m ≤ 1000000000 by omega)))
      have b1 := hbd.1
      have b2 := hbd.2
      have hi0 : (K : Int) < ((namesOf q).length : Int) := by omega
      clear hm hmem hbd hs
      go_wp2_with fail
      go_at_call 62
      refine (class_any _ _ HZ.out (by omega) (by omega) HQ.out _).mono ?_
      rintro e w2 ⟨rfl, hb2⟩
      have hs2 := hb2.size
      have HD2 := hid (ownsMap_of_block HD.out (hb2.block _ (by omega)))
      have HX2 := hid ((hb2.block w.heap.size (by omega)).trans HX.out)
      have HN2 := hid ((hb2.block bn (by omega)).trans HN.out)
      have HB2 := hid (HB.out.trans (hb2.mono HB.out.size))
      rw [HCA.out] at HKY ⊢
      clear hb2
      go_wp2_with (at_mapUpdate; refine wpList_mapUpdate_own _ rfl _ _ _ 77 rfl 60 3 clsKeyed Try.underlying77 _ (w.heap.size + 1) K D rfl HD2.out (by unfold maxLen; omega) _ _ (keyC ((clsList q).getD K (0, 0))) rfl rfl HKY.out _ [] HEL.out ?_; intro w3 hown3 hgrow3)
      have hs3 := hgrow3.size
      go_round
      case measure => simp only [intOf]; omega
      case rel => exact ⟨K + 1, by go_num, by omega, ⟨_, hid hown3, HST⟩, hid ((hgrow3.block _ (by omega) (by simp)).trans HX2.out), hid ((hgrow3.block bn (by omega) (by simp; omega)).trans HN2.out), by omega, hid (HB2.out.grown hgrow3 (by omega) (fun k e => by cases e; omega))⟩
    · obtain rfl : K = (namesOf q).length := by omega
      have hx := HX.out.trans HBX.out
      have c0 := cell_of_row hx 0 _ rfl
      have c1 := cell_of_row hx 1 _ rfl
      have HAN := hid (HM.out.2 _ HI.out)
      rw [HAT.out] at HAN
      clear hlt hx
      go_wp2_with (at_lookup; refine wpList_lookup_own_int _ rfl _ _ 77 rfl 60 3 .i64 clsKeyed Try.underlying77 Try.underlying3 (by kernel_rfl) (w.heap.size + 1) _ D rfl HD.out (clsT c) (keyC c) rfl HW.out ?_; intro x hat hwc)
      have hx2 := hat.symm.trans HAN.out
      simp only [DataW.lit.injEq, Lit.int.injEq, true_and] at hx2
      go_ret
      exact ⟨retI (by rw [hx2]; rfl), HB.out⟩

end Go.Proofs.Ytdidmblkknnglaa

set_option linter.unusedVariables false
namespace Go.Proofs.Ytdidmblkknnglaa
open Go.RowKit

theorem Owns.low {W : World} {B C : Nat} {v : Value} {xs : List Int} (h : Owns W C v xs) (hb : B ≤ C) : Owns W B v xs := by
  obtain ⟨h1, h2⟩ := h
  refine ⟨h1, ?_⟩
  rcases h2 with h2 | ⟨g, cap, cur, hv, hg, r⟩
  · exact .inl h2
  · exact .inr ⟨g, cap, cur, hv, Nat.le_trans hb hg, r⟩
theorem factB_bd {n : Int} (h : factB n = true) : n ≠ 0 ∧ -5000 ≤ n ∧ n ≤ 5000 := by
  rcases factB_cases n with ⟨h1, h2, h0, _, _⟩ | ⟨_, e⟩ | ⟨_, _, e⟩
  · exact ⟨h0, h1, h2⟩
  · rw [h] at e; cases e
  · rw [h] at e; cases e

theorem localSquare_any (n q : Int) (w : World) : Calls Try.prog 26 #[.int .i64 n, .int .i64 q] w fun e w' => e = .returned (.bool (lsV n q)) ∧ Below w.heap.size w w' := by
  cases hF : factB n with
  | false =>
    have HV : Hid (lsV n q = false) := hid (by unfold lsV okAt; rw [hF]; rfl)
    have HF := hid hF
    clear hF
    go_enter Try.func26, Try.ntmps26
    go_wp2_with (go_at_call 55; refine (factored_any _ _).mono ?_; rw [HF.out]; rintro e w' ⟨rfl, rfl⟩)
    go_ret
    exact ⟨retB HV.out.symm, Below.refl _ _⟩
  | true =>
    obtain ⟨h0, h1, h2⟩ := factB_bd hF
    cases hq : plI q with
    | false =>
      have HV : Hid (lsV n q = false) := hid (by unfold lsV okAt; rw [hF, hq]; rfl)
      have HF := hid hF
      have HQ := hid hq
      clear hF hq h0
      go_enter Try.func26, Try.ntmps26
      go_wp2_with (first | (go_at_call 55; refine (factored_any _ _).mono ?_; rw [HF.out]; rintro e w' ⟨rfl, rfl⟩) | (go_at_call 56; refine (plValid_any _ _).mono ?_; rw [HQ.out]; rintro e w1 ⟨rfl, hb1⟩))
      go_ret
      exact ⟨retB HV.out.symm, hb1⟩
    | true =>
      have HV : Hid (lsV n q = sqAt n q) := hid (by unfold lsV okAt; rw [hF, hq]; rfl)
      have HF := hid hF
      have HQ := hid hq
      have H0 := hid h0
      clear hF hq h0
      go_enter Try.func26, Try.ntmps26
      go_wp2_with (first | (go_at_call 55; refine (factored_any _ _).mono ?_; rw [HF.out]; rintro e w' ⟨rfl, rfl⟩) | (go_at_call 56; refine (plValid_any _ _).mono ?_; rw [HQ.out]; rintro e w1 ⟨rfl, hb1⟩) | (go_at_call 66; refine (plSquare_any _ _ H0.out (by omega) (by omega) HQ.out _).mono ?_; rintro e w2 ⟨rfl, hb2⟩))
      go_ret
      exact ⟨retB HV.out.symm, hb1.trans (hb2.mono hb1.size)⟩

theorem localNames_any (q : Int) (w : World) : Calls Try.prog 19 #[.int .i64 q] w fun e w' => ∃ v, e = .returned (.tuple #[v, .bool (plI q)]) ∧ Owns w' w.heap.size v (lnamesL q) ∧ Below w.heap.size w w' := by
  cases hq : plI q with
  | false =>
    have HL : Hid (lnamesL q = []) := hid (by unfold lnamesL; rw [hq]; rfl)
    have HQ := hid hq
    clear hq
    go_enter Try.func19, Try.ntmps19
    go_wp2_with (go_at_call 56; refine (plValid_any _ _).mono ?_; rw [HQ.out]; rintro e w1 ⟨rfl, hb1⟩)
    go_ret2
    exact ⟨_, rfl, by rw [HL.out]; exact World.ownsRow_made (size := 1) w1 #[] 0 hb1.size (by unfold maxLen; omega) rfl, hb1.alloc hb1.size _⟩
  | true =>
    have HL : Hid (lnamesL q = namesOf q) := hid (by unfold lnamesL; rw [hq]; rfl)
    have HQ := hid hq
    clear hq
    go_enter Try.func19, Try.ntmps19
    go_wp2_with (first | (go_at_call 56; refine (plValid_any _ _).mono ?_; rw [HQ.out]; rintro e w1 ⟨rfl, hb1⟩) | (go_at_call 63; refine (plNames_any _ HQ.out _).mono ?_; rintro e w2 ⟨v, rfl, ho, hb2⟩))
    go_ret2
    exact ⟨_, rfl, by rw [HL.out]; exact ho.low hb1.size, hb1.trans (hb2.mono hb1.size)⟩

theorem localName_any (n q : Int) (w : World) : Calls Try.prog 18 #[.int .i64 n, .int .i64 q] w fun e w' => e = .returned (lnameV n q) ∧ Below w.heap.size w w' := by
  cases hF : factB n with
  | false =>
    have HV := hid (lnameV_no (show okAt n q = false by unfold okAt; rw [hF]; rfl))
    have HF := hid hF
    clear hF
    go_enter Try.func18, Try.ntmps18
    go_wp2_with (go_at_call 55; refine (factored_any _ _).mono ?_; rw [HF.out]; rintro e w' ⟨rfl, rfl⟩)
    go_ret2
    exact ⟨retV HV.out.symm, Below.refl _ _⟩
  | true =>
    obtain ⟨h0, h1, h2⟩ := factB_bd hF
    cases hq : plI q with
    | false =>
      have HV := hid (lnameV_no (show okAt n q = false by unfold okAt; rw [hF, hq]; rfl))
      have HF := hid hF
      have HQ := hid hq
      clear hF hq h0
      go_enter Try.func18, Try.ntmps18
      go_wp2_with (first | (go_at_call 55; refine (factored_any _ _).mono ?_; rw [HF.out]; rintro e w' ⟨rfl, rfl⟩) | (go_at_call 56; refine (plValid_any _ _).mono ?_; rw [HQ.out]; rintro e w1 ⟨rfl, hb1⟩))
      go_ret2
      exact ⟨retV HV.out.symm, hb1⟩
    | true =>
      have HV := hid (lnameV_yes (show okAt n q = true by unfold okAt; rw [hF, hq]; rfl))
      have HF := hid hF
      have HQ := hid hq
      have H0 := hid h0
      clear hF hq h0
      go_enter Try.func18, Try.ntmps18
      go_wp2_with (first | (go_at_call 55; refine (factored_any _ _).mono ?_; rw [HF.out]; rintro e w' ⟨rfl, rfl⟩) | (go_at_call 56; refine (plValid_any _ _).mono ?_; rw [HQ.out]; rintro e w1 ⟨rfl, hb1⟩) | (go_at_call 62; refine (class_any _ _ H0.out (by omega) (by omega) HQ.out _).mono ?_; rintro e w2 ⟨rfl, hb2⟩) | (go_at_call 61; refine (nameOf_any _ _ H0.out HQ.out _).mono ?_; rintro e w3 ⟨rfl, hb3⟩))
      go_ret2
      exact ⟨retV HV.out.symm, (hb1.trans (hb2.mono hb1.size)).trans (hb3.mono (Nat.le_trans hb1.size hb2.size))⟩

theorem localMul_any (a b q : Int) (w : World) : Calls Try.prog 20 #[.int .i64 a, .int .i64 b, .int .i64 q] w fun e w' => e = .returned (lmulV a b q) ∧ Below w.heap.size w w' := by
  cases hA : factB a with
  | false =>
    have HV : Hid (lmulV a b q = .tuple #[.int .i64 0, .bool false]) := hid (by unfold lmulV okAt; rw [hA]; rfl)
    have HA := hid hA
    clear hA
    go_enter Try.func20, Try.ntmps20
    go_wp2_with (go_at_call 55; refine (factored_any _ _).mono ?_; rw [HA.out]; rintro e w' ⟨rfl, rfl⟩)
    go_ret2
    exact ⟨retV HV.out.symm, Below.refl _ _⟩
  | true =>
    obtain ⟨a0, a1, a2⟩ := factB_bd hA
    cases hB : factB b with
    | false =>
      have HV : Hid (lmulV a b q = .tuple #[.int .i64 0, .bool false]) := hid (by unfold lmulV okAt; rw [hB, Bool.false_and, Bool.and_false]; rfl)
      have HA := hid hA
      have HB := hid hB
      clear hA hB a0
      go_enter Try.func20, Try.ntmps20
      go_wp2_with fail
      go_at_call 55
      refine (factored_any _ _).mono ?_
      rw [HA.out]
      rintro e w' ⟨rfl, rfl⟩
      go_wp2_with (go_at_call 55; refine (factored_any _ _).mono ?_; rw [HB.out]; rintro e w' ⟨rfl, rfl⟩)
      go_ret2
      exact ⟨retV HV.out.symm, Below.refl _ _⟩
    | true =>
      obtain ⟨b0, b1, b2⟩ := factB_bd hB
      cases hq : plI q with
      | false =>
        have HV : Hid (lmulV a b q = .tuple #[.int .i64 0, .bool false]) := hid (by unfold lmulV okAt; rw [hq, Bool.and_false, Bool.false_and]; rfl)
        have HA := hid hA
        have HB := hid hB
        have HQ := hid hq
        clear hA hB hq a0 b0
        go_enter Try.func20, Try.ntmps20
        go_wp2_with fail
        go_at_call 55
        refine (factored_any _ _).mono ?_
        rw [HA.out]
        rintro e w' ⟨rfl, rfl⟩
        go_wp2_with (first | (go_at_call 55; refine (factored_any _ _).mono ?_; rw [HB.out]; rintro e w' ⟨rfl, rfl⟩) | (go_at_call 56; refine (plValid_any _ _).mono ?_; rw [HQ.out]; rintro e w1 ⟨rfl, hb1⟩))
        go_ret2
        exact ⟨retV HV.out.symm, hb1⟩
      | true =>
        have HV : Hid (lmulV a b q = .tuple #[.int .i64 (nameOf (a * b) q), .bool true]) := hid (by unfold lmulV okAt; rw [hA, hB, hq]; rfl)
        have hm := mul_bdI a1 a2 b1 b2
        have hm1 := hm.1
        have hm2 := hm.2
        have HA := hid hA
        have HB := hid hB
        have HQ := hid hq
        have H0 := hid (Int.mul_ne_zero a0 b0)
        clear hA hB hq a0 b0 hm
        go_enter Try.func20, Try.ntmps20
        go_wp2_with fail
        go_at_call 55
        refine (factored_any _ _).mono ?_
        rw [HA.out]
        rintro e w' ⟨rfl, rfl⟩
        go_wp2_with (first | (go_at_call 55; refine (factored_any _ _).mono ?_; rw [HB.out]; rintro e w' ⟨rfl, rfl⟩) | (go_at_call 56; refine (plValid_any _ _).mono ?_; rw [HQ.out]; rintro e w1 ⟨rfl, hb1⟩) | (go_at_call 62; refine (class_any _ _ H0.out (by omega) (by omega) HQ.out _).mono ?_; rintro e w2 ⟨rfl, hb2⟩) | (go_at_call 61; refine (nameOf_any _ _ H0.out HQ.out _).mono ?_; rintro e w3 ⟨rfl, hb3⟩))
        go_ret2
        exact ⟨retV HV.out.symm, (hb1.trans (hb2.mono hb1.size)).trans (hb3.mono (Nat.le_trans hb1.size hb2.size))⟩

end Go.Proofs.Ytdidmblkknnglaa

set_option linter.unusedVariables false
namespace Go.Proofs.Ytdidmblkknnglaa
open Go.RowKit Go.Shelf
attribute [local go_sem] Oper.semAt_some

def plcs (l : List Nat) : List Int := [0, 2] ++ (natsI l).filter (fun x => decide (2 < x))
theorem plcs_yes {l : List Nat} {x : Nat} (h : 2 < x) : plcs (l ++ [x]) = plcs l ++ [(x : Int)] := by
  unfold plcs
  rw [natsI_snoc, List.filter_append, List.filter_cons, if_pos (by rw [decide_eq_true_eq]; omega), List.append_assoc]
  rfl
theorem plcs_no {l : List Nat} {x : Nat} (h : ¬ 2 < x) : plcs (l ++ [x]) = plcs l := by
  unfold plcs
  rw [natsI_snoc, List.filter_append, List.filter_cons, if_neg (by rw [decide_eq_true_eq]; omega), List.filter_nil, List.append_nil]
theorem plcs_len (l : List Nat) : (plcs l).length ≤ l.length + 2 := by
  unfold plcs
  have h3 := List.length_filter_le (fun x : Int => decide (2 < x)) (natsI l)
  rw [natsI_len] at h3
  rw [List.length_append]
  simp only [List.length_cons, List.length_nil]
  omega
theorem fsts_len (l : List PP) : (fsts l).length = l.length := by unfold fsts; rw [List.length_map]

set_option maxRecDepth 100000 in
set_option maxHeartbeats 2000000 in
theorem placesOf_any (n : Int) (h0 : n ≠ 0) (a1 : -5000 ≤ n) (a2 : n ≤ 5000) (w : World) :
    Calls Try.prog 64 #[.int .i64 n] w fun e w' => ∃ v, e = .returned v ∧ Owns w' w.heap.size v (placesOf n) ∧ Below w.heap.size w w' := by
  obtain ⟨i0, hi, hz0, hz1, hz2⟩ := info_parts infoInt
  have HPL : Hid (placesOf n = plcs ((ppow n.natAbs).map (·.1))) := hid (by unfold plcs placesOf; rw [plist_eq])
  obtain ⟨v0, hv0⟩ : ∃ v0 : Value, v0 = .slice (some ⟨w.heap.size, 0, none⟩) 2 2 := ⟨_, rfl⟩
  have hr0 : (w.alloc (.cells #[.int .i64 0, .int .i64 2] 3)).ownsRow w.heap.size 3 1 v0 2 [.int .i64 0, .int .i64 2] := by
    rw [hv0]; exact World.ownsRow_lit w #[.int .i64 0, .int .i64 2] 2 (Nat.le_refl _) (by unfold maxLen; omega) rfl
  have hB0 : Below w.heap.size w (((w.alloc (.cells #[.int .i64 0, .int .i64 2] 3)).alloc (.cells #[v0] 28)).alloc (.cells #[.int .i64 n] 53)) := (((Below.refl _ _).alloc (Nat.le_refl _) _).alloc (by simp) _).alloc (by simp; omega) _
  have bO := (Boxed.new (w.alloc (.cells #[.int .i64 0, .int .i64 2] 3)) 28 v0).alloc (.cells #[.int .i64 n] 53)
  have bN := Boxed.new ((w.alloc (.cells #[.int .i64 0, .int .i64 2] 3)).alloc (.cells #[v0] 28)) 53 (.int .i64 n)
  simp only [World.size_alloc] at bN bO
  have hrN := (hr0.alloc (.cells #[v0] 28)).alloc (.cells #[.int .i64 n] 53)
  have H0 := hid h0
  subst hv0
  clear h0 hr0
  refine (callsIn_wide (n := 5)).1 ?_
  refine callsIn_of_wp_marks Try.func64 rfl trivial ?_ rfl
  simp only [Try.ntmps64, List.size_toArray, List.length_cons, List.length_nil, Nat.reduceAdd, Nat.reduceSub, Array.replicate_succ, Array.replicate_zero, List.push_toArray, List.append_toArray, List.nil_append, List.cons_append]
  gi_wp2_with (refine ⟨trivial, ?_⟩; gi_at_call 78; refine (callsIn_wide.2 (pp_make _ _)).mono ?_; rintro e w' ⟨rfl, rfl⟩)
  refine wpIn_rangeFunc_ownG rfl (by omega) (gf := 99) (lb := #[.pointer (some ⟨w.heap.size + 1 + 1, 0, none⟩)]) rfl trivial (enters_of Try.func99 (by kernel_rfl) rfl)
    (pp_stops _ (w.heap.size + 1 + 1) n H0.out (by omega) (by omega) _ (by simp) bN.cell) walksK_t walksK_b (Below.refl _ _) (fun _ => rfl)
    (fun pre W => (∃ v, Boxed W (w.heap.size + 1) 28 v ∧ W.ownsRow w.heap.size 3 1 v (plcs (fsts pre)).length ((plcs (fsts pre)).map (Value.int .i64)) ∧ True) ∧ Below w.heap.size w W)
    (fun _ _ _ => False)
    (OwnFrom.and (Own.from (holdsRow_own w.heap.size (w.heap.size + 1) 28 3 1 (fun pre => (plcs (fsts pre)).length) (fun pre => (plcs (fsts pre)).map (Value.int .i64)) (fun _ _ => True)) _) (ownFrom_below (Nat.le_refl _) (by simp; omega)))
    (fun _ _ _ _ _ hs _ _ => hs)
    ⟨⟨_, bO, hrN, trivial⟩, hB0⟩ ?a1 ?assign ?body ?done ?stop
  case assign =>
    intro l x W K hK
    gi_wp2
    exact hK
  case body =>
    rintro l pre x W ⟨⟨v, hv, hrow, _⟩, hB⟩ hlt
    have hc := hv.cell
    have hpl := ppow_len n.natAbs
    have hll := plcs_len (fsts pre)
    rw [fsts_len] at hll
    by_cases hx : 2 < x.1.1
    · have hxi : (2 : Int) < (x.1.1 : Int) := by omega
      have HX := hid hx
      clear hx
      gi_wp2_with (gi_at_builtin; refine wpListIn_append_own _ rfl _ _ 28 rfl w.heap.size 3 i0 (.int .i64 0) 1 8 Try.underlying28 hi hz0 hz1 hz2 rfl (by decide) _ _ _ rfl (hrow.alloc _) ⟨W.heap.size, 0, none⟩ 1 1 [.int .i64 x.1.1] rfl rfl (cell_one_new _ _ _) (by simp [Value.oneCell']) (by unfold maxLen; omega) (by omega) (by have := hB.size; simp; omega) ?_; intro v' w1 hown' hgrow _; obtain ⟨g', cap', rfl⟩ := ownsRow_succ hown'; obtain ⟨hv1, hv2, hr2, hk2, hb2⟩ := hv.appended (by decide) hrow hB.size (by omega) hown' hgrow; have hc1 := hv1.cell; have hf1 := hv1.frozen)
      exact ⟨hk2.from _, hk2.walks, ⟨_, hv2, by rw [fsts_snoc, plcs_yes HX.out]; simpa using hr2, trivial⟩, hB.trans hb2⟩
    · have hxi : ¬ (2 : Int) < (x.1.1 : Int) := by omega
      have HX := hid hx
      clear hx
      gi_wp2
      exact ⟨KeepsFrom.refl _ _, KeepsWalks.refl _, ⟨v, hv, by rw [fsts_snoc, plcs_no HX.out]; exact hrow⟩, hB⟩
  case done =>
    rintro D ys W hD hS ⟨⟨v, hv, hrow, _⟩, hB⟩ hK
    have hc := hv.cell
    rw [fsts_all hS] at hrow
    have HP2 := HPL
    gi_wp2
    refine ⟨by simp, .inl ⟨_, _, rfl, run_takeDeferred hK, ?_⟩⟩
    refine ⟨_, results_tmp rfl _ _ _, ?_⟩
    exact ⟨v, rfl, by unfold Owns; rw [HPL.out]; exact ownsRow_putObj hrow _ hK rfl, hB.trans (belowK_b (w := w) (Nat.le_refl _) W D _ _ (by simp at hD; omega) hK rfl rfl)⟩
  case stop =>
    rintro D c pre W _ _ h _
    exact h.elim

end Go.Proofs.Ytdidmblkknnglaa

set_option linter.unusedVariables false
namespace Go.Proofs.Ytdidmblkknnglaa
open Go.RowKit Go.Shelf
attribute [local go_sem] Oper.semAt_some

def ppowG (n : Nat) : List (Nat × Nat) := ppGo (n + 1) 2 n
theorem plistG_eq (n : Nat) : plistG n = (ppowG n).map (·.1) := plGo_eq _ _ _
theorem ppowG_len (n : Nat) : (ppowG n).length ≤ n + 1 := ppGo_len _ _ _
theorem sq_le5 {p n : Nat} (h : p * p ≤ n) (hn : n ≤ 25000000) : p ≤ 5000 := by
  by_cases hp : p ≤ 5000
  · exact hp
  · have := Nat.mul_le_mul (show 5001 ≤ p by omega) (show 5001 ≤ p by omega)
    omega

set_option maxRecDepth 100000 in
set_option maxHeartbeats 2000000 in
theorem ppG_in (n l Bn : Nat) (a : Int) (h0 : a ≠ 0) (ha1 : -25000000 ≤ a) (ha2 : a ≤ 25000000) (J Jx : List (Nat × Nat) → World → Prop)
    (hY : ∀ pre x W, J pre W → x.1 ≤ 25000000 → x.2 ≤ 25000000 → pre.length < (ppowG a.natAbs).length → YieldAt Fence.wide (n - 1) Try.prog l (encPP x) W fun e W' =>
      (e = .returned (.bool true) ∧ J (pre ++ [x]) W' ∧ KeepsWalks W W') ∨ (e = .returned (.bool false) ∧ Jx (pre ++ [x]) W'))
    (W : World) (hBn : W.cell? ⟨Bn, 0, none⟩ = some (.int .i64 a)) (hJ0 : J [] W) :
    CallsIn Fence.wide n Try.prog 99 #[.func (.yield l) #[] #[], .pointer (some ⟨Bn, 0, none⟩)] W fun e W' => (∃ v, e = .returned v) ∧
      ((∃ ys, ys = ppowG a.natAbs ∧ J ys W') ∨ (∃ pre, pre <+: ppowG a.natAbs ∧ Jx pre W')) := by
  obtain ⟨N, hN⟩ : ∃ N, N = a.natAbs := ⟨_, rfl⟩
  rw [← hN] at hY ⊢
  have hN1 : 1 ≤ N := by omega
  have hN2 : N ≤ 25000000 := by omega
  have HN := hid hN
  clear hN
  refine callsIn_of_wp Try.func99 rfl trivial ?_ rfl
  simp only [Try.ntmps99, List.size_toArray, List.length_cons, List.length_nil, Nat.reduceAdd, Nat.reduceSub, Array.replicate_succ, Array.replicate_zero, List.push_toArray, List.append_toArray, List.nil_append, List.cons_append]
  gi_wp2_with (refine ⟨trivial, wide_depth n, ?_⟩; gi_at_call 100; refine (callsIn_wide.2 (size_any _ (by omega) (by omega) _)).mono ?_; rw [← HN.out]; rintro e w' ⟨rfl, rfl⟩)
  gi_loopw [3, 4] (fun sl sp wr => ∃ (pre : List (Nat × Nat)) (L p f : Nat), sl = .int .i64 L ∧ sp = .int .i64 p ∧ 1 ≤ L ∧ L ≤ N ∧ 2 ≤ p ∧ p ≤ 5001 ∧ p ≤ N + 2 ∧ p + f = N + 3 ∧ Hid (ppowG N = pre ++ ppGo f p L) ∧ J pre wr)
    (fun _ sp _ => (5001 - intOf sp).toNat)
  case atStart =>
    exact ⟨[], N, 2, N + 1, rfl, rfl, hN1, Nat.le_refl _, by omega, by omega, by omega, by omega, hid rfl, hJ0⟩
  case round =>
    obtain ⟨pre, L, p, f, rfl, rfl, hL1, hLN, hp2, hp7, hpN, hf, HP, hJs⟩ := hrel
    have hL2 : L ≤ 25000000 := by omega
    have hKK := mul_bd (show p ≤ 5001 by omega) (show p ≤ 5001 by omega)
    obtain ⟨g, rfl⟩ : ∃ g, f = g + 1 := ⟨f - 1, by omega⟩
    by_cases hle : (p : Int) * p ≤ L
    · have hle' : p * p ≤ L := by exact_mod_cast hle
      have hp70 := sq_le5 hle' hL2
      have hpL : p ≤ L := Nat.le_trans (Nat.le_mul_of_pos_left p (by omega)) hle'
      obtain ⟨K, hK⟩ : ∃ K, K = val L p := ⟨_, rfl⟩
      have HK := hid hK
      have HD := hid (val_dvd p hp2 L L (Nat.le_refl _) (by omega))
      have hKb : K ≤ 25000000 := by
        rw [hK]; exact Nat.le_trans (val_le p hp2 L L (Nat.le_refl _)) hL2
      clear hK
      by_cases hd : L % p = 0
      · have hKp : 0 < K := by rw [HK.out, val_step hp2 (by omega) hd]; omega
        have HE : Hid (ppGo (g + 1) p L = (p, K) :: ppGo g (p + 1) (L / p ^ K)) := by show _ = _; rw [HK.out]; conv => lhs; unfold ppGo
                                                                                      rw [if_pos hle', if_pos hd]
        have hq1 : 1 ≤ L / p ^ K := Nat.div_pos (Nat.le_of_dvd (by omega) (by rw [HK.out]; exact HD.out)) (Nat.pow_pos (by omega))
        have hq2 : L / p ^ K ≤ N := Nat.le_trans (Nat.div_le_self _ _) hLN
        have hlen : pre.length < (ppowG N).length := by rw [HP.out, HE.out]; simp
        clear hd hle'
        obtain ⟨fn, tmps, assign, body, hy, hR⟩ := hY pre (p, K) wr hJs (show p ≤ 25000000 by omega) (show K ≤ 25000000 by omega) hlen
        dsimp only [encPP] at hy
        gi_wp2_with (refine ⟨trivial, wide_depth n, ?_⟩; gi_at_call 101; refine (callsIn_wide.2 (valuation2_any _ _ (by omega) (by omega) (by omega) (by omega) (by omega) _)).mono ?_; rw [show val (Int.natAbs (L : Int)) (Int.toNat (p : Int)) = K from HK.out.symm]; rintro e w' ⟨rfl, rfl⟩)
        gi_loop [3, 19] (fun sl si => ∃ j M : Nat, sl = .int .i64 M ∧ si = .int .i64 j ∧ j ≤ K ∧ M ≤ N ∧ Hid (M = L / p ^ j)) (fun _ si => K - (intOf si).toNat)
        case atStart => exact ⟨0, L, rfl, rfl, by omega, hLN, hid (by simp)⟩
        case round =>
          obtain ⟨j, M, rfl, rfl, hj, hM, HM⟩ := hrel
          have hdd := ediv_bdG (b := p) (show M ≤ 1000000000000 by omega)
          have hd0 := hdd.1
          have hd1 := hdd.2
          clear hdd
          by_cases hlt : j < K
          · gi_wp2
            go_round
            case rel => exact ⟨j + 1, M / p, vI (by push_cast; rfl), by go_num, by omega, Nat.le_trans (Nat.div_le_self _ _) hM, hid (by rw [HM.out, Nat.div_div_eq_div_mul, Nat.pow_succ])⟩
            case measure => simp only [intOf]; omega
          · obtain rfl : j = K := by omega
            gi_wp2
            refine ⟨wide_depth n, hR.mono ?_⟩
            rintro e W' (⟨rfl, hJ', _⟩ | ⟨rfl, hJx'⟩)
            · gi_wp2
              go_roundw
              case rel => exact ⟨pre ++ [(p, j)], M, p + 1, g, rfl, by go_num, by rw [HM.out]; exact hq1, hM, by omega, by omega, by omega, by omega, hid (by rw [HP.out, HE.out, HM.out]; simp), hJ'⟩
              case measure => simp only [intOf]; omega
            · gi_wp2
              refine bodyPost_ret (results_none rfl _ _ _) rfl ?_
              exact ⟨⟨_, rfl⟩, .inr ⟨pre ++ [(p, j)], ⟨ppGo g (p + 1) (L / p ^ j), by rw [HP.out, HE.out]; simp⟩, hJx'⟩⟩
      · have hK0 : K = 0 := by rw [HK.out, val_stop hd]
        have HE : Hid (ppGo (g + 1) p L = ppGo g (p + 1) L) := by show _ = _; conv => lhs; unfold ppGo
                                                                  rw [if_pos hle', if_neg hd]
        have HK0 : Hid (val (Int.natAbs (L : Int)) (Int.toNat (p : Int)) = 0) := hid (by rw [← hK0]; exact HK.out.symm)
        clear hd hle' hK0
        gi_wp2_with (refine ⟨trivial, wide_depth n, ?_⟩; gi_at_call 101; refine (callsIn_wide.2 (valuation2_any _ _ (by omega) (by omega) (by omega) (by omega) (by omega) _)).mono ?_; rw [HK0.out]; rintro e w' ⟨rfl, rfl⟩)
        gi_loop [3, 19] (fun sl si => sl = .int .i64 L ∧ si = .int .i64 0) (fun _ si => 0)
        case atStart => exact ⟨rfl, rfl⟩
        case round =>
          obtain ⟨rfl, rfl⟩ := hrel
          gi_wp2
          refine ⟨fun _ h => (by cases h), ?_⟩
          gi_wp2
          go_roundw
          case rel => exact ⟨pre, L, p + 1, g, rfl, by go_num, hL1, hLN, by omega, by omega, by omega, by omega, hid (by rw [HP.out, HE.out]), hJs⟩
          case measure => simp only [intOf]; omega
    · have hle' : ¬ p * p ≤ L := fun h => hle (by exact_mod_cast h)
      by_cases hL : 1 < L
      · have HE : Hid (ppGo (g + 1) p L = [(L, 1)]) := by show _ = _; unfold ppGo; rw [if_neg hle', if_pos hL]
        have hlen : pre.length < (ppowG N).length := by rw [HP.out, HE.out]; simp
        clear hle'
        obtain ⟨fn, tmps, assign, body, hy, hR⟩ := hY pre (L, 1) wr hJs (show L ≤ 25000000 by omega) (show 1 ≤ 25000000 by omega) hlen
        dsimp only [encPP] at hy
        rw [show ((1 : Nat) : Int) = 1 from rfl] at hy
        gi_wp2
        refine ⟨wide_depth n, hR.mono ?_⟩
        rintro e W' (⟨rfl, hJ', _⟩ | ⟨rfl, hJx'⟩)
        · gi_wp2
          go_end0
          have HF : J (ppowG N) W' := by rw [HP.out, HE.out]; exact hJ'
          first | exact ⟨⟨_, rfl⟩, .inl ⟨_, rfl, HF⟩⟩ | exact ⟨⟨_, rfl⟩, .inl HF⟩
        · gi_wp2
          go_end0
          exact ⟨⟨_, rfl⟩, .inr ⟨_, ⟨[], by rw [HP.out, HE.out]; simp⟩, hJx'⟩⟩
      · have HE : Hid (ppGo (g + 1) p L = []) := by show _ = _; unfold ppGo; rw [if_neg hle', if_neg hL]
        clear hle'
        gi_wp2
        go_end0
        have HF : J (ppowG N) wr := by rw [HP.out, HE.out, List.append_nil]; exact hJs
        first | exact ⟨⟨_, rfl⟩, .inl ⟨_, rfl, HF⟩⟩ | exact ⟨⟨_, rfl⟩, .inl HF⟩

/-- what a round is handed: bounded numbers -/
abbrev PPG := { x : Nat × Nat // x.1 ≤ 25000000 ∧ x.2 ≤ 25000000 }
abbrev encG (x : PPG) : Array Value := #[.int .i64 x.1.1, .int .i64 x.1.2]

theorem ppG_stops (n Bn : Nat) (a : Int) (h0 : a ≠ 0) (ha1 : -25000000 ≤ a) (ha2 : a ≤ 25000000) (w : World) (hBn : Bn < w.heap.size) (hc : w.cell? ⟨Bn, 0, none⟩ = some (.int .i64 a)) :
    SeqStopsK Fence.wide n Try.prog 99 #[.pointer (some ⟨Bn, 0, none⟩)] encG KeepsWalks (fun ys => ys.map (·.1) = ppowG a.natAbs) (fun pre => pre.map (·.1) <+: ppowG a.natAbs) (ppowG a.natAbs).length w := fun l J Jx W hW _ _ hY hJ0 => by
  refine (ppG_in n l Bn a h0 ha1 ha2 (fun pre W => ∃ q : List PPG, q.map (·.1) = pre ∧ J q W) (fun pre W => ∃ q : List PPG, q.map (·.1) = pre ∧ Jx q W) ?_ W ((hW.cell (p := ⟨Bn, 0, none⟩) hBn).trans hc) ⟨[], rfl, hJ0⟩).mono ?_
  · rintro pre x W1 ⟨q, rfl, hq⟩ h1 h2 hl
    obtain ⟨fn, tmps, assign, body, hy, hR⟩ := hY q ⟨x, h1, h2⟩ W1 hq (by simpa using hl)
    refine ⟨fn, tmps, assign, body, hy, hR.mono ?_⟩
    rintro e w' (⟨he, hj, hk⟩ | ⟨he, hj⟩)
    · exact .inl ⟨he, ⟨_, by simp, hj⟩, hk⟩
    · exact .inr ⟨he, ⟨_, by simp, hj⟩⟩
  · rintro e W' ⟨hv, ⟨ys, hys, q, hq, hj⟩ | ⟨pre, hpre, q, hq, hj⟩⟩
    · exact ⟨hv, .inl ⟨q, hq.trans hys, hj⟩⟩
    · exact ⟨hv, .inr ⟨q, by rw [← hq] at hpre; exact hpre, hj⟩⟩


def fstsG (l : List PPG) : List Nat := l.map (fun x => x.1.1)
theorem fstsG_snoc (l : List PPG) (x : PPG) : fstsG (l ++ [x]) = fstsG l ++ [x.1.1] := by simp [fstsG]
theorem fstsG_len (l : List PPG) : (fstsG l).length = l.length := by unfold fstsG; rw [List.length_map]
theorem fstsG_all {ys : List PPG} {l : List (Nat × Nat)} (h : ys.map (·.1) = l) : fstsG ys = l.map (·.1) := by rw [← h]; simp [fstsG]

set_option maxRecDepth 100000 in
set_option maxHeartbeats 2000000 in
theorem placesOfG_any (n : Int) (h0 : n ≠ 0) (a1 : -25000000 ≤ n) (a2 : n ≤ 25000000) (w : World) :
    Calls Try.prog 64 #[.int .i64 n] w fun e w' => ∃ v, e = .returned v ∧ Owns w' w.heap.size v (placesG n) ∧ Below w.heap.size w w' := by
  obtain ⟨i0, hi, hz0, hz1, hz2⟩ := info_parts infoInt
  have HPL : Hid (placesG n = plcs ((ppowG n.natAbs).map (·.1))) := hid (by unfold plcs placesG; rw [plistG_eq])
  obtain ⟨v0, hv0⟩ : ∃ v0 : Value, v0 = .slice (some ⟨w.heap.size, 0, none⟩) 2 2 := ⟨_, rfl⟩
  have hr0 : (w.alloc (.cells #[.int .i64 0, .int .i64 2] 3)).ownsRow w.heap.size 3 1 v0 2 [.int .i64 0, .int .i64 2] := by
    rw [hv0]; exact World.ownsRow_lit w #[.int .i64 0, .int .i64 2] 2 (Nat.le_refl _) (by unfold maxLen; omega) rfl
  have hB0 : Below w.heap.size w (((w.alloc (.cells #[.int .i64 0, .int .i64 2] 3)).alloc (.cells #[v0] 28)).alloc (.cells #[.int .i64 n] 53)) := (((Below.refl _ _).alloc (Nat.le_refl _) _).alloc (by simp) _).alloc (by simp; omega) _
  have bO := (Boxed.new (w.alloc (.cells #[.int .i64 0, .int .i64 2] 3)) 28 v0).alloc (.cells #[.int .i64 n] 53)
  have bN := Boxed.new ((w.alloc (.cells #[.int .i64 0, .int .i64 2] 3)).alloc (.cells #[v0] 28)) 53 (.int .i64 n)
  simp only [World.size_alloc] at bN bO
  have hrN := (hr0.alloc (.cells #[v0] 28)).alloc (.cells #[.int .i64 n] 53)
  have H0 := hid h0
  subst hv0
  clear h0 hr0
  refine (callsIn_wide (n := 5)).1 ?_
  refine callsIn_of_wp_marks Try.func64 rfl trivial ?_ rfl
  simp only [Try.ntmps64, List.size_toArray, List.length_cons, List.length_nil, Nat.reduceAdd, Nat.reduceSub, Array.replicate_succ, Array.replicate_zero, List.push_toArray, List.append_toArray, List.nil_append, List.cons_append]
  gi_wp2_with (refine ⟨trivial, ?_⟩; gi_at_call 78; refine (callsIn_wide.2 (pp_make _ _)).mono ?_; rintro e w' ⟨rfl, rfl⟩)
  refine wpIn_rangeFunc_ownG rfl (by omega) (gf := 99) (lb := #[.pointer (some ⟨w.heap.size + 1 + 1, 0, none⟩)]) rfl trivial (enters_of Try.func99 (by kernel_rfl) rfl)
    (ppG_stops _ (w.heap.size + 1 + 1) n H0.out (by omega) (by omega) _ (by simp) bN.cell) walksK_t walksK_b (Below.refl _ _) (fun _ => rfl)
    (fun pre W => (∃ v, Boxed W (w.heap.size + 1) 28 v ∧ W.ownsRow w.heap.size 3 1 v (plcs (fstsG pre)).length ((plcs (fstsG pre)).map (Value.int .i64)) ∧ True) ∧ Below w.heap.size w W)
    (fun _ _ _ => False)
    (OwnFrom.and (Own.from (holdsRow_own w.heap.size (w.heap.size + 1) 28 3 1 (fun pre => (plcs (fstsG pre)).length) (fun pre => (plcs (fstsG pre)).map (Value.int .i64)) (fun _ _ => True)) _) (ownFrom_below (Nat.le_refl _) (by simp; omega)))
    (fun _ _ _ _ _ hs _ _ => hs)
    ⟨⟨_, bO, hrN, trivial⟩, hB0⟩ ?a1 ?assign ?body ?done ?stop
  case assign =>
    intro l x W K hK
    gi_wp2
    exact hK
  case body =>
    rintro l pre x W ⟨⟨v, hv, hrow, _⟩, hB⟩ hlt
    have hc := hv.cell
    have hpl := ppowG_len n.natAbs
    have hll := plcs_len (fstsG pre)
    rw [fstsG_len] at hll
    by_cases hx : 2 < x.1.1
    · have hxi : (2 : Int) < (x.1.1 : Int) := by omega
      have HX := hid hx
      clear hx
      gi_wp2_with (gi_at_builtin; refine wpListIn_append_own _ rfl _ _ 28 rfl w.heap.size 3 i0 (.int .i64 0) 1 8 Try.underlying28 hi hz0 hz1 hz2 rfl (by decide) _ _ _ rfl (hrow.alloc _) ⟨W.heap.size, 0, none⟩ 1 1 [.int .i64 x.1.1] rfl rfl (cell_one_new _ _ _) (by simp [Value.oneCell']) (by unfold maxLen; omega) (by omega) (by have := hB.size; simp; omega) ?_; intro v' w1 hown' hgrow _; obtain ⟨g', cap', rfl⟩ := ownsRow_succ hown'; obtain ⟨hv1, hv2, hr2, hk2, hb2⟩ := hv.appended (by decide) hrow hB.size (by omega) hown' hgrow; have hc1 := hv1.cell; have hf1 := hv1.frozen)
      exact ⟨hk2.from _, hk2.walks, ⟨_, hv2, by rw [fstsG_snoc, plcs_yes HX.out]; simpa using hr2, trivial⟩, hB.trans hb2⟩
    · have hxi : ¬ (2 : Int) < (x.1.1 : Int) := by omega
      have HX := hid hx
      clear hx
      gi_wp2
      exact ⟨KeepsFrom.refl _ _, KeepsWalks.refl _, ⟨v, hv, by rw [fstsG_snoc, plcs_no HX.out]; exact hrow⟩, hB⟩
  case done =>
    rintro D ys W hD hS ⟨⟨v, hv, hrow, _⟩, hB⟩ hK
    have hc := hv.cell
    rw [fstsG_all hS] at hrow
    have HP2 := HPL
    gi_wp2
    refine ⟨by simp, .inl ⟨_, _, rfl, run_takeDeferred hK, ?_⟩⟩
    refine ⟨_, results_tmp rfl _ _ _, ?_⟩
    exact ⟨v, rfl, by unfold Owns; rw [HPL.out]; exact ownsRow_putObj hrow _ hK rfl, hB.trans (belowK_b (w := w) (Nat.le_refl _) W D _ _ (by simp at hD; omega) hK rfl rfl)⟩
  case stop =>
    rintro D c pre W _ _ h _
    exact h.elim

end Go.Proofs.Ytdidmblkknnglaa

set_option linter.unusedVariables false
namespace Go.Proofs.Ytdidmblkknnglaa
open Go.RowKit

theorem okAB_parts {a b : Int} (h : okAB a b = true) : factB a = true ∧ factB b = true := by
  unfold okAB at h
  rw [Bool.and_eq_true] at h
  exact h

set_option maxHeartbeats 1000000 in
theorem symbolOf_any (a b q : Int) (w : World) : Calls Try.prog 16 #[.int .i64 a, .int .i64 b, .int .i64 q] w fun e w' => e = .returned (.int .i64 (symOfV a b q)) ∧ Below w.heap.size w w' := by
  cases hA : factB a with
  | false =>
    have HA := hid hA
    have H : Hid (symOfV a b q = 0) := hid (by unfold symOfV okAB; rw [hA]; rfl)
    clear hA
    go_enter Try.func16, Try.ntmps16
    go_wp2_with (go_at_call 55; refine (factored_any _ _).mono ?_; rw [HA.out]; rintro e w' ⟨rfl, rfl⟩)
    go_ret
    exact ⟨retI H.out.symm, Below.refl _ _⟩
  | true =>
    cases hB : factB b with
    | false =>
      have HA := hid hA
      have HB := hid hB
      have H : Hid (symOfV a b q = 0) := hid (by unfold symOfV okAB; rw [hA, hB]; rfl)
      clear hA hB
      go_enter Try.func16, Try.ntmps16
      go_wp2_with (go_at_call 55; refine (factored_any _ _).mono ?_; (first | rw [HA.out] | rw [HB.out]); rintro e w' ⟨rfl, rfl⟩)
      go_ret
      exact ⟨retI H.out.symm, Below.refl _ _⟩
    | true =>
      cases hQ : plI q with
      | false =>
        have HA := hid hA
        have HB := hid hB
        have HQ := hid hQ
        have H : Hid (symOfV a b q = 0) := hid (by unfold symOfV okAB; rw [hA, hB, hQ]; rfl)
        clear hA hB hQ
        go_enter Try.func16, Try.ntmps16
        go_wp2_with (first | (go_at_call 55; refine (factored_any _ _).mono ?_; (first | rw [HA.out] | rw [HB.out]); rintro e w' ⟨rfl, rfl⟩) | (go_at_call 56; refine (plValid_any _ _).mono ?_; rw [HQ.out]; rintro e w1 ⟨rfl, hb1⟩))
        go_ret
        exact ⟨retI H.out.symm, hb1⟩
      | true =>
        obtain ⟨a0, a1, a2⟩ := factB_bd hA
        obtain ⟨b0, b1, b2⟩ := factB_bd hB
        have A0 := hid a0
        have B0 := hid b0
        have HA := hid hA
        have HB := hid hB
        have HQ := hid hQ
        have H : Hid (symOfV a b q = symV a b q) := hid (by unfold symOfV okAB; rw [hA, hB, hQ]; rfl)
        clear hA hB hQ a0 b0
        go_enter Try.func16, Try.ntmps16
        go_wp2_with (first | (go_at_call 55; refine (factored_any _ _).mono ?_; (first | rw [HA.out] | rw [HB.out]); rintro e w' ⟨rfl, rfl⟩) | (go_at_call 56; refine (plValid_any _ _).mono ?_; rw [HQ.out]; rintro e w1 ⟨rfl, hb1⟩))
        refine (symbolAt_any q HQ.out _).mono ?_
        rintro e w2 ⟨fv, rfl, hs, hb2⟩
        rcases hs with ⟨rfl, rfl⟩ | ⟨rfl, rfl⟩ | ⟨P, C, rfl, hP, h3, rfl, hC1, hC2, hC3⟩
        · go_wp2_with (go_at_call 86; refine (symZero_any _ _ A0.out B0.out _).mono ?_; rw [← H.out]; rintro e w' ⟨rfl, rfl⟩)
          go_ret
          exact ⟨rfl, hb1.trans (hb2.mono hb1.size)⟩
        · go_wp2_with (go_at_call 88; refine (symbolAtTwo_any _ _ A0.out B0.out (by omega) (by omega) (by omega) (by omega) _).mono ?_; rw [← H.out]; rintro e w' ⟨rfl, rfl⟩)
          go_ret
          exact ⟨rfl, hb1.trans (hb2.mono hb1.size)⟩
        · go_wp2_with (go_at_call 89; refine (symP_any _ _ P C hP h3 A0.out B0.out (by omega) (by omega) (by omega) (by omega) _ hC3).mono ?_; rw [← H.out]; rintro e w' ⟨rfl, rfl⟩)
          go_ret
          exact ⟨rfl, hb1.trans (hb2.mono hb1.size)⟩

end Go.Proofs.Ytdidmblkknnglaa

set_option linter.unusedVariables false
namespace Go.Proofs.Ytdidmblkknnglaa
open Go.RowKit Go.Shelf
attribute [local go_sem] Oper.semAt_some

/-- the triples, one after the other -/
def tzL (a b : Int) (P m x y : Nat) : Nat → List (Nat × Nat × Nat)
  | 0 => []
  | Z + 1 => tzL a b P m x y Z ++ (if hitB a b P m x y Z then [(x, y, Z)] else [])
def tyL (a b : Int) (P m x : Nat) : Nat → List (Nat × Nat × Nat)
  | 0 => []
  | Y + 1 => tyL a b P m x Y ++ tzL a b P m x Y m
def txL (a b : Int) (P m : Nat) : Nat → List (Nat × Nat × Nat)
  | 0 => []
  | X + 1 => txL a b P m X ++ tyL a b P m X m
def tripL (a b : Int) (P m : Nat) : List (Nat × Nat × Nat) := txL a b P m m
theorem tz_mono (a b : Int) (P m x y k : Nat) : ∀ n, k ≤ n → tzL a b P m x y k <+: tzL a b P m x y n
  | 0, h => by rw [show k = 0 by omega]; exact List.prefix_refl _
  | n + 1, h => by
    by_cases e : k = n + 1
    · rw [e]; exact List.prefix_refl _
    · exact (tz_mono a b P m x y k n (by omega)).trans (List.prefix_append _ _)
theorem ty_mono (a b : Int) (P m x k : Nat) : ∀ n, k ≤ n → tyL a b P m x k <+: tyL a b P m x n
  | 0, h => by rw [show k = 0 by omega]; exact List.prefix_refl _
  | n + 1, h => by
    by_cases e : k = n + 1
    · rw [e]; exact List.prefix_refl _
    · exact (ty_mono a b P m x k n (by omega)).trans (List.prefix_append _ _)
theorem tx_mono (a b : Int) (P m k : Nat) : ∀ n, k ≤ n → txL a b P m k <+: txL a b P m n
  | 0, h => by rw [show k = 0 by omega]; exact List.prefix_refl _
  | n + 1, h => by
    by_cases e : k = n + 1
    · rw [e]; exact List.prefix_refl _
    · exact (tx_mono a b P m k n (by omega)).trans (List.prefix_append _ _)
theorem trip_pre {a b : Int} {P m X Y Z : Nat} (hX : X < m) (hY : Y < m) (hZ : Z < m) (h : hitB a b P m X Y Z = true) : (txL a b P m X ++ tyL a b P m X Y ++ tzL a b P m X Y Z) ++ [(X, Y, Z)] <+: tripL a b P m := by
  have e1 : tzL a b P m X Y Z ++ [(X, Y, Z)] = tzL a b P m X Y (Z + 1) := by
    show _ = tzL a b P m X Y Z ++ (if hitB a b P m X Y Z then [(X, Y, Z)] else [])
    rw [h, if_pos rfl]
  have p1 := tz_mono a b P m X Y (Z + 1) m (by omega)
  have p2 := ty_mono a b P m X (Y + 1) m (by omega)
  have p3 := tx_mono a b P m (X + 1) m (by omega)
  rw [List.append_assoc, e1]
  have q1 : txL a b P m X ++ tyL a b P m X Y ++ tzL a b P m X Y (Z + 1) <+: txL a b P m X ++ tyL a b P m X (Y + 1) := by
    rw [List.append_assoc]
    exact (List.prefix_append_right_inj _).2 ((List.prefix_append_right_inj _).2 p1)
  have q2 : txL a b P m X ++ tyL a b P m X (Y + 1) <+: txL a b P m (X + 1) := (List.prefix_append_right_inj _).2 p2
  exact q1.trans (q2.trans p3)
theorem tz_len (a b : Int) (P m x y : Nat) : ∀ n, (tzL a b P m x y n).length ≤ n
  | 0 => Nat.le_refl _
  | n + 1 => by
    have := tz_len a b P m x y n
    unfold tzL
    rw [List.length_append]
    split <;> simp <;> omega
theorem ty_len (a b : Int) (P m x : Nat) : ∀ n, (tyL a b P m x n).length ≤ n * m
  | 0 => Nat.zero_le _
  | n + 1 => by
    have h1 := ty_len a b P m x n
    have h2 := tz_len a b P m x n m
    unfold tyL
    rw [List.length_append, Nat.succ_mul]
    omega
theorem tx_len (a b : Int) (P m : Nat) : ∀ n, (txL a b P m n).length ≤ n * (m * m)
  | 0 => Nat.zero_le _
  | n + 1 => by
    have h1 := tx_len a b P m n
    have h2 := ty_len a b P m n m
    unfold txL
    rw [List.length_append, Nat.succ_mul]
    omega
theorem trip_len {a b : Int} {P m : Nat} (hm : m ≤ 32) : (tripL a b P m).length ≤ 32768 := by
  have h := tx_len a b P m m
  have h2 := Nat.mul_le_mul hm (Nat.mul_le_mul hm hm)
  unfold tripL
  omega

theorem solve_eqz {V z : Int} {m : Nat} (hm : 0 < m) : ((z - V).tmod (m : Int) == 0) = ((V - z) % (m : Int) == 0) := by
  rw [Bool.eq_iff_iff, beq_iff_eq, beq_iff_eq]
  constructor
  · intro h
    have h1 := Int.dvd_of_tmod_eq_zero h
    have h2 : (m : Int) ∣ V - z := by
      have := Int.dvd_neg.2 h1
      rwa [Int.neg_sub] at this
    exact Int.emod_eq_zero_of_dvd h2
  · intro h
    have h1 := Int.dvd_of_emod_eq_zero h
    have h2 : (m : Int) ∣ z - V := by
      have := Int.dvd_neg.2 h1
      rwa [Int.neg_sub] at this
    exact Int.tmod_eq_zero_of_dvd h2
theorem modz {x P : Nat} : ((x : Int) % (P : Int) == 0) = (x % P == 0) := by
  rw [Bool.eq_iff_iff, beq_iff_eq, beq_iff_eq]
  omega

/-- what a round must keep: the four captured variables -/
def KpC (B : Nat) (W W' : World) : Prop := ∀ k, B ≤ k → k < B + 4 → W'.heap[k]? = W.heap[k]?
theorem KpC.refl (B : Nat) (W : World) : KpC B W W := fun _ _ _ => rfl
theorem KpC.trans {B : Nat} {W1 W2 W3 : World} (h : KpC B W1 W2) (k : KpC B W2 W3) : KpC B W1 W3 := fun j h1 h2 => (k j h1 h2).trans (h j h1 h2)
abbrev T3 := { t : Nat × Nat × Nat // t.1 ≤ 32 ∧ t.2.1 ≤ 32 ∧ t.2.2 ≤ 32 }
abbrev enc3 (t : Nat × Nat × Nat) : Array Value := #[.agg #[.int .i64 t.1, .int .i64 t.2.1, .int .i64 t.2.2]]
/-- the captured variables -/
def Capt (B : Nat) (a b : Int) (P m : Nat) (W : World) : Prop := Boxed W B 3 (.int .i64 a) ∧ Boxed W (B + 1) 3 (.int .i64 b) ∧ Boxed W (B + 2) 3 (.int .i64 P) ∧ Boxed W (B + 3) 3 (.int .i64 m)
theorem Capt.keep {B : Nat} {a b : Int} {P m : Nat} {W W' : World} (h : Capt B a b P m W) (hk : KpC B W W') : Capt B a b P m W' :=
  ⟨(hk B (Nat.le_refl _) (by omega)).trans h.1, (hk (B + 1) (by omega) (by omega)).trans h.2.1, (hk (B + 2) (by omega) (by omega)).trans h.2.2.1, (hk (B + 3) (by omega) (by omega)).trans h.2.2.2⟩

theorem solved_make (a b : Int) (P m : Nat) (w : World) :
    Calls Try.prog 74 #[.int .i64 a, .int .i64 b, .int .i64 P, .int .i64 m] w fun e w' => e = .returned (.func (.func 98) #[] #[.pointer (some ⟨w.heap.size + 3, 0, none⟩), .pointer (some ⟨w.heap.size, 0, none⟩), .pointer (some ⟨w.heap.size + 1, 0, none⟩), .pointer (some ⟨w.heap.size + 2, 0, none⟩)]) ∧
      w' = (((w.alloc (.cells #[.int .i64 a] 3)).alloc (.cells #[.int .i64 b] 3)).alloc (.cells #[.int .i64 P] 3)).alloc (.cells #[.int .i64 m] 3) := by
  go_enter Try.func74, Try.ntmps74
  go_wp2
  go_ret
  exact ⟨rfl, rfl⟩

set_option maxRecDepth 100000 in
set_option maxHeartbeats 8000000 in
theorem trip_in (n l B : Nat) (a b : Int) (P m : Nat) (a1 : -5000 ≤ a) (a2 : a ≤ 5000) (b1 : -5000 ≤ b) (b2 : b ≤ 5000) (hP1 : 2 ≤ P) (hP2 : P ≤ 5000) (hm1 : 1 ≤ m) (hm2 : m ≤ 32) (J Jx : List (Nat × Nat × Nat) → World → Prop)
    (hY : ∀ pre x W, J pre W → x.1 ≤ 32 → x.2.1 ≤ 32 → x.2.2 ≤ 32 → pre.length < (tripL a b P m).length → YieldAt Fence.wide (n - 1) Try.prog l (enc3 x) W fun e W' =>
      (e = .returned (.bool true) ∧ J (pre ++ [x]) W' ∧ KpC B W W') ∨ (e = .returned (.bool false) ∧ Jx (pre ++ [x]) W'))
    (W : World) (hC : Capt B a b P m W) (hJ0 : J [] W) :
    CallsIn Fence.wide n Try.prog 98 #[.func (.yield l) #[] #[], .pointer (some ⟨B + 3, 0, none⟩), .pointer (some ⟨B, 0, none⟩), .pointer (some ⟨B + 1, 0, none⟩), .pointer (some ⟨B + 2, 0, none⟩)] W fun e W' => (∃ v, e = .returned v) ∧
      ((∃ ys, ys = tripL a b P m ∧ J ys W') ∨ (∃ pre, pre <+: tripL a b P m ∧ Jx pre W')) := by
  have HC0 := hid hC
  have HJ0 := hid hJ0
  have HYY := hid hY
  have cm0 := hC.2.2.2.cell
  clear hC hJ0 hY
  refine callsIn_of_wp Try.func98 rfl trivial ?_ rfl
  simp only [Try.ntmps98, List.size_toArray, List.length_cons, List.length_nil, Nat.reduceAdd, Nat.reduceSub, Array.replicate_succ, Array.replicate_zero, List.push_toArray, List.append_toArray, List.nil_append, List.cons_append]
  gi_wp2
  gi_loopw [12] (fun sx wr => ∃ X : Nat, sx = .int .i64 X ∧ X ≤ m ∧ Hid (J (txL a b P m X) wr) ∧ Hid (Capt B a b P m wr)) (fun sx _ => m - (intOf sx).toNat)
  case atStart => exact ⟨0, rfl, by omega, HJ0, HC0⟩
  case round =>
    obtain ⟨X, rfl, hX, HJX, HCX⟩ := hrel
    rename World => wX
    by_cases hXm : X < m
    · have hXi : (X : Int) < (m : Int) := by omega
      have cm1 := HCX.out.2.2.2.cell
      have hx1 := tri_bd a1 a2 (show X ≤ m by omega) hm2
      have hx2 := hx1.1
      have hx3 := hx1.2.1
      have hx4 := hx1.2.2.1
      have hx5 := hx1.2.2.2
      clear hx1
      gi_wp2
      gi_loopw [16] (fun sy wr => ∃ Y : Nat, sy = .int .i64 Y ∧ Y ≤ m ∧ Hid (J (txL a b P m X ++ tyL a b P m X Y) wr) ∧ Hid (Capt B a b P m wr)) (fun sy _ => m - (intOf sy).toNat)
      case atStart => exact ⟨0, rfl, by omega, hid (by show J (txL a b P m X ++ []) wX; rw [List.append_nil]; exact HJX.out), HCX⟩
      case round =>
        obtain ⟨Y, rfl, hYm0, HJY, HCY⟩ := hrel
        rename World => wY
        by_cases hYm : Y < m
        · have hYi : (Y : Int) < (m : Int) := by omega
          have ca2 := HCY.out.1.cell
          have cb2 := HCY.out.2.1.cell
          have cp2 := HCY.out.2.2.1.cell
          have cm2 := HCY.out.2.2.2.cell
          have hy1 := tri_bd b1 b2 (show Y ≤ m by omega) hm2
          have hy2 := hy1.1
          have hy3 := hy1.2.1
          have hy4 := hy1.2.2.1
          have hy5 := hy1.2.2.2
          clear hy1
          have hbx := modz (x := X) (P := P)
          have hby := modz (x := Y) (P := P)
          cases hdx : (X % P == 0) with
          | false =>
            rw [hdx] at hbx
            clear hby
            gi_wp2
            gi_loopw [41] (fun sz wr => ∃ Z : Nat, sz = .int .i64 Z ∧ Z ≤ m ∧ Hid (J (txL a b P m X ++ tyL a b P m X Y ++ tzL a b P m X Y Z) wr) ∧ Hid (Capt B a b P m wr)) (fun sz _ => m - (intOf sz).toNat)
            case atStart => exact ⟨0, rfl, by omega, hid (by show J (txL a b P m X ++ tyL a b P m X Y ++ []) wY; rw [List.append_nil]; exact HJY.out), HCY⟩
            case round =>
              obtain ⟨Z, rfl, hZm0, HJZ, HCZ⟩ := hrel
              rename World => wZ
              by_cases hZm : Z < m
              · have hZi : (Z : Int) < (m : Int) := by omega
                have cp3 := HCZ.out.2.2.1.cell
                have cm3 := HCZ.out.2.2.2.cell
                have hzz := mul_bd (show Z ≤ 32 by omega) (show Z ≤ 32 by omega)
                have hsol := solve_eqz (V := a * (X : Int) * (X : Int) + b * (Y : Int) * (Y : Int)) (z := (Z : Int) * (Z : Int)) (m := m) (by omega)
                have hbz := modz (x := Z) (P := P)
                cases hs : ((a * (X : Int) * (X : Int) + b * (Y : Int) * (Y : Int) - (Z : Int) * (Z : Int)) % (m : Int) == 0) with
                | false =>
                  have T : (((Z : Int) * (Z : Int) - (a * (X : Int) * (X : Int) + b * (Y : Int) * (Y : Int))).tmod (m : Int) != 0) = true := by show (!(_ == (0 : Int))) = true; rw [hsol, hs]; rfl
                  clear hbz hsol
                  have HE : Hid (tzL a b P m X Y (Z + 1) = tzL a b P m X Y Z) := hid (by
                    show tzL a b P m X Y Z ++ (if hitB a b P m X Y Z then [(X, Y, Z)] else []) = _
                    rw [show hitB a b P m X Y Z = false from by unfold hitB; rw [hs, Bool.and_false], if_neg (by decide), List.append_nil])
                  clear hs
                  gi_wp2
                  go_roundw
                  case rel => exact ⟨Z + 1, by go_num, by omega, hid (by rw [HE.out]; exact HJZ.out), HCZ⟩
                  case measure => simp only [intOf]; omega
                | true =>
                  have T : (((Z : Int) * (Z : Int) - (a * (X : Int) * (X : Int) + b * (Y : Int) * (Y : Int))).tmod (m : Int) != 0) = false := by show (!(_ == (0 : Int))) = false; rw [hsol, hs]; rfl
                  clear hsol
                  clear hbz
                  have hh : hitB a b P m X Y Z = true := by unfold hitB; rw [hs, show (X % P != 0) = true from by show (!(X % P == 0)) = true; rw [hdx]; rfl]; rfl
                  have HP := hid (trip_pre hXm hYm hZm hh)
                  have HE : Hid (tzL a b P m X Y (Z + 1) = tzL a b P m X Y Z ++ [(X, Y, Z)]) := hid (by
                    show tzL a b P m X Y Z ++ (if hitB a b P m X Y Z then [(X, Y, Z)] else []) = _
                    rw [hh, if_pos rfl])
                  have hlen := HP.out.length_le
                  rw [List.length_append, List.length_singleton] at hlen
                  obtain ⟨fn, tmps, assign, body, hy, hR⟩ := HYY.out (txL a b P m X ++ tyL a b P m X Y ++ tzL a b P m X Y Z) (X, Y, Z) wZ HJZ.out (show X ≤ 32 by omega) (show Y ≤ 32 by omega) (show Z ≤ 32 by omega) (by omega)
                  dsimp only [enc3] at hy
                  clear hlen hh hs
                  gi_wp2
                  refine ⟨wide_depth n, hR.mono ?_⟩
                  rintro e W' (⟨rfl, hJ', hK⟩ | ⟨rfl, hJx'⟩)
                  · gi_wp2
                    go_roundw
                    case rel => exact ⟨Z + 1, by go_num, by omega, hid (by rw [HE.out, ← List.append_assoc]; exact hJ'), hid (HCZ.out.keep hK)⟩
                    case measure => simp only [intOf]; omega
                  · gi_wp2
                    refine bodyPost_ret (results_none rfl _ _ _) rfl ?_
                    exact ⟨⟨_, rfl⟩, .inr ⟨_, HP.out, hJx'⟩⟩
              · have e : Z = m := by omega
                have HJm : Hid (J (txL a b P m X ++ tyL a b P m X (Y + 1)) wZ) := hid (by
                  have h := HJZ.out
                  rw [e, List.append_assoc] at h
                  exact h)
                clear e
                gi_wp2
                go_roundw
                case rel => exact ⟨Y + 1, by go_num, by omega, HJm, HCZ⟩
                case measure => simp only [intOf]; omega
          | true =>
            rw [hdx] at hbx
            cases hdy : (Y % P == 0) with
            | false =>
              rw [hdy] at hby
              gi_wp2
              gi_loopw [41] (fun sz wr => ∃ Z : Nat, sz = .int .i64 Z ∧ Z ≤ m ∧ Hid (J (txL a b P m X ++ tyL a b P m X Y ++ tzL a b P m X Y Z) wr) ∧ Hid (Capt B a b P m wr)) (fun sz _ => m - (intOf sz).toNat)
              case atStart => exact ⟨0, rfl, by omega, hid (by show J (txL a b P m X ++ tyL a b P m X Y ++ []) wY; rw [List.append_nil]; exact HJY.out), HCY⟩
              case round =>
                obtain ⟨Z, rfl, hZm0, HJZ, HCZ⟩ := hrel
                rename World => wZ
                by_cases hZm : Z < m
                · have hZi : (Z : Int) < (m : Int) := by omega
                  have cp3 := HCZ.out.2.2.1.cell
                  have cm3 := HCZ.out.2.2.2.cell
                  have hzz := mul_bd (show Z ≤ 32 by omega) (show Z ≤ 32 by omega)
                  have hsol := solve_eqz (V := a * (X : Int) * (X : Int) + b * (Y : Int) * (Y : Int)) (z := (Z : Int) * (Z : Int)) (m := m) (by omega)
                  have hbz := modz (x := Z) (P := P)
                  cases hs : ((a * (X : Int) * (X : Int) + b * (Y : Int) * (Y : Int) - (Z : Int) * (Z : Int)) % (m : Int) == 0) with
                  | false =>
                    have T : (((Z : Int) * (Z : Int) - (a * (X : Int) * (X : Int) + b * (Y : Int) * (Y : Int))).tmod (m : Int) != 0) = true := by show (!(_ == (0 : Int))) = true; rw [hsol, hs]; rfl
                    clear hbz hsol
                    have HE : Hid (tzL a b P m X Y (Z + 1) = tzL a b P m X Y Z) := hid (by
                      show tzL a b P m X Y Z ++ (if hitB a b P m X Y Z then [(X, Y, Z)] else []) = _
                      rw [show hitB a b P m X Y Z = false from by unfold hitB; rw [hs, Bool.and_false], if_neg (by decide), List.append_nil])
                    clear hs
                    gi_wp2
                    go_roundw
                    case rel => exact ⟨Z + 1, by go_num, by omega, hid (by rw [HE.out]; exact HJZ.out), HCZ⟩
                    case measure => simp only [intOf]; omega
                  | true =>
                    have T : (((Z : Int) * (Z : Int) - (a * (X : Int) * (X : Int) + b * (Y : Int) * (Y : Int))).tmod (m : Int) != 0) = false := by show (!(_ == (0 : Int))) = false; rw [hsol, hs]; rfl
                    clear hsol
                    clear hbz
                    have hh : hitB a b P m X Y Z = true := by unfold hitB; rw [hs, show (Y % P != 0) = true from by show (!(Y % P == 0)) = true; rw [hdy]; rfl, Bool.true_or, Bool.or_true]; rfl
                    have HP := hid (trip_pre hXm hYm hZm hh)
                    have HE : Hid (tzL a b P m X Y (Z + 1) = tzL a b P m X Y Z ++ [(X, Y, Z)]) := hid (by
                      show tzL a b P m X Y Z ++ (if hitB a b P m X Y Z then [(X, Y, Z)] else []) = _
                      rw [hh, if_pos rfl])
                    have hlen := HP.out.length_le
                    rw [List.length_append, List.length_singleton] at hlen
                    obtain ⟨fn, tmps, assign, body, hy, hR⟩ := HYY.out (txL a b P m X ++ tyL a b P m X Y ++ tzL a b P m X Y Z) (X, Y, Z) wZ HJZ.out (show X ≤ 32 by omega) (show Y ≤ 32 by omega) (show Z ≤ 32 by omega) (by omega)
                    dsimp only [enc3] at hy
                    clear hlen hh hs
                    gi_wp2
                    refine ⟨wide_depth n, hR.mono ?_⟩
                    rintro e W' (⟨rfl, hJ', hK⟩ | ⟨rfl, hJx'⟩)
                    · gi_wp2
                      go_roundw
                      case rel => exact ⟨Z + 1, by go_num, by omega, hid (by rw [HE.out, ← List.append_assoc]; exact hJ'), hid (HCZ.out.keep hK)⟩
                      case measure => simp only [intOf]; omega
                    · gi_wp2
                      refine bodyPost_ret (results_none rfl _ _ _) rfl ?_
                      exact ⟨⟨_, rfl⟩, .inr ⟨_, HP.out, hJx'⟩⟩
                · have e : Z = m := by omega
                  have HJm : Hid (J (txL a b P m X ++ tyL a b P m X (Y + 1)) wZ) := hid (by
                    have h := HJZ.out
                    rw [e, List.append_assoc] at h
                    exact h)
                  clear e
                  gi_wp2
                  go_roundw
                  case rel => exact ⟨Y + 1, by go_num, by omega, HJm, HCZ⟩
                  case measure => simp only [intOf]; omega
            | true =>
              rw [hdy] at hby
              gi_wp2
              gi_loopw [41] (fun sz wr => ∃ Z : Nat, sz = .int .i64 Z ∧ Z ≤ m ∧ Hid (J (txL a b P m X ++ tyL a b P m X Y ++ tzL a b P m X Y Z) wr) ∧ Hid (Capt B a b P m wr)) (fun sz _ => m - (intOf sz).toNat)
              case atStart => exact ⟨0, rfl, by omega, hid (by show J (txL a b P m X ++ tyL a b P m X Y ++ []) wY; rw [List.append_nil]; exact HJY.out), HCY⟩
              case round =>
                obtain ⟨Z, rfl, hZm0, HJZ, HCZ⟩ := hrel
                rename World => wZ
                by_cases hZm : Z < m
                · have hZi : (Z : Int) < (m : Int) := by omega
                  have cp3 := HCZ.out.2.2.1.cell
                  have cm3 := HCZ.out.2.2.2.cell
                  have hzz := mul_bd (show Z ≤ 32 by omega) (show Z ≤ 32 by omega)
                  have hsol := solve_eqz (V := a * (X : Int) * (X : Int) + b * (Y : Int) * (Y : Int)) (z := (Z : Int) * (Z : Int)) (m := m) (by omega)
                  have hbz := modz (x := Z) (P := P)
                  cases hs : ((a * (X : Int) * (X : Int) + b * (Y : Int) * (Y : Int) - (Z : Int) * (Z : Int)) % (m : Int) == 0) with
                  | false =>
                    have T : (((Z : Int) * (Z : Int) - (a * (X : Int) * (X : Int) + b * (Y : Int) * (Y : Int))).tmod (m : Int) != 0) = true := by show (!(_ == (0 : Int))) = true; rw [hsol, hs]; rfl
                    clear hbz hsol
                    have HE : Hid (tzL a b P m X Y (Z + 1) = tzL a b P m X Y Z) := hid (by
                      show tzL a b P m X Y Z ++ (if hitB a b P m X Y Z then [(X, Y, Z)] else []) = _
                      rw [show hitB a b P m X Y Z = false from by unfold hitB; rw [hs, Bool.and_false], if_neg (by decide), List.append_nil])
                    clear hs
                    gi_wp2
                    go_roundw
                    case rel => exact ⟨Z + 1, by go_num, by omega, hid (by rw [HE.out]; exact HJZ.out), HCZ⟩
                    case measure => simp only [intOf]; omega
                  | true =>
                    have T : (((Z : Int) * (Z : Int) - (a * (X : Int) * (X : Int) + b * (Y : Int) * (Y : Int))).tmod (m : Int) != 0) = false := by show (!(_ == (0 : Int))) = false; rw [hsol, hs]; rfl
                    clear hsol
                    cases hdz : (Z % P == 0) with
                    | false =>
                      rw [hdz] at hbz
                      have hh : hitB a b P m X Y Z = true := by unfold hitB; rw [hs, show (Z % P != 0) = true from by show (!(Z % P == 0)) = true; rw [hdz]; rfl, Bool.or_true, Bool.or_true]; rfl
                      have HP := hid (trip_pre hXm hYm hZm hh)
                      have HE : Hid (tzL a b P m X Y (Z + 1) = tzL a b P m X Y Z ++ [(X, Y, Z)]) := hid (by
                        show tzL a b P m X Y Z ++ (if hitB a b P m X Y Z then [(X, Y, Z)] else []) = _
                        rw [hh, if_pos rfl])
                      have hlen := HP.out.length_le
                      rw [List.length_append, List.length_singleton] at hlen
                      obtain ⟨fn, tmps, assign, body, hy, hR⟩ := HYY.out (txL a b P m X ++ tyL a b P m X Y ++ tzL a b P m X Y Z) (X, Y, Z) wZ HJZ.out (show X ≤ 32 by omega) (show Y ≤ 32 by omega) (show Z ≤ 32 by omega) (by omega)
                      dsimp only [enc3] at hy
                      clear hlen hh hs hdz
                      gi_wp2
                      refine ⟨wide_depth n, hR.mono ?_⟩
                      rintro e W' (⟨rfl, hJ', hK⟩ | ⟨rfl, hJx'⟩)
                      · gi_wp2
                        go_roundw
                        case rel => exact ⟨Z + 1, by go_num, by omega, hid (by rw [HE.out, ← List.append_assoc]; exact hJ'), hid (HCZ.out.keep hK)⟩
                        case measure => simp only [intOf]; omega
                      · gi_wp2
                        refine bodyPost_ret (results_none rfl _ _ _) rfl ?_
                        exact ⟨⟨_, rfl⟩, .inr ⟨_, HP.out, hJx'⟩⟩
                    | true =>
                      rw [hdz] at hbz
                      have HE : Hid (tzL a b P m X Y (Z + 1) = tzL a b P m X Y Z) := hid (by
                        show tzL a b P m X Y Z ++ (if hitB a b P m X Y Z then [(X, Y, Z)] else []) = _
                        rw [show hitB a b P m X Y Z = false from by unfold hitB; rw [show (X % P != 0) = false from by show (!(X % P == 0)) = false; rw [hdx]; rfl, show (Y % P != 0) = false from by show (!(Y % P == 0)) = false; rw [hdy]; rfl, show (Z % P != 0) = false from by show (!(Z % P == 0)) = false; rw [hdz]; rfl]; rfl, if_neg (by decide), List.append_nil])
                      clear hs hdz
                      gi_wp2
                      go_roundw
                      case rel => exact ⟨Z + 1, by go_num, by omega, hid (by rw [HE.out]; exact HJZ.out), HCZ⟩
                      case measure => simp only [intOf]; omega
                · have e : Z = m := by omega
                  have HJm : Hid (J (txL a b P m X ++ tyL a b P m X (Y + 1)) wZ) := hid (by
                    have h := HJZ.out
                    rw [e, List.append_assoc] at h
                    exact h)
                  clear e
                  gi_wp2
                  go_roundw
                  case rel => exact ⟨Y + 1, by go_num, by omega, HJm, HCZ⟩
                  case measure => simp only [intOf]; omega
        · have e : Y = m := by omega
          have HJm : Hid (J (txL a b P m (X + 1)) wY) := hid (by
            have h := HJY.out
            rw [e] at h
            exact h)
          clear e
          gi_wp2
          go_roundw
          case rel => exact ⟨X + 1, by go_num, by omega, HJm, HCY⟩
          case measure => simp only [intOf]; omega
    · have e : X = m := by omega
      have HF : J (tripL a b P m) wX := by
        have h := HJX.out
        rw [e] at h
        exact h
      clear e
      gi_wp2
      go_end0
      first | exact ⟨⟨_, rfl⟩, .inl ⟨_, rfl, HF⟩⟩ | exact ⟨⟨_, rfl⟩, .inl HF⟩

theorem trip_stops (n B : Nat) (a b : Int) (P m : Nat) (a1 : -5000 ≤ a) (a2 : a ≤ 5000) (b1 : -5000 ≤ b) (b2 : b ≤ 5000) (hP1 : 2 ≤ P) (hP2 : P ≤ 5000) (hm1 : 1 ≤ m) (hm2 : m ≤ 32) (w : World) (hBn : B + 3 < w.heap.size) (hc : Capt B a b P m w) :
    SeqStopsK Fence.wide n Try.prog 98 #[.pointer (some ⟨B + 3, 0, none⟩), .pointer (some ⟨B, 0, none⟩), .pointer (some ⟨B + 1, 0, none⟩), .pointer (some ⟨B + 2, 0, none⟩)] (fun (x : T3) => enc3 x.1) (KpC B) (fun ys => ys.map (·.1) = tripL a b P m) (fun pre => pre.map (·.1) <+: tripL a b P m) (tripL a b P m).length w := fun l J Jx W hW _ _ hY hJ0 => by
  refine (trip_in n l B a b P m a1 a2 b1 b2 hP1 hP2 hm1 hm2 (fun pre W => ∃ q : List T3, q.map (·.1) = pre ∧ J q W) (fun pre W => ∃ q : List T3, q.map (·.1) = pre ∧ Jx q W) ?_ W (hc.keep (fun k h1 h2 => hW.block k (by omega))) ⟨[], rfl, hJ0⟩).mono ?_
  · rintro pre x W1 ⟨q, rfl, hq⟩ h1 h2 h3 hl
    obtain ⟨fn, tmps, assign, body, hy, hR⟩ := hY q ⟨x, h1, h2, h3⟩ W1 hq (by simpa using hl)
    refine ⟨fn, tmps, assign, body, hy, hR.mono ?_⟩
    rintro e w' (⟨he, hj, hk⟩ | ⟨he, hj⟩)
    · exact .inl ⟨he, ⟨_, by simp, hj⟩, hk⟩
    · exact .inr ⟨he, ⟨_, by simp, hj⟩⟩
  · rintro e W' ⟨hv, ⟨ys, hys, q, hq, hj⟩ | ⟨pre, hpre, q, hq, hj⟩⟩
    · exact ⟨hv, .inl ⟨q, hq.trans hys, hj⟩⟩
    · exact ⟨hv, .inr ⟨q, by rw [← hq] at hpre; exact hpre, hj⟩⟩

end Go.Proofs.Ytdidmblkknnglaa

set_option linter.unusedVariables false
namespace Go.Proofs.Ytdidmblkknnglaa
open Go.RowKit Go.Shelf
attribute [local go_sem] Oper.semAt_some

def pw32 (P : Nat) (k : Int) : Bool := decide (1 ≤ k) && decide (P ^ k.toNat ≤ 32)
theorem pow6 {P i : Nat} (hP : 2 ≤ P) (h : P ^ i ≤ 32) : i ≤ 6 := by
  rcases Nat.lt_or_ge 6 i with hi | hi
  · have h1 : 2 ^ 7 ≤ P ^ 7 := Nat.pow_le_pow_left hP 7
    have h2 : P ^ 7 ≤ P ^ i := Nat.pow_le_pow_right (by omega) hi
    omega
  · exact hi
theorem powerWithin32_any (P : Nat) (k : Int) (hP : 2 ≤ P) (hP5 : P ≤ 5000) (w : World) :
    Calls Try.prog 73 #[.int .i64 P, .int .i64 k, .int .i64 32] w fun e w' => (∃ x : Int, e = .returned (.tuple #[.int .i64 x, .bool (pw32 P k)]) ∧ (pw32 P k = true → x = ((P ^ k.toNat : Nat) : Int))) ∧ w = w' := by
  by_cases hk : 1 ≤ k
  · obtain ⟨K, rfl⟩ := Int.eq_ofNat_of_zero_le (show 0 ≤ k by omega)
    have HO : Hid (pw32 P (K : Int) = decide (P ^ K ≤ 32)) := hid (by unfold pw32; rw [decide_eq_true hk, Int.toNat_natCast, Bool.true_and])
    go_enter Try.func73, Try.ntmps73
    go_wp2_with fail
    go_loop [8, 10] (fun sp si => ∃ i A : Nat, si = .int .i64 i ∧ sp = .int .i64 A ∧ A ≤ 32 ∧ i ≤ 6 ∧ i ≤ K ∧ Hid (A = P ^ i)) (fun _ si => 7 - (intOf si).toNat)
    case atStart => exact ⟨0, 1, rfl, rfl, by omega, by omega, by omega, hid rfl⟩
    case round =>
      obtain ⟨i, A, rfl, rfl, hA, hi12, hiK, HA⟩ := hrel
      by_cases hlt : i < K
      · have hi0 : (i : Int) < (K : Int) := by omega
        have hAP := Nat.mul_le_mul hA hP5
        have eAP : (A : Int) * (P : Int) = ((A * P : Nat) : Int) := by push_cast; rfl
        have ap1 : 0 ≤ (A : Int) * (P : Int) := by rw [eAP]; omega
        have ap2 : (A : Int) * (P : Int) ≤ 25000000 := by rw [eAP]; omega
        have HS : Hid (A * P = P ^ (i + 1)) := hid (by rw [HA.out, Nat.pow_succ])
        have HE := hid eAP
        by_cases hle : A * P ≤ 32
        · have h12 := pow6 (i := i + 1) hP (by rw [← HS.out]; exact hle)
          have hng : ¬ (32 : Int) < (A : Int) * (P : Int) := by rw [eAP]; omega
          clear eAP
          go_wp2_with fail
          go_round
          case measure => simp only [intOf]; omega
          case rel => exact ⟨i + 1, A * P, by go_num, vI HE.out, hle, by omega, by omega, HS⟩
        · have hg : (32 : Int) < (A : Int) * (P : Int) := by rw [eAP]; omega
          have HN : Hid (pw32 P (K : Int) = false) := hid (by
            rw [HO.out]
            refine decide_eq_false fun h => hle ?_
            rw [HS.out]
            exact Nat.le_trans (Nat.pow_le_pow_right (by omega) hlt) h)
          clear eAP
          go_wp2_with fail
          go_ret2
          rw [HN.out]
          exact ⟨⟨0, rfl, fun h => by cases h⟩, rfl⟩
      · obtain rfl : i = K := by omega
        have HY : Hid (pw32 P (i : Int) = true) := hid (by rw [HO.out, ← HA.out]; exact decide_eq_true hA)
        clear hlt
        go_wp2_with fail
        go_ret2
        rw [HY.out]
        exact ⟨⟨A, rfl, fun _ => by rw [HA.out]; simp⟩, rfl⟩
  · have HN : Hid (pw32 P k = false) := hid (by unfold pw32; rw [decide_eq_false hk, Bool.false_and])
    have hk0 : ¬ (0 : Int) < k := by omega
    go_enter Try.func73, Try.ntmps73
    go_wp2_with fail
    go_loop [8, 10] (fun sp si => sp = .int .i64 1 ∧ si = .int .i64 0) (fun _ _ => 0)
    case atStart => exact ⟨rfl, rfl⟩
    case round =>
      obtain ⟨rfl, rfl⟩ := hrel
      go_wp2_with fail
      go_ret2
      rw [HN.out]
      refine ⟨⟨1, ?_, fun h => by cases h⟩, rfl⟩
      show Ending.returned (.tuple #[.int .i64 1, .bool (decide (1 ≤ k))]) = _
      rw [decide_eq_false (show ¬ 1 ≤ k by omega)]

theorem pw32_ok {a b : Int} {P : Nat} {k : Int} (O : okAB a b = true) (hP : primeN P = true) : smodV a b (P : Int) k = (pw32 P k && anyHit a b P (P ^ k.toNat)) := by
  have hp := primeN_bd hP
  have hm : modOk a b (P : Int) k = (decide (P ≤ 31) && inR k 1 5) := by
    unfold modOk
    rw [O, show primeI (P : Int) = true from hP, Bool.true_and, Bool.true_and]
    congr 1
    rw [Bool.eq_iff_iff, decide_eq_true_eq, decide_eq_true_eq]
    omega
  unfold smodV
  rw [hm, Int.toNat_natCast]
  cases h : pw32 P k with
  | true =>
    unfold pw32 at h
    rw [Bool.and_eq_true, decide_eq_true_eq, decide_eq_true_eq] at h
    obtain ⟨h1, h2⟩ := h
    have h3 : P ^ 1 ≤ P ^ k.toNat := Nat.pow_le_pow_right (by omega) (by omega)
    rw [Nat.pow_one] at h3
    have h4 : P ≠ 32 := by rintro rfl; revert hP; decide
    have h5 : k ≤ 5 := by
      refine Classical.byContradiction fun hc => ?_
      have g1 : 2 ^ 6 ≤ P ^ 6 := Nat.pow_le_pow_left hp.1 6
      have g2 : P ^ 6 ≤ P ^ k.toNat := Nat.pow_le_pow_right (by omega) (by omega)
      omega
    rw [decide_eq_true (show P ≤ 31 by omega), show inR k 1 5 = true from by unfold inR; rw [decide_eq_true h1, decide_eq_true h5]; rfl, decide_eq_true h2]
    rfl
  | false =>
    rw [Bool.false_and]
    unfold pw32 at h
    by_cases h1 : 1 ≤ k
    · rw [decide_eq_true h1, Bool.true_and] at h
      rw [h, Bool.false_and, Bool.and_false]
    · have : inR k 1 5 = false := by unfold inR; rw [decide_eq_false h1, Bool.false_and]
      rw [this, Bool.and_false, Bool.false_and]
theorem trip_hit {a b : Int} {P m : Nat} : (∃ x, x ∈ tripL a b P m) → anyHit a b P m = true := by
  rintro ⟨x, hx⟩
  have hz : ∀ X Y n, x ∈ tzL a b P m X Y n → X < m → Y < m → n ≤ m → anyHit a b P m = true := by
    intro X Y n
    induction n with
    | zero => intro h; cases h
    | succ n ih =>
      intro h hX hY hn
      unfold tzL at h
      rcases List.mem_append.1 h with h | h
      · exact ih h hX hY (by omega)
      · by_cases hh : hitB a b P m X Y n = true
        · exact anyHit_yes hX hY (by omega) hh
        · rw [if_neg hh] at h; cases h
  have hy : ∀ X n, x ∈ tyL a b P m X n → X < m → n ≤ m → anyHit a b P m = true := by
    intro X n
    induction n with
    | zero => intro h; cases h
    | succ n ih =>
      intro h hX hn
      unfold tyL at h
      rcases List.mem_append.1 h with h | h
      · exact ih h hX (by omega)
      · exact hz X n m h hX (by omega) (Nat.le_refl _)
  have hx2 : ∀ n, x ∈ txL a b P m n → n ≤ m → anyHit a b P m = true := by
    intro n
    induction n with
    | zero => intro h; cases h
    | succ n ih =>
      intro h hn
      unfold txL at h
      rcases List.mem_append.1 h with h | h
      · exact ih h (by omega)
      · exact hy n m h (by omega) (Nat.le_refl _)
  exact hx2 m hx (Nat.le_refl _)
theorem trip_none {a b : Int} {P m : Nat} (h : tripL a b P m = []) : anyHit a b P m = false := by
  cases hh : anyHit a b P m with
  | false => rfl
  | true =>
    obtain ⟨x, hx, h1⟩ := List.any_eq_true.1 hh
    obtain ⟨y, hy, h2⟩ := List.any_eq_true.1 h1
    obtain ⟨z, hz, h3⟩ := List.any_eq_true.1 h2
    have := (trip_pre (List.mem_range.1 hx) (List.mem_range.1 hy) (List.mem_range.1 hz) h3).length_le
    rw [h, List.length_append] at this
    simp at this
theorem kpC_b {B : Nat} {w : World} (hn : B + 4 ≤ w.heap.size) (W : World) (l : Nat) (o o' : Obj) (hl : w.heap.size ≤ l) (h : W.heap[l]? = some o) (h1 : o.isCells = false) (h2 : o.isWalk = false) : KpC B W (W.putObj l o') :=
  fun k _ hk => (belowK_b (n₀ := B + 4) hn W l o o' hl h h1 h2).block k hk
theorem boxed_low {W W' : World} {B : Nat} {t : TypeId} {v : Value} (h : Boxed W B t v) (hb : Below W.heap.size W W') : Boxed W' B t v := (hb.block B h.lt).trans h
theorem boxed_putObj {W : World} {B D : Nat} {t : TypeId} {v : Value} {o : Obj} (h : Boxed W B t v) (hD : D ≠ B) : Boxed (W.putObj D o) B t v := by
  unfold Boxed at *
  rw [← h]
  simp [World.putObj, hD]
theorem capt_new (a b : Int) (P m : Nat) (w : World) : Capt w.heap.size a b P m ((((w.alloc (.cells #[.int .i64 a] 3)).alloc (.cells #[.int .i64 b] 3)).alloc (.cells #[.int .i64 P] 3)).alloc (.cells #[.int .i64 m] 3)) := by
  have c1 := (((Boxed.new w 3 (.int .i64 a)).alloc (.cells #[.int .i64 b] 3)).alloc (.cells #[.int .i64 P] 3)).alloc (.cells #[.int .i64 m] 3)
  have c2 := ((Boxed.new (w.alloc (.cells #[.int .i64 a] 3)) 3 (.int .i64 b)).alloc (.cells #[.int .i64 P] 3)).alloc (.cells #[.int .i64 m] 3)
  have c3 := (Boxed.new ((w.alloc (.cells #[.int .i64 a] 3)).alloc (.cells #[.int .i64 b] 3)) 3 (.int .i64 P)).alloc (.cells #[.int .i64 m] 3)
  have c4 := Boxed.new (((w.alloc (.cells #[.int .i64 a] 3)).alloc (.cells #[.int .i64 b] 3)).alloc (.cells #[.int .i64 P] 3)) 3 (.int .i64 m)
  simp only [World.size_alloc] at c2 c3 c4
  exact ⟨c1, c2, c3, c4⟩
theorem below_four {n : Nat} {w0 w : World} (h : Below n w0 w) (hn : n ≤ w.heap.size) (o1 o2 o3 o4 : Obj) : Below n w0 ((((w.alloc o1).alloc o2).alloc o3).alloc o4) :=
  (((h.alloc hn _).alloc (by simp; omega) _).alloc (by simp; omega) _).alloc (by simp; omega) _
theorem boxed_four {w : World} {B : Nat} {t : TypeId} {v : Value} (h : Boxed w B t v) (o1 o2 o3 o4 : Obj) : Boxed ((((w.alloc o1).alloc o2).alloc o3).alloc o4) B t v := (((h.alloc o1).alloc o2).alloc o3).alloc o4

set_option maxRecDepth 100000 in
set_option maxHeartbeats 2000000 in
theorem symbolModulo_main (a b : Int) (P m : Nat) (k : Int) (hA : factB a = true) (hBB : factB b = true) (hP : primeN P = true) (hW : pw32 P k = true) (hm : m = P ^ k.toNat) (w : World) :
    Calls Try.prog 35 #[.int .i64 a, .int .i64 b, .int .i64 P, .int .i64 k] w fun e w' => e = .returned (.bool (anyHit a b P m)) ∧ Below w.heap.size w w' := by
  obtain ⟨a0, a1, a2⟩ := factB_bd hA
  obtain ⟨b0, b1, b2⟩ := factB_bd hBB
  have hp2 := (primeN_bd hP).1
  have hp5 := (primeN_bd hP).2.1
  have hm32 : m ≤ 32 := by
    unfold pw32 at hW
    rw [Bool.and_eq_true, decide_eq_true_eq, decide_eq_true_eq] at hW
    rw [hm]; exact hW.2
  have hm1 : 1 ≤ m := by rw [hm]; exact Nat.pow_pos (by omega)
  have HA := hid hA
  have HBB := hid hBB
  have HPR : Hid (primeI (P : Int) = true) := hid hP
  have HPW := hid hW
  have HM := hid hm
  have bR := Boxed.new w 4 (.bool false)
  have cR := bR.cell
  have HB1 := hid ((Below.refl w.heap.size w).alloc (Nat.le_refl _) (.cells #[.bool false] 4))
  clear a0 b0 hA hBB hP hW hm
  refine (callsIn_wide (n := 5)).1 ?_
  refine callsIn_of_wp_marks Try.func35 rfl trivial ?_ rfl
  simp only [Try.ntmps35, List.size_toArray, List.length_cons, List.length_nil, Nat.reduceAdd, Nat.reduceSub, Array.replicate_succ, Array.replicate_zero, List.push_toArray, List.append_toArray, List.nil_append, List.cons_append]
  gi_wp2_with (first | (refine ⟨trivial, ?_⟩; gi_at_call 55; refine (callsIn_wide.2 (factored_any _ _)).mono ?_; (first | rw [HA.out] | rw [HBB.out]); rintro e w' ⟨rfl, rfl⟩) | (refine ⟨trivial, ?_⟩; gi_at_call 72; refine (callsIn_wide.2 (prime_any _ _)).mono ?_; rw [HPR.out]; rintro e w2 ⟨rfl, hb2⟩))
  refine ⟨trivial, ?_⟩
  gi_at_call 73
  refine (callsIn_wide.2 (powerWithin32_any P k hp2 hp5 _)).mono ?_
  rw [HPW.out]
  rintro e w' ⟨⟨xw, rfl, hxw⟩, rfl⟩
  have hxm : xw = (m : Int) := by rw [hxw rfl, HM.out]
  subst hxm
  clear hxw
  gi_wp2_with fail
  refine ⟨trivial, ?_⟩
  gi_at_call 74
  refine (callsIn_wide.2 (solved_make a b P m _)).mono ?_
  rintro e w' ⟨rfl, rfl⟩
  have hs2 := hb2.size
  rw [World.size_alloc] at hs2
  have HB2 := hid (HB1.out.trans (hb2.mono (by simp)))
  have bR2 := boxed_four (boxed_low bR hb2) (.cells #[.int .i64 a] 3) (.cells #[.int .i64 b] 3) (.cells #[.int .i64 P] 3) (.cells #[.int .i64 m] 3)
  have HC := capt_new a b P m w2
  have HB4 := below_four HB2.out (by omega) (.cells #[.int .i64 a] 3) (.cells #[.int .i64 b] 3) (.cells #[.int .i64 P] 3) (.cells #[.int .i64 m] 3)
  clear hb2 bR cR
  gi_wp2_with fail
  refine wpIn_rangeFunc_ownF rfl (by omega) (gf := 98) (lb := #[.pointer (some ⟨w2.heap.size + 3, 0, none⟩), .pointer (some ⟨w2.heap.size, 0, none⟩), .pointer (some ⟨w2.heap.size + 1, 0, none⟩), .pointer (some ⟨w2.heap.size + 2, 0, none⟩)]) rfl trivial (enters_of Try.func98 (by kernel_rfl) rfl)
    (trip_stops _ w2.heap.size a b P m a1 a2 b1 b2 hp2 hp5 hm1 hm32 _ (by simp) HC) KpC.trans (kpC_b (by simp)) (Below.refl _ _) (fun _ => rfl)
    (fun pre W => (pre = [] ∧ Boxed W w.heap.size 4 (.bool false)) ∧ Below w.heap.size w W)
    (fun c pre W => (c = .ret ∧ ∃ x : T3, pre = [x] ∧ Boxed W w.heap.size 4 (.bool true)) ∧ Below w.heap.size w W)
    (OwnFrom.and (OwnFrom.and (ownFrom_pure _ _) (Own.from (boxed_own _ _ (fun _ => .bool false)) _)) (ownFrom_below (Nat.le_refl _) (by simp; omega)))
    (fun c => OwnFrom.and (fun s A B row hs hg hr => by obtain ⟨hc, x, hx, hb⟩ := hs; exact ⟨hc, x, hx, (Own.from (boxed_own _ _ (fun _ : Unit => Value.bool true)) _) () A B row hb hg hr⟩) (ownFrom_below (Nat.le_refl _) (by simp; omega)))
    ⟨⟨rfl, bR2⟩, HB4⟩ ?a1 ?assign ?body ?done ?stop
  case assign =>
    intro l x W K hK
    gi_wp2
    exact hK
  case body =>
    rintro l pre x W ⟨⟨rfl, hb⟩, hB⟩ _
    have hc := hb.cell
    have hf := hb.frozen
    gi_wp2
    exact ⟨KeepsOthers.setCell _ _ _, ⟨rfl, x, rfl, hb.set _⟩, hB.setCell (p := ⟨w.heap.size, 0, none⟩) (Nat.le_refl _) _⟩
  case done =>
    rintro D ys W hD hS ⟨⟨h, hb⟩, hB⟩ hK
    have hc := hb.cell
    have hf := hb.frozen
    have hn := hid (trip_none (a := a) (b := b) (P := P) (m := m) (by rw [h] at hS; exact hS.symm))
    have hset := hb.set (.bool false)
    have hB2 := hB.setCell (p := ⟨w.heap.size, 0, none⟩) (Nat.le_refl _) (.bool false)
    gi_wp2
    have hD2 : D ≠ w.heap.size := by simp at hD; omega
    have hK2 := (KeepsOthers.setCell W ⟨w.heap.size, 0, none⟩ (.bool false)).same D _ hK rfl
    refine ⟨by simp, .inl ⟨_, _, rfl, run_takeDeferred hK2, ?_⟩⟩
    have hfc : ∀ o, ((W.setCell ⟨w.heap.size, 0, none⟩ (.bool false)).putObj D o).cell? ⟨w.heap.size, 0, none⟩ = some (.bool false) := fun o => (boxed_putObj hset hD2).cell
    refine ⟨.bool false, by simp [results, Try.results35, go_sem, hfc] <;> go_simp, ?_⟩
    exact ⟨retB hn.out.symm, hB2.trans (belowK_b (w := w) (Nat.le_refl _) _ D _ _ (by simp at hD; omega) hK2 rfl rfl)⟩
  case stop =>
    rintro D c pre W hD hSp ⟨⟨rfl, x, rfl, hb⟩, hB⟩ hK
    have hc := hb.cell
    have hn : Hid (anyHit a b P m = true) := hid (trip_hit ⟨x.1, by have := hSp.subset (List.mem_cons_self ..); exact this⟩)
    gi_wp2
    have hD2 : D ≠ w.heap.size := by simp at hD; omega
    refine ⟨by simp, .inl ⟨_, _, rfl, run_takeDeferred hK, ?_⟩⟩
    have hfc : ∀ o, (W.putObj D o).cell? ⟨w.heap.size, 0, none⟩ = some (.bool true) := fun o => (boxed_putObj hb hD2).cell
    refine ⟨.bool true, by simp [results, Try.results35, go_sem, hfc] <;> go_simp, ?_⟩
    exact ⟨retB hn.out.symm, hB.trans (belowK_b (w := w) (Nat.le_refl _) W D _ _ (by simp at hD; omega) hK rfl rfl)⟩

set_option maxRecDepth 100000 in
set_option maxHeartbeats 1000000 in
theorem symbolModulo_any (a b p k : Int) (w : World) :
    Calls Try.prog 35 #[.int .i64 a, .int .i64 b, .int .i64 p, .int .i64 k] w fun e w' => e = .returned (.bool (smodV a b p k)) ∧ Below w.heap.size w w' := by
  have bR := Boxed.new w 4 (.bool false)
  have cR := bR.cell
  have fR := bR.frozen
  have HB1 := hid ((Below.refl w.heap.size w).alloc (Nat.le_refl _) (.cells #[.bool false] 4))
  cases hA : factB a with
  | false =>
    have HP := hid (smodV_no (p := p) (k := k) (show modOk a b p k = false by unfold modOk okAB; rw [hA]; rfl))
    have HA := hid hA
    clear hA
    go_enter Try.func35, Try.ntmps35
    go_wp2_with (go_at_call 55; refine (factored_any _ _).mono ?_; rw [HA.out]; rintro e w' ⟨rfl, rfl⟩)
    have cS := (bR.set (.bool false)).cell
    refine bodyPost_ret (v := .bool false) (by simp [results, Try.results35, go_sem] <;> go_simp) rfl ?_
    exact ⟨retB HP.out.symm, by first | exact HB1.out | exact HB1.out.setCell (p := ⟨w.heap.size, 0, none⟩) (Nat.le_refl _) _⟩
  | true =>
    cases hBB : factB b with
    | false =>
      have HP := hid (smodV_no (p := p) (k := k) (show modOk a b p k = false by unfold modOk okAB; rw [hA, hBB]; rfl))
      have HA := hid hA
      have HBB := hid hBB
      clear hA hBB
      go_enter Try.func35, Try.ntmps35
      go_wp2_with (go_at_call 55; refine (factored_any _ _).mono ?_; (first | rw [HA.out] | rw [HBB.out]); rintro e w' ⟨rfl, rfl⟩)
      have cS := (bR.set (.bool false)).cell
      refine bodyPost_ret (v := .bool false) (by simp [results, Try.results35, go_sem] <;> go_simp) rfl ?_
      exact ⟨retB HP.out.symm, by first | exact HB1.out | exact HB1.out.setCell (p := ⟨w.heap.size, 0, none⟩) (Nat.le_refl _) _⟩
    | true =>
      have O : okAB a b = true := by unfold okAB; rw [hA, hBB]; rfl
      cases hPR : primeI p with
      | false =>
        have HP := hid (smodV_no (p := p) (k := k) (show modOk a b p k = false by unfold modOk; rw [hPR, Bool.false_and, Bool.and_false]))
        have HA := hid hA
        have HBB := hid hBB
        have HPR := hid hPR
        clear hA hBB hPR O
        go_enter Try.func35, Try.ntmps35
        go_wp2_with (first | (go_at_call 55; refine (factored_any _ _).mono ?_; (first | rw [HA.out] | rw [HBB.out]); rintro e w' ⟨rfl, rfl⟩) | (go_at_call 72; refine (prime_any _ _).mono ?_; rw [HPR.out]; rintro e w2 ⟨rfl, hb2⟩; have bR2 := boxed_low bR hb2; have cR2 := bR2.cell; have fR2 := bR2.frozen))
        have cS := (bR2.set (.bool false)).cell
        refine bodyPost_ret (v := .bool false) (by simp [results, Try.results35, go_sem] <;> go_simp) rfl ?_
        exact ⟨retB HP.out.symm, by first | exact (HB1.out.trans (hb2.mono (by simp))) | exact (HB1.out.trans (hb2.mono (by simp))).setCell (p := ⟨w.heap.size, 0, none⟩) (Nat.le_refl _) _⟩
      | true =>
        have hp2 := (primeI_bd hPR).1
        obtain ⟨P, rfl⟩ := Int.eq_ofNat_of_zero_le (show 0 ≤ p by omega)
        have hP : primeN P = true := hPR
        have hpp2 := (primeN_bd hP).1
        have hpp5 := (primeN_bd hP).2.1
        cases hW : pw32 P k with
        | true =>
          refine (symbolModulo_main a b P _ k hA hBB hP hW rfl w).mono ?_
          rintro e w' ⟨rfl, hb⟩
          exact ⟨retB (by rw [pw32_ok O hP, hW, Bool.true_and]), hb⟩
        | false =>
          have HP : Hid (smodV a b (P : Int) k = false) := hid (by rw [pw32_ok O hP, hW, Bool.false_and])
          have HA := hid hA
          have HBB := hid hBB
          have HPR := hid hPR
          have HW := hid hW
          clear hA hBB hPR O hP hW
          go_enter Try.func35, Try.ntmps35
          go_wp2_with (first | (go_at_call 55; refine (factored_any _ _).mono ?_; (first | rw [HA.out] | rw [HBB.out]); rintro e w' ⟨rfl, rfl⟩) | (go_at_call 72; refine (prime_any _ _).mono ?_; rw [HPR.out]; rintro e w2 ⟨rfl, hb2⟩; have bR2 := boxed_low bR hb2; have cR2 := bR2.cell; have fR2 := bR2.frozen) | (go_at_call 73; refine (powerWithin32_any P k hpp2 hpp5 _).mono ?_; rw [HW.out]; rintro e w' ⟨⟨xw, rfl, hxw⟩, rfl⟩))
          have cS := (bR2.set (.bool false)).cell
          refine bodyPost_ret (v := .bool false) (by simp [results, Try.results35, go_sem] <;> go_simp) rfl ?_
          exact ⟨retB HP.out.symm, by first | exact (HB1.out.trans (hb2.mono (by simp))) | exact (HB1.out.trans (hb2.mono (by simp))).setCell (p := ⟨w.heap.size, 0, none⟩) (Nat.le_refl _) _⟩

end Go.Proofs.Ytdidmblkknnglaa

set_option linter.unusedVariables false
namespace Go.Proofs.Ytdidmblkknnglaa
open Go.RowKit Go.Shelf
attribute [local go_sem] Oper.semAt_some

theorem hit_way {a b : Int} {P x y z : Nat} (hx : x < P) (hy : y < P) (hz : z < P) : hitB a b P P x y z = wayB a b P x y z := by
  unfold hitB wayB
  congr 1
  rw [Nat.mod_eq_of_lt hx, Nat.mod_eq_of_lt hy, Nat.mod_eq_of_lt hz, Bool.eq_iff_iff, Bool.or_eq_true, Bool.or_eq_true, bne_iff_ne, bne_iff_ne, bne_iff_ne, decide_eq_true_eq]
  omega
theorem tz_cnt {a b : Int} {P x y : Nat} (hx : x < P) (hy : y < P) : ∀ n, n ≤ P → (tzL a b P P x y n).length = cntZ a b P x y n
  | 0, _ => rfl
  | n + 1, h => by
    unfold tzL cntZ
    rw [List.length_append, tz_cnt hx hy n (by omega), hit_way hx hy (by omega)]
    split <;> rfl
theorem ty_cnt {a b : Int} {P x : Nat} (hx : x < P) : ∀ n, n ≤ P → (tyL a b P P x n).length = cntY a b P x n
  | 0, _ => rfl
  | n + 1, h => by
    unfold tyL cntY
    rw [List.length_append, ty_cnt hx n (by omega), tz_cnt hx (by omega) P (Nat.le_refl _)]
theorem tx_cnt {a b : Int} {P : Nat} : ∀ n, n ≤ P → (txL a b P P n).length = cntX a b P n
  | 0, _ => rfl
  | n + 1, h => by
    unfold txL cntX
    rw [List.length_append, tx_cnt n (by omega), ty_cnt (by omega) P (Nat.le_refl _)]
theorem kpC_set {B C : Nat} (hC : C < B) (W : World) (v : Value) : KpC B W (W.setCell ⟨C, 0, none⟩ v) := fun k h1 _ => Below.heap_setCell _ _ _ k (fun e => by simp at e; omega)

set_option maxRecDepth 100000 in
set_option maxHeartbeats 2000000 in
theorem symbolWays_main (a b : Int) (P : Nat) (hA : factB a = true) (hBB : factB b = true) (hP : primeN P = true) (h31 : P ≤ 31) (w : World) :
    Calls Try.prog 39 #[.int .i64 a, .int .i64 b, .int .i64 P] w fun e w' => e = .returned (.int .i64 ((cntX a b P P : Nat) : Int)) ∧ Below w.heap.size w w' := by
  obtain ⟨a0, a1, a2⟩ := factB_bd hA
  obtain ⟨b0, b1, b2⟩ := factB_bd hBB
  have hp2 := (primeN_bd hP).1
  have hp5 := (primeN_bd hP).2.1
  have HA := hid hA
  have HBB := hid hBB
  have HPR : Hid (primeI (P : Int) = true) := hid hP
  have HL := hid (tx_cnt (a := a) (b := b) (P := P) P (Nat.le_refl _))
  have hlen := trip_len (a := a) (b := b) (P := P) (m := P) (by omega)
  obtain ⟨T, hT⟩ : ∃ T, T = tripL a b P P := ⟨_, rfl⟩
  rw [← hT] at hlen
  have HT := hid hT
  clear a0 b0 hA hBB hP hT
  refine (callsIn_wide (n := 5)).1 ?_
  refine callsIn_of_wp_marks Try.func39 rfl trivial ?_ rfl
  simp only [Try.ntmps39, List.size_toArray, List.length_cons, List.length_nil, Nat.reduceAdd, Nat.reduceSub, Array.replicate_succ, Array.replicate_zero, List.push_toArray, List.append_toArray, List.nil_append, List.cons_append]
  gi_wp2_with (first | (refine ⟨trivial, ?_⟩; gi_at_call 55; refine (callsIn_wide.2 (factored_any _ _)).mono ?_; (first | rw [HA.out] | rw [HBB.out]); rintro e w' ⟨rfl, rfl⟩) | (refine ⟨trivial, ?_⟩; gi_at_call 72; refine (callsIn_wide.2 (prime_any _ _)).mono ?_; rw [HPR.out]; rintro e w2 ⟨rfl, hb2⟩; have bR := Boxed.new w2 3 (.int .i64 0); have cR := bR.cell; have fR := bR.frozen))
  refine ⟨trivial, ?_⟩
  gi_at_call 74
  refine (callsIn_wide.2 (solved_make a b P P _)).mono ?_
  rintro e w' ⟨rfl, rfl⟩
  simp only [World.size_alloc]
  have HB2 := hid (hb2.alloc hb2.size (.cells #[.int .i64 0] 3))
  have hs2 := hb2.size
  have bR2 := boxed_four bR (.cells #[.int .i64 a] 3) (.cells #[.int .i64 b] 3) (.cells #[.int .i64 P] 3) (.cells #[.int .i64 P] 3)
  have HC := capt_new a b P P (w2.alloc (.cells #[.int .i64 0] 3))
  have HB4 := below_four HB2.out (by simp; omega) (.cells #[.int .i64 a] 3) (.cells #[.int .i64 b] 3) (.cells #[.int .i64 P] 3) (.cells #[.int .i64 P] 3)
  simp only [World.size_alloc] at HC
  clear hb2 bR cR fR
  gi_wp2_with fail
  refine wpIn_rangeFunc_ownF rfl (by omega) (gf := 98) (lb := #[.pointer (some ⟨w2.heap.size + 1 + 3, 0, none⟩), .pointer (some ⟨w2.heap.size + 1, 0, none⟩), .pointer (some ⟨w2.heap.size + 1 + 1, 0, none⟩), .pointer (some ⟨w2.heap.size + 1 + 2, 0, none⟩)]) rfl trivial (enters_of Try.func98 (by kernel_rfl) rfl)
    (trip_stops _ (w2.heap.size + 1) a b P P a1 a2 b1 b2 hp2 hp5 (by omega) (by omega) _ (by simp) HC) KpC.trans (kpC_b (by simp)) (Below.refl _ _) (fun _ => rfl)
    (fun (pre : List T3) W => Boxed W w2.heap.size 3 (.int .i64 (pre.length : Nat)) ∧ Below w.heap.size w W)
    (fun _ _ _ => False)
    (OwnFrom.and (Own.from (boxed_own _ _ (fun pre : List T3 => .int .i64 (pre.length : Nat))) _) (ownFrom_below (Nat.le_refl _) (by simp; omega)))
    (fun _ _ _ _ _ hs _ _ => hs)
    ⟨bR2, HB4⟩ ?a1 ?assign ?body ?done ?stop
  case assign =>
    intro l x W K hK
    gi_wp2
    exact hK
  case body =>
    rintro l pre x W ⟨hb, hB⟩ hlt
    have hlt2 : pre.length < 32768 := by have := HT.out; rw [← this] at hlt; omega
    have hc := hb.cell
    have hf := hb.frozen
    clear hlt
    gi_wp2
    exact ⟨KeepsOthers.setCell _ _ _, kpC_set (by omega) _ _, by rw [List.length_append, List.length_singleton, Int.natCast_add]; exact hb.set _, hB.setCell (p := ⟨w2.heap.size, 0, none⟩) hs2 _⟩
  case done =>
    rintro D ys W hD hS ⟨hb, hB⟩ hK
    have hc := hb.cell
    have hn : Hid (ys.length = cntX a b P P) := hid (by
      rw [← HL.out]
      have := congrArg List.length hS
      rw [List.length_map] at this
      exact this)
    gi_wp2
    refine ⟨by simp, .inl ⟨_, _, rfl, run_takeDeferred hK, ?_⟩⟩
    refine ⟨_, results_tmp rfl _ _ _, ?_⟩
    exact ⟨retI (by rw [hn.out]), hB.trans (belowK_b (w := w) (Nat.le_refl _) W D _ _ (by simp at hD; omega) hK rfl rfl)⟩
  case stop =>
    rintro D c pre W _ _ h _
    exact h.elim

set_option maxRecDepth 100000 in
set_option maxHeartbeats 1000000 in
theorem symbolWays_any (a b p : Int) (w : World) :
    Calls Try.prog 39 #[.int .i64 a, .int .i64 b, .int .i64 p] w fun e w' => e = .returned (.int .i64 (swayV a b p)) ∧ Below w.heap.size w w' := by
  cases hA : factB a with
  | false =>
    have HP := hid (swayV_no (show wayOk a b p = false by unfold wayOk okAB; rw [hA]; rfl))
    have HA := hid hA
    clear hA
    go_enter Try.func39, Try.ntmps39
    go_wp2_with (go_at_call 55; refine (factored_any _ _).mono ?_; rw [HA.out]; rintro e w' ⟨rfl, rfl⟩)
    go_ret
    exact ⟨retI HP.out.symm, Below.refl _ _⟩
  | true =>
    cases hBB : factB b with
    | false =>
      have HP := hid (swayV_no (show wayOk a b p = false by unfold wayOk okAB; rw [hA, hBB]; rfl))
      have HA := hid hA
      have HBB := hid hBB
      clear hA hBB
      go_enter Try.func39, Try.ntmps39
      go_wp2_with (go_at_call 55; refine (factored_any _ _).mono ?_; (first | rw [HA.out] | rw [HBB.out]); rintro e w' ⟨rfl, rfl⟩)
      go_ret
      exact ⟨retI HP.out.symm, Below.refl _ _⟩
    | true =>
      cases hPR : primeI p with
      | false =>
        have HP := hid (swayV_no (show wayOk a b p = false by unfold wayOk; rw [hPR, Bool.false_and, Bool.and_false]))
        have HA := hid hA
        have HBB := hid hBB
        have HPR := hid hPR
        clear hA hBB hPR
        go_enter Try.func39, Try.ntmps39
        go_wp2_with (first | (go_at_call 55; refine (factored_any _ _).mono ?_; (first | rw [HA.out] | rw [HBB.out]); rintro e w' ⟨rfl, rfl⟩) | (go_at_call 72; refine (prime_any _ _).mono ?_; rw [HPR.out]; rintro e w2 ⟨rfl, hb2⟩))
        go_ret
        exact ⟨retI HP.out.symm, hb2⟩
      | true =>
        by_cases h31 : p ≤ 31
        · have hp2 := (primeI_bd hPR).1
          obtain ⟨P, rfl⟩ := Int.eq_ofNat_of_zero_le (show 0 ≤ p by omega)
          refine (symbolWays_main a b P hA hBB hPR (by omega) w).mono ?_
          rintro e w' ⟨rfl, hb⟩
          refine ⟨retI ?_, hb⟩
          unfold swayV wayOk okAB
          rw [hA, hBB, hPR, decide_eq_true h31, Int.toNat_natCast]
          rfl
        · have HP := hid (swayV_no (show wayOk a b p = false by unfold wayOk; rw [decide_eq_false h31, Bool.and_false, Bool.and_false]))
          have HA := hid hA
          have HBB := hid hBB
          have HPR := hid hPR
          have hg : (31 : Int) < p := by omega
          clear hA hBB hPR
          go_enter Try.func39, Try.ntmps39
          go_wp2_with (first | (go_at_call 55; refine (factored_any _ _).mono ?_; (first | rw [HA.out] | rw [HBB.out]); rintro e w' ⟨rfl, rfl⟩) | (go_at_call 72; refine (prime_any _ _).mono ?_; rw [HPR.out]; rintro e w2 ⟨rfl, hb2⟩))
          go_ret
          exact ⟨retI HP.out.symm, hb2⟩

end Go.Proofs.Ytdidmblkknnglaa

namespace Go.Proofs.Ytdidmblkknnglaa.fnWays
open Go.ChangeShapes Go.WideShapes Go.ChangeAt Go.RowKit
open Go.ChangeMaps (open_string shut_string)
set_option linter.unusedVariables false
theorem ways_fin {a b p : Int} (hp : p = 2 ∨ p = 3 ∨ p = 5 ∨ p = 7 ∨ p = 11 ∨ p = 4 ∨ p = 37) : swayV a b p = -1 ∨ (p = 2 ∧ 1 ≤ swayV a b p) ∨ (p ≠ 2 ∧ p ≤ 11 ∧ 3 ≤ p ∧ 0 ≤ swayV a b p ∧ ((a % p = 0) ≠ (b % p = 0) ∨ swayV a b p = p * p - 1)) := by
  by_cases hk : wayOk a b p = true
  · right
    have e : swayV a b p = (cntX a b p.toNat p.toNat : Nat) := by unfold swayV; rw [if_pos hk]
    have odd : ∀ P : Nat, 3 ≤ P → p = (P : Int) → waysOk P = true → ((a % p = 0) ≠ (b % p = 0) ∨ swayV a b p = p * p - 1) := by
      rintro P h3 rfl h
      rcases ways_of (by omega) h a b with h | h
      · exact .inl h
      · right
        rw [e, Int.toNat_natCast, h]
        have := Nat.mul_le_mul h3 h3
        rw [Int.natCast_sub (by omega)]
        push_cast
        rfl
    have hnn : 0 ≤ swayV a b p := by rw [e]; exact Int.natCast_nonneg _
    rcases hp with rfl | rfl | rfl | rfl | rfl | rfl | rfl
    · left
      refine ⟨rfl, ?_⟩
      rw [e, show (2 : Int).toNat = 2 from rfl, cntX_mod]
      have h2 : ∀ n : Int, n % ((2 : Nat) : Int) = ((n % 2).toNat : Int) ∧ (n % 2).toNat < 2 := fun n => by
        rw [show ((2 : Nat) : Int) = 2 from rfl]; omega
      rw [(h2 a).1, (h2 b).1]
      have := List.all_eq_true.1 (List.all_eq_true.1 ways2 _ (List.mem_range.2 (h2 a).2)) _ (List.mem_range.2 (h2 b).2)
      have := of_decide_eq_true this
      omega
    · exact .inr ⟨by decide, by decide, by decide, hnn, odd 3 (by decide) rfl waysOk3⟩
    · exact .inr ⟨by decide, by decide, by decide, hnn, odd 5 (by decide) rfl waysOk5⟩
    · exact .inr ⟨by decide, by decide, by decide, hnn, odd 7 (by decide) rfl waysOk7⟩
    · exact .inr ⟨by decide, by decide, by decide, hnn, odd 11 (by decide) rfl waysOk11⟩
    · exfalso
      unfold wayOk at hk
      rw [show primeI 4 = false by decide] at hk
      simp at hk
    · exfalso
      unfold wayOk at hk
      simp at hk
  · left
    exact swayV_no (by cases h : wayOk a b p; (· rfl); (· exact absurd h hk))

theorem tmodz (a p : Int) : (a.tmod p == 0) = decide (a % p = 0) := by
  rw [Bool.eq_iff_iff, beq_iff_eq, decide_eq_true_eq]
  exact ⟨fun h => Int.emod_eq_zero_of_dvd (Int.dvd_of_tmod_eq_zero h), fun h => Int.tmod_eq_zero_of_dvd (Int.dvd_of_emod_eq_zero h)⟩

set_option maxRecDepth 100000 in
set_option maxHeartbeats 2000000 in
theorem walk  (a0 : Option Addr) (len0 cap0 : Nat) (z0 : List Int) (w : World) (w0 : IsRow .u8 w a0 len0 cap0 z0) :
    Calls Try.prog 10 #[.slice a0 len0 cap0] w fun e w' => e = .returned (.bool true) ∧ Below w.heap.size w w' := by
  have HC := hid (codeIn_of w0)
  clear w0
  by_cases hl : (1048576 : Int) < (len0 : Int)
  · go_enter Try.func10, Try.ntmps10
    go_wp2
    go_ret
    exact ⟨rfl, Below.refl _ _⟩
  · go_enter Try.func10, Try.ntmps10
    go_wp2_with fail
    refine (drawSymbolWays_any _ len0 _ HC.out).mono ?_
    rintro e w1 ⟨a, b, p, rfl, ⟨ha, hb0, hp⟩, hb⟩
    unfold smallI at ha
    unfold mildI at hb0
    have a1 := ha.1
    have a2 := ha.2
    have b1 := hb0.1
    have b2 := hb0.2
    have hw := ways_fin (a := a) (b := b) hp
    obtain ⟨s, hs⟩ : ∃ s, s = swayV a b p := ⟨_, rfl⟩
    rw [← hs] at hw
    have P : Hid (swayV a b p = s) := hid hs.symm
    clear hs ha hb0 hp
    rcases hw with rfl | ⟨rfl, h1⟩ | ⟨hp2, hp11, hp3, hn, hw⟩
    · skip
      go_wp2_with fail
      refine (symbolWays_any a b p _).mono ?_
      rw [P.out]
      rintro e w' ⟨rfl, hb1⟩
      have hB1 := hb.trans (hb1.mono hb.size)
      go_wp2_with fail
      refine (symbolWaysS_any a b p _).mono ?_
      rw [P.out]
      rintro e w' ⟨rfl, rfl⟩
      go_wp2
      go_ret
      exact ⟨rfl, hB1⟩
    · have hn0 : ¬ s < 0 := by omega
      go_wp2_with fail
      refine (symbolWays_any a b 2 _).mono ?_
      rw [P.out]
      rintro e w' ⟨rfl, hb1⟩
      have hB1 := hb.trans (hb1.mono hb.size)
      go_wp2_with fail
      refine (symbolWaysS_any a b 2 _).mono ?_
      rw [P.out]
      rintro e w' ⟨rfl, rfl⟩
      go_wp2
      all_goals (go_ret; exact ⟨rfl, hB1⟩)
    · have hn0 : ¬ s < 0 := by omega
      have hpe : (p == 2) = false := by rw [beq_eq_false_iff_ne]; exact hp2
      have hp0 : (p == 0) = false := by rw [beq_eq_false_iff_ne]; omega
      have pp1 : 0 ≤ p * p := Int.mul_nonneg (by omega) (by omega)
      have pp2 : p * p ≤ 11 * 11 := Int.le_trans (Int.mul_le_mul_of_nonneg_right hp11 (by omega)) (Int.mul_le_mul_of_nonneg_left hp11 (by omega))
      have pp3 : 3 * 3 ≤ p * p := Int.le_trans (Int.mul_le_mul_of_nonneg_right hp3 (by omega)) (Int.mul_le_mul_of_nonneg_left hp3 (by omega))
      have HW := hid hw
      have HTA := hid (tmodz a p)
      have HTB := hid (tmodz b p)
      clear hw
      cases ea : decide (a % p = 0) with
      | false =>
        cases eb : decide (b % p = 0) with
        | false =>
          have TA : (a.tmod p == 0) = false := by rw [HTA.out, ea]
          have TB : (b.tmod p == 0) = false := by rw [HTB.out, eb]
          have TS : (s == p * p - 1) = true := by
            rw [beq_iff_eq]
            rcases HW.out with h | h
            · exact absurd (propext ⟨fun h => absurd h (of_decide_eq_false ea), fun h => absurd h (of_decide_eq_false eb)⟩) h
            · exact h
          clear ea eb
          go_wp2_with fail
          refine (symbolWays_any a b p _).mono ?_
          rw [P.out]
          rintro e w' ⟨rfl, hb1⟩
          have hB1 := hb.trans (hb1.mono hb.size)
          go_wp2_with fail
          refine (symbolWaysS_any a b p _).mono ?_
          rw [P.out]
          rintro e w' ⟨rfl, rfl⟩
          go_wp2
          go_ret
          exact ⟨rfl, hB1⟩
        | true =>
          have TA : (a.tmod p == 0) = false := by rw [HTA.out, ea]
          have TB : (b.tmod p == 0) = true := by rw [HTB.out, eb]
          clear ea eb
          go_wp2_with fail
          refine (symbolWays_any a b p _).mono ?_
          rw [P.out]
          rintro e w' ⟨rfl, hb1⟩
          have hB1 := hb.trans (hb1.mono hb.size)
          go_wp2_with fail
          refine (symbolWaysS_any a b p _).mono ?_
          rw [P.out]
          rintro e w' ⟨rfl, rfl⟩
          go_wp2
          go_ret
          exact ⟨rfl, hB1⟩
      | true =>
        cases eb : decide (b % p = 0) with
        | false =>
          have TA : (a.tmod p == 0) = true := by rw [HTA.out, ea]
          have TB : (b.tmod p == 0) = false := by rw [HTB.out, eb]
          clear ea eb
          go_wp2_with fail
          refine (symbolWays_any a b p _).mono ?_
          rw [P.out]
          rintro e w' ⟨rfl, hb1⟩
          have hB1 := hb.trans (hb1.mono hb.size)
          go_wp2_with fail
          refine (symbolWaysS_any a b p _).mono ?_
          rw [P.out]
          rintro e w' ⟨rfl, rfl⟩
          go_wp2
          go_ret
          exact ⟨rfl, hB1⟩
        | true =>
          have TA : (a.tmod p == 0) = true := by rw [HTA.out, ea]
          have TB : (b.tmod p == 0) = true := by rw [HTB.out, eb]
          have TS : (s == p * p - 1) = true := by
            rw [beq_iff_eq]
            rcases HW.out with h | h
            · exact absurd (propext ⟨fun _ => of_decide_eq_true eb, fun _ => of_decide_eq_true ea⟩) h
            · exact h
          clear ea eb
          go_wp2_with fail
          refine (symbolWays_any a b p _).mono ?_
          rw [P.out]
          rintro e w' ⟨rfl, hb1⟩
          have hB1 := hb.trans (hb1.mono hb.size)
          go_wp2_with fail
          refine (symbolWaysS_any a b p _).mono ?_
          rw [P.out]
          rintro e w' ⟨rfl, rfl⟩
          go_wp2
          go_ret
          exact ⟨rfl, hB1⟩
theorem own : ownKnob Try.prog.godebug = none := by kernel_rfl
theorem laidOut : laidOutB Try.prog = true := by kernel_rfl
set_option maxRecDepth 100000 in
theorem lifted (os : Os) (started : os.Started) (H : Type) (enc : TypeId × Value → H) :
    ReturnsInHanded {} Try.checked os 10 .any (Rows.fnWaysSpec.pre6 enc Try.prog Try.f10 Rows.fnWaysRow.domain false) (Rows.fnWaysSpec.post enc Try.prog Try.f10 false true false false) := by
  refine returnsInHanded_of_change (C := Try.checked) own started (by kernel_rfl) Try.func10
    (ChangeSpec.witness6 (enc := enc) (C := Try.checked) false ⟨#[], #[.slice none 0 0], []⟩ 8 (by kernel_rfl) (by kernel_rfl) (by kernel_rfl) (by kernel_rfl)) ?_
  intro W base args ds gs before hval0 hW hcnd _
  have hval : ∀ (j : Nat) t v, Try.f10.params[j]? = some t → args[j]? = some v → Value.okWide Try.prog W .any base t v := hval0
  have hW' := hW
  obtain ⟨p, q, hA0, hV, rfl, hfz, hnd⟩ := hW
  have hA : DataW.TrodAll enc Try.prog W 0 (fun _ => true) true Try.f10.params.toList args.toList ds p := hA0
  rw [Try.params10] at hA hval
  obtain ⟨v0, vs0, d0, ds0, p0, q0, hargs, rfl, rfl, h0, r0⟩ := trodAll_cons hA
  obtain ⟨rfl, rfl, rfl⟩ := trodAll_nil r0
  obtain rfl : args = #[v0] := by cases args; simp_all
  obtain ⟨rfl, rfl⟩ := trodVars_none hV
  obtain ⟨a0, len0, cap0, rfl⟩ := okWide_slice Try.underlying22 (hval 0 22 v0 rfl rfl)
  have k0 := h0
  have lt0 : ∀ x ∈ p0, x.block < W.heap.size := by obtain ⟨m, hm⟩ := k0; exact DataW.trod_lt m _ _ _ hm
  obtain ⟨z0, w0⟩ : ∃ zs, IsRow .u8 W a0 len0 cap0 zs := by
    obtain ⟨fuel, hf⟩ := h0
    rcases open_ints Try.underlying22 Try.underlying5 (by kernel_rfl) hf with ⟨hcs, _⟩ | ⟨x, l, c, zs, hcs, _, hl, hm, hz, _, hcell, hwz⟩
    · simp [Value.cells] at hcs
      obtain ⟨rfl, rfl, rfl⟩ := hcs
      exact ⟨[], .inl ⟨rfl, rfl, rfl, rfl⟩⟩
    · simp [Value.cells] at hcs
      obtain ⟨rfl, rfl, rfl⟩ := hcs
      exact ⟨zs, .inr ⟨_, rfl, hl, hm, by simpa using hz, hcell, hwz⟩⟩
  clear hA0 hval0
  refine (walk a0 len0 cap0 z0 W w0).mono fun e W' ⟨he, bel⟩ => ?_
  subst he
  exact ⟨_, rfl, _, _, _, [], _, [], hW', trodAll_mk1 (shut_bool Try.underlying4 _), (trodAll_cons_mk (Below.trod laidOut (by kernel_rfl) (of_decide_eq_true (by kernel_rfl)) k0 bel lt0) trodAll_mk0), rfl, bel.frame _, fun h => by cases h⟩
theorem over : Rows.fnWaysRow.holds Try.pinned (OpenSpec.ofChange Rows.fnWaysSpec) :=
  OpenClaim.holds_of_wide 10 Try.f10 rfl rfl rfl rfl rfl rfl rfl ⟨rfl, rfl, rfl, rfl, rfl⟩ rfl rfl rfl rfl rfl (by kernel_rfl) Try.func10 (by kernel_rfl)
    (of_decide_eq_true (by kernel_rfl)) (by unfold Func.isWrapper; first | (rw [if_pos (by decide +kernel)]; kernel_rfl) | (rw [if_neg (by decide +kernel)]; exact ⟨rfl, rfl⟩))
    (fun os started H enc _ => lifted os started H enc)
theorem proved : Rows.FnWaysSaid := over
end Go.Proofs.Ytdidmblkknnglaa.fnWays
