/-
  Some texts in one file: LawMath2 Cls Vals Loc Sym.
-/
import Derived.Test.YtdclmjmefkgbbabQLawMath
import Derived.Test.YtdclmjmefkgbbabQBun3
/-! LawMath2 -/
set_option linter.unusedVariables false
namespace Go.Proofs.Ytdclmjmefkgbbab
open Go.RowKit

theorem emod_toNat_mul (n k : Int) (p : Nat) (hp : 0 < p) : (n * k % (p : Int)).toNat = (n % (p : Int)).toNat * (k % (p : Int)).toNat % p := by
  have h1 := Int.emod_nonneg n (show (p : Int) ≠ 0 by omega)
  have h2 := Int.emod_nonneg k (show (p : Int) ≠ 0 by omega)
  obtain ⟨a, ha⟩ := Int.eq_ofNat_of_zero_le h1
  obtain ⟨b, hb⟩ := Int.eq_ofNat_of_zero_le h2
  rw [Int.mul_emod, ha, hb]
  have e : ((a : Int) * (b : Int)) % (p : Int) = ((a * b % p : Nat) : Int) := by push_cast; rfl
  rw [e]
  simp only [Int.toNat_natCast]
theorem resN_mulI {p : Nat} (h : primeN p = true) (h3 : 3 ≤ p) (n k : Int) : resN (n * k % (p : Int)).toNat p = resN (n % (p : Int)).toNat p * resN (k % (p : Int)).toNat p := by
  have lt : ∀ x : Int, (x % (p : Int)).toNat < p := fun x => by
    have := Int.emod_lt_of_pos x (show (0 : Int) < p by omega)
    have := Int.emod_nonneg x (show (p : Int) ≠ 0 by omega)
    omega
  rw [emod_toNat_mul n k p (by omega), resN_mul h h3, Nat.mod_eq_of_lt (lt n), Nat.mod_eq_of_lt (lt k)]

theorem jm_mul (a b r s : Int) : ∀ k, jm (a * b) (r * s) k = jm a r k * jm b s k
  | 0 => rfl
  | k + 1 => by
    unfold jm
    rw [jm_mul a b r s k, Int.mul_assoc, Int.mul_assoc, Int.mul_left_comm (jm b s k) r s]
theorem jac_fold_mul (n k : Int) : ∀ l : List (Nat × Nat), (∀ x ∈ l, primeN x.1 = true ∧ 3 ≤ x.1) → ∀ a b : Int,
    l.foldl (fun a x => jm a (resN (n * k % (x.1 : Int)).toNat x.1) x.2) (a * b) = l.foldl (fun a x => jm a (resN (n % (x.1 : Int)).toNat x.1) x.2) a * l.foldl (fun a x => jm a (resN (k % (x.1 : Int)).toNat x.1) x.2) b
  | [], _, a, b => rfl
  | x :: l, hl, a, b => by
    obtain ⟨hp, h3⟩ := hl x (by simp)
    simp only [List.foldl_cons]
    rw [resN_mulI hp h3, jm_mul]
    exact jac_fold_mul n k l (fun y hy => hl y (by simp [hy])) _ _
theorem jac_mul {m : Nat} (h1 : 1 ≤ m) (h2 : m ≤ 5000) (ho : m % 2 = 1) (n k : Int) : jacF (n * k) (ppow m) = jacF n (ppow m) * jacF k (ppow m) := by
  have := jac_fold_mul n k (ppow m) (odd_pp h1 h2 ho) 1 1
  rw [Int.mul_one] at this
  exact this
theorem jac_fold_period (n m : Int) : ∀ l : List (Nat × Nat), (∀ x ∈ l, (x.1 : Int) ∣ m) → ∀ a : Int,
    l.foldl (fun a x => jm a (resN ((n + m) % (x.1 : Int)).toNat x.1) x.2) a = l.foldl (fun a x => jm a (resN (n % (x.1 : Int)).toNat x.1) x.2) a
  | [], _, a => rfl
  | x :: l, hl, a => by
    simp only [List.foldl_cons]
    have e : (n + m) % (x.1 : Int) = n % (x.1 : Int) := by
      obtain ⟨c, hc⟩ := hl x (by simp)
      rw [hc, Int.add_mul_emod_self_left]
    rw [e]
    exact jac_fold_period n m l (fun y hy => hl y (by simp [hy])) _
theorem jac_period {m : Nat} (h1 : 1 ≤ m) (h2 : m ≤ 5000) (n : Int) : jacF (n + m) (ppow m) = jacF n (ppow m) :=
  jac_fold_period n m _ (fun x hx => by
    have := (pp_mem h1 h2 hx).2.2.2
    exact Int.natCast_dvd_natCast.2 (Nat.dvd_of_mod_eq_zero this)) 1

def suppOk (m : Nat) : Bool := decide (m % 2 = 0) || (((jacF (-1) (ppow m) == 1) == decide (m % 4 = 1)) && ((jacF 2 (ppow m) == 1) == (decide (m % 8 = 1) || decide (m % 8 = 7))))
theorem suppOk_all : (List.range 120).all suppOk = true := by decide +kernel
theorem supp {m : Nat} (h : m ≤ 119) (ho : m % 2 = 1) : (jacF (-1) (ppow m) == 1) = decide (m % 4 = 1) ∧ (jacF 2 (ppow m) == 1) = (decide (m % 8 = 1) || decide (m % 8 = 7)) := by
  have := List.all_eq_true.1 suppOk_all m (List.mem_range.2 (by omega))
  unfold suppOk at this
  rw [decide_eq_false (by omega)] at this
  simp only [Bool.false_or, Bool.and_eq_true, beq_iff_eq] at this
  exact ⟨this.1, this.2⟩

def eulerOk (p : Nat) : Bool := (List.range p).all (fun r => ((rootF r p).isSome == (resN r p != -1)) && ((resN r p == 0) == decide (r = 0)))
theorem eulerOk_all : [3, 5, 7, 11, 13, 97].all eulerOk = true := by decide +kernel
theorem euler_small {p r : Nat} (hp : p = 3 ∨ p = 5 ∨ p = 7 ∨ p = 11 ∨ p = 13 ∨ p = 97) (hr : r < p) : (rootF r p).isSome = (resN r p != -1) ∧ (resN r p == 0) = decide (r = 0) := by
  have := List.all_eq_true.1 eulerOk_all p (by simp; omega)
  have := List.all_eq_true.1 this r (List.mem_range.2 hr)
  simp only [Bool.and_eq_true, beq_iff_eq] at this
  exact this
theorem odd_drawn {p : Int} (h : prOk p) (ho : oddP p = true) : p = 3 ∨ p = 5 ∨ p = 7 ∨ p = 11 ∨ p = 13 ∨ p = 97 := by
  unfold prOk at h
  rcases h with rfl | rfl | rfl | rfl | rfl | rfl | rfl | rfl | rfl | rfl | rfl | rfl
  all_goals first | omega | (exact absurd ho (by decide))

end Go.Proofs.Ytdclmjmefkgbbab

/-! Cls -/
set_option linter.unusedVariables false
namespace Go.Proofs.Ytdclmjmefkgbbab
open Go.RowKit

/-- is it a place? -/
def plI (q : Int) : Bool := decide (q = 0) || primeI q
theorem plI_cases {q : Int} (h : plI q = true) : q = 0 ∨ q = 2 ∨ ∃ P : Nat, q = (P : Int) ∧ primeN P = true ∧ 3 ≤ P ∧ P ≤ 5000 := by
  unfold plI at h
  rcases Bool.or_eq_true _ _ ▸ h with h | h
  · exact .inl (of_decide_eq_true h)
  · have hb := primeI_bd h
    by_cases h2 : q = 2
    · exact .inr (.inl h2)
    · exact .inr (.inr ⟨q.toNat, by omega, h, by omega, by omega⟩)
theorem plI_bd {q : Int} (h : plI q = true) : 0 ≤ q ∧ q ≤ 5000 := by
  rcases plI_cases h with rfl | rfl | ⟨P, rfl, _, h3, h5⟩ <;> omega

/-- what is left behind dividing by p -/
def unitI (n p : Int) : Int := n.tdiv (p ^ val n.natAbs p.toNat)
theorem unit_eq {n : Int} {P : Nat} (h : primeN P = true) (hn : n ≠ 0) : unitI n (P : Int) * (P : Int) ^ val n.natAbs P = n := by
  unfold unitI
  rw [Int.toNat_natCast]
  refine Int.tdiv_mul_cancel ?_
  have := val_dvd P (primeN_bd h).1 n.natAbs n.natAbs (Nat.le_refl _) (by omega)
  have e : ((P : Int) ^ val n.natAbs P) = ((P ^ val n.natAbs P : Nat) : Int) := by push_cast; rfl
  rw [e]
  exact Int.ofNat_dvd_left.2 this
theorem unit_ne {n : Int} {P : Nat} (h : primeN P = true) (hn : n ≠ 0) : unitI n (P : Int) ≠ 0 := by
  intro e
  have := unit_eq h hn
  rw [e, Int.zero_mul] at this
  exact hn this.symm
theorem val_pow {P : Nat} (h : primeN P = true) : ∀ k, val (P ^ k) P = k
  | 0 => by
    have := (primeN_bd h).1
    rw [Nat.pow_zero]
    exact val_stop (by rw [Nat.mod_eq_of_lt (by omega)]; omega)
  | k + 1 => by
    have := (primeN_bd h).1
    rw [Nat.pow_succ, val_mul h _ _ _ (Nat.le_refl _) (Nat.pow_pos (by omega)) (by omega), val_pow h k, val_self h]
theorem unit_val {n : Int} {P : Nat} (h : primeN P = true) (hn : n ≠ 0) : val (unitI n (P : Int)).natAbs P = 0 := by
  have h2 := (primeN_bd h).1
  have hu := unit_ne h hn
  have e : n.natAbs = (unitI n (P : Int)).natAbs * P ^ val n.natAbs P := by
    conv => lhs; rw [← unit_eq h hn]
    rw [Int.natAbs_mul, Int.natAbs_pow, Int.natAbs_natCast]
  have hv := val_mul h _ (unitI n (P : Int)).natAbs (P ^ val n.natAbs P) (Nat.le_refl _) (by omega) (Nat.pow_pos (by omega))
  rw [← e, val_pow h] at hv
  omega
theorem unit_dvd {n : Int} {P : Nat} (h : primeN P = true) (hn : n ≠ 0) : ¬ P ∣ (unitI n (P : Int)).natAbs := by
  intro hd
  have h2 := (primeN_bd h).1
  have hu := unit_ne h hn
  have := val_step h2 (show 0 < (unitI n (P : Int)).natAbs by omega) (Nat.mod_eq_zero_of_dvd hd)
  rw [unit_val h hn] at this
  omega
theorem val_mulI {a b : Int} {P : Nat} (h : primeN P = true) (ha : a ≠ 0) (hb : b ≠ 0) : val (a * b).natAbs P = val a.natAbs P + val b.natAbs P := by
  rw [Int.natAbs_mul]
  exact val_mul h _ _ _ (Nat.le_refl _) (by omega) (by omega)
theorem unit_mul {a b : Int} {P : Nat} (h : primeN P = true) (ha : a ≠ 0) (hb : b ≠ 0) : unitI (a * b) (P : Int) = unitI a P * unitI b P := by
  have h2 := (primeN_bd h).1
  have hab : a * b ≠ 0 := Int.mul_ne_zero ha hb
  have e1 := unit_eq h hab
  have e2 := unit_eq h ha
  have e3 := unit_eq h hb
  rw [val_mulI h ha hb, Int.pow_add] at e1
  have hp : (0 : Int) < (P : Int) ^ val a.natAbs P * (P : Int) ^ val b.natAbs P := Int.mul_pos (Int.pow_pos (by omega)) (Int.pow_pos (by omega))
  refine Int.eq_of_mul_eq_mul_right (show (P : Int) ^ val a.natAbs P * (P : Int) ^ val b.natAbs P ≠ 0 by omega) ?_
  rw [e1]
  conv => lhs; rw [← e2, ← e3]
  rw [Int.mul_assoc, Int.mul_assoc]
  congr 1
  rw [← Int.mul_assoc, Int.mul_comm _ (unitI b (P : Int)), Int.mul_assoc]

/-- a power of what p doesn't divide is not divided -/
theorem pow_ndvd {P r : Nat} (h : primeN P = true) (hr : ¬ P ∣ r) : ∀ k, ¬ P ∣ r ^ k
  | 0 => by
    have := (primeN_bd h).1
    rw [Nat.pow_zero, Nat.dvd_one]
    omega
  | k + 1 => by
    rw [Nat.pow_succ]
    intro hd
    rcases prime_mul h hd with hd | hd
    · exact pow_ndvd h hr k hd
    · exact hr hd
theorem res_unit {P r : Nat} (h : primeN P = true) (h3 : 3 ≤ P) (hr : ¬ P ∣ r) : resN r P = 1 ∨ resN r P = -1 := by
  unfold resN
  rcases euler_three h h3 r with e | e | e
  · exact absurd (Nat.dvd_of_mod_eq_zero e) (pow_ndvd h hr _)
  · rw [e, if_neg (by omega)]; exact .inl rfl
  · rw [e, if_pos rfl]; exact .inr rfl
theorem emod_ndvd {P : Nat} {n : Int} (hP : 0 < P) (h : ¬ P ∣ n.natAbs) : ¬ P ∣ (n % (P : Int)).toNat := by
  intro hd
  apply h
  have h1 := Int.emod_nonneg n (show (P : Int) ≠ 0 by omega)
  have h2 : (P : Int) ∣ n % (P : Int) := by
    obtain ⟨k, hk⟩ := hd
    exact ⟨(k : Int), by have : ((n % (P : Int)).toNat : Int) = n % (P : Int) := Int.toNat_of_nonneg h1
                         rw [← this, hk]; push_cast; rfl⟩
  have h3 : (P : Int) ∣ n := by
    rw [← Int.emod_add_mul_ediv n P]
    exact Int.dvd_add h2 (Int.dvd_mul_right _ _)
  exact Int.ofNat_dvd_left.1 h3

/-- the class of a number that is not 0 at a place -/
def cls (n q : Int) : Nat × Int := if q = 0 then (0, if 0 < n then 1 else -1) else (val n.natAbs q.toNat % 2, if q = 2 then unitI n 2 % 8 else resN (unitI n q % q).toNat q.toNat)
def comb (q : Int) (a b : Nat × Int) : Nat × Int := ((a.1 + b.1) % 2, if q = 2 then a.2 * b.2 % 8 else a.2 * b.2)
def clsList (q : Int) : List (Nat × Int) := if q = 0 then [(0, 1), (0, -1)] else if q = 2 then [(0, 1), (0, 3), (0, 5), (0, 7), (1, 1), (1, 3), (1, 5), (1, 7)] else [(0, 1), (0, -1), (1, 1), (1, -1)]
def sqAt (n q : Int) : Bool := cls n q == (0, 1)

theorem prime2 : primeN 2 = true := rfl
theorem cls_zero (n : Int) : cls n 0 = (0, if 0 < n then 1 else -1) := rfl
theorem cls_two (n : Int) : cls n 2 = (val n.natAbs 2 % 2, unitI n 2 % 8) := rfl
theorem cls_odd {P : Nat} (h3 : 3 ≤ P) (n : Int) : cls n (P : Int) = (val n.natAbs P % 2, resN (unitI n P % (P : Int)).toNat P) := by
  unfold cls
  rw [if_neg (by omega), if_neg (by omega), Int.toNat_natCast]

theorem cls_mem {n q : Int} (hn : n ≠ 0) (hq : plI q = true) : cls n q ∈ clsList q := by
  rcases plI_cases hq with rfl | rfl | ⟨P, rfl, hP, h3, h5⟩
  · rw [cls_zero]
    by_cases h : 0 < n
    · rw [if_pos h]; simp [clsList]
    · rw [if_neg h]; simp [clsList]
  · rw [cls_two]
    have h1 : val n.natAbs 2 % 2 = 0 ∨ val n.natAbs 2 % 2 = 1 := by omega
    have hu : ¬ 2 ∣ (unitI n 2).natAbs := unit_dvd prime2 hn
    have h2 : unitI n 2 % 8 = 1 ∨ unitI n 2 % 8 = 3 ∨ unitI n 2 % 8 = 5 ∨ unitI n 2 % 8 = 7 := by omega
    rcases h1 with h1 | h1 <;> rcases h2 with h2 | h2 | h2 | h2 <;> rw [h1, h2] <;> simp [clsList]
  · rw [cls_odd h3]
    have h1 : val n.natAbs P % 2 = 0 ∨ val n.natAbs P % 2 = 1 := by omega
    have h2 := res_unit hP h3 (emod_ndvd (by omega) (unit_dvd hP hn))
    rcases h1 with h1 | h1 <;> rcases h2 with h2 | h2 <;> rw [h1, h2] <;> (unfold clsList; rw [if_neg (by omega), if_neg (by omega)]; decide)

theorem cls_mul {a b q : Int} (ha : a ≠ 0) (hb : b ≠ 0) (hq : plI q = true) : cls (a * b) q = comb q (cls a q) (cls b q) := by
  rcases plI_cases hq with rfl | rfl | ⟨P, rfl, hP, h3, h5⟩
  · rw [cls_zero, cls_zero, cls_zero]
    unfold comb
    have hs : (0 < a * b) ↔ ((0 < a) = (0 < b)) := by
      rcases Int.lt_or_gt_of_ne ha with h1 | h1 <;> rcases Int.lt_or_gt_of_ne hb with h2 | h2
      · have := Int.mul_pos_of_neg_of_neg h1 h2
        simp [this, show ¬ 0 < a by omega, show ¬ 0 < b by omega]
      · have := Int.mul_neg_of_neg_of_pos h1 h2
        simp [show ¬ 0 < a * b by omega, show ¬ 0 < a by omega, show 0 < b by omega]
      · have := Int.mul_neg_of_pos_of_neg h1 h2
        simp [show ¬ 0 < a * b by omega, show 0 < a by omega, show ¬ 0 < b by omega]
      · have := Int.mul_pos h1 h2
        simp [this, show 0 < a by omega, show 0 < b by omega]
    by_cases h1 : 0 < a <;> by_cases h2 : 0 < b <;> simp [hs, h1, h2]
  · rw [cls_two, cls_two, cls_two, show (2 : Int) = ((2 : Nat) : Int) from rfl, val_mulI prime2 ha hb, unit_mul prime2 ha hb]
    unfold comb
    simp only [Prod.mk.injEq]
    exact ⟨by omega, by simp [Int.mul_emod]⟩
  · rw [cls_odd h3, cls_odd h3, cls_odd h3, val_mulI hP ha hb, unit_mul hP ha hb, resN_mulI hP h3]
    unfold comb
    rw [if_neg (by omega)]
    simp only [Prod.mk.injEq]
    exact ⟨by omega, trivial⟩

theorem comb_one {q : Int} (hq : plI q = true) {c d : Nat × Int} (hc : c ∈ clsList q) (hd : d ∈ clsList q) : comb q c d = (0, 1) ↔ c = d := by
  rcases plI_cases hq with rfl | rfl | ⟨P, rfl, hP, h3, h5⟩
  · exact (show ∀ c ∈ clsList 0, ∀ d ∈ clsList 0, (comb 0 c d = (0, 1) ↔ c = d) by decide) c hc d hd
  · exact (show ∀ c ∈ clsList 2, ∀ d ∈ clsList 2, (comb 2 c d = (0, 1) ↔ c = d) by decide) c hc d hd
  · have e0 : ¬ ((P : Int) = 0) := by omega
    have e2 : ¬ ((P : Int) = 2) := by omega
    unfold clsList at hc hd
    rw [if_neg e0, if_neg e2] at hc hd
    unfold comb
    rw [if_neg e2]
    exact (show ∀ c ∈ [((0 : Nat), (1 : Int)), (0, -1), (1, 1), (1, -1)], ∀ d ∈ [((0 : Nat), (1 : Int)), (0, -1), (1, 1), (1, -1)], (((c.1 + d.1) % 2, c.2 * d.2) = ((0 : Nat), (1 : Int)) ↔ c = d) by decide) c hc d hd

theorem getD_at {α : Type} (l : List α) (i : Nat) (h : i < l.length) (d : α) : l.getD i d = l[i] := by simp [List.getD, h]

/-- the names at a place -/
def namesOf (q : Int) : List Int := if q = 0 then [1, -1] else if q = 2 then [1, 3, 5, 7, 2, 6, 10, 14] else [1, ((noneF q.toNat : Nat) : Int), q, q * ((noneF q.toNat : Nat) : Int)]
theorem names_zero : namesOf 0 = [1, -1] := rfl
theorem names_two : namesOf 2 = [1, 3, 5, 7, 2, 6, 10, 14] := rfl
theorem names_odd {P : Nat} (h3 : 3 ≤ P) : namesOf (P : Int) = [1, ((noneF P : Nat) : Int), (P : Int), (P : Int) * ((noneF P : Nat) : Int)] := by
  unfold namesOf
  rw [if_neg (by omega), if_neg (by omega), Int.toNat_natCast]

theorem unit_self {P : Nat} (h : primeN P = true) {n : Int} (hn : ¬ P ∣ n.natAbs) (h0 : n ≠ 0) : val n.natAbs P = 0 ∧ unitI n (P : Int) = n := by
  have e : val n.natAbs P = 0 := val_stop (fun he => hn (Nat.dvd_of_mod_eq_zero he))
  refine ⟨e, ?_⟩
  have := unit_eq h h0
  rw [e, Int.pow_zero, Int.mul_one] at this
  exact this
theorem unit_p {P : Nat} (h : primeN P = true) : val (P : Int).natAbs P = 1 ∧ unitI (P : Int) (P : Int) = 1 := by
  have h2 := (primeN_bd h).1
  have e : val (P : Int).natAbs P = 1 := by rw [Int.natAbs_natCast]; exact val_self h
  refine ⟨e, ?_⟩
  have := unit_eq h (show (P : Int) ≠ 0 by omega)
  rw [e, Int.pow_one] at this
  exact Int.eq_of_mul_eq_mul_right (show (P : Int) ≠ 0 by omega) (by rw [this, Int.one_mul])
theorem pw_one (e : Nat) {P : Nat} (h : 2 ≤ P) : pw 1 e P = 1 := by
  unfold pw; rw [Nat.one_pow, Nat.mod_eq_of_lt (by omega)]
theorem resN_one {P : Nat} (h3 : 3 ≤ P) : resN 1 P = 1 := by
  unfold resN
  rw [pw_one _ (by omega), if_neg (by omega)]
  rfl

theorem names_cls {q : Int} (hq : plI q = true) : (namesOf q).map (fun m => cls m q) = clsList q := by
  rcases plI_cases hq with rfl | rfl | ⟨P, rfl, hP, h3, h5⟩
  · decide
  · decide +kernel
  · obtain ⟨s1, s2, s3, s4, _⟩ := noneF_spec hP h3
    rw [names_odd h3]
    have c1 : cls 1 (P : Int) = (0, 1) := by
      have hd : ¬ P ∣ (1 : Int).natAbs := by
        intro hd
        have := Nat.le_of_dvd (by decide) hd
        have : (1 : Int).natAbs = 1 := rfl
        omega
      obtain ⟨a, b⟩ := unit_self hP hd (by decide)
      rw [cls_odd h3, a, b, show ((1 : Int) % (P : Int)).toNat = 1 by rw [Int.emod_eq_of_lt (by omega) (by omega)]; rfl, resN_one h3]
    have cu : cls ((noneF P : Nat) : Int) (P : Int) = (0, -1) := by
      have hd : ¬ P ∣ ((noneF P : Nat) : Int).natAbs := by
        intro hd
        rw [Int.natAbs_natCast] at hd
        have := Nat.le_of_dvd (by omega) hd
        omega
      obtain ⟨a, b⟩ := unit_self hP hd (by omega)
      rw [cls_odd h3, a, b, show (((noneF P : Nat) : Int) % (P : Int)).toNat = noneF P % P by rw [← Int.natCast_emod, Int.toNat_natCast], s4]
    have cp : cls (P : Int) (P : Int) = (1, 1) := by
      obtain ⟨a, b⟩ := unit_p hP
      rw [cls_odd h3, a, b, show ((1 : Int) % (P : Int)).toNat = 1 by rw [Int.emod_eq_of_lt (by omega) (by omega)]; rfl, resN_one h3]
    have cpu : cls ((P : Int) * (noneF P : Nat)) (P : Int) = (1, -1) := by
      rw [cls_mul (by omega) (by omega) hq, cp, cu]
      unfold comb
      rw [if_neg (by omega)]
      decide
    simp only [List.map_cons, List.map_nil, c1, cu, cp, cpu]
    unfold clsList
    rw [if_neg (by omega), if_neg (by omega)]

theorem cls_nodup (q : Int) : (clsList q).Nodup := by
  unfold clsList
  split
  · decide
  · split <;> decide
theorem names_len {q : Int} (hq : plI q = true) : (namesOf q).length = (clsList q).length := by
  rw [← names_cls hq, List.length_map]
theorem names_ne {q : Int} (hq : plI q = true) : ∀ m ∈ namesOf q, m ≠ 0 := by
  rcases plI_cases hq with rfl | rfl | ⟨P, rfl, hP, h3, h5⟩
  · decide
  · decide
  · obtain ⟨s1, s2, s3, s4, _⟩ := noneF_spec hP h3
    rw [names_odd h3]
    intro m hm
    simp only [List.mem_cons, List.mem_nil_iff, or_false] at hm
    rcases hm with rfl | rfl | rfl | rfl
    · decide
    · omega
    · omega
    · exact Int.mul_ne_zero (by omega) (by omega)
theorem names_bd {q : Int} (hq : plI q = true) : ∀ m ∈ namesOf q, -1 ≤ m ∧ m ≤ 315000 := by
  rcases plI_cases hq with rfl | rfl | ⟨P, rfl, hP, h3, h5⟩
  · decide
  · decide
  · obtain ⟨s1, s2, s3, s4, _⟩ := noneF_spec hP h3
    rw [names_odd h3]
    intro m hm
    simp only [List.mem_cons, List.mem_nil_iff, or_false] at hm
    rcases hm with rfl | rfl | rfl | rfl
    · omega
    · omega
    · omega
    · have := Nat.mul_le_mul h5 (show noneF P ≤ 63 by omega)
      have e : (P : Int) * (noneF P : Nat) = ((P * noneF P : Nat) : Int) := by push_cast; rfl
      rw [e]; omega

/-- the place of a class among the classes -/
def clsIdx (n q : Int) : Nat := (clsList q).idxOf (cls n q)
/-- the name of a number's class -/
def nameOf (n q : Int) : Int := (namesOf q).getD (clsIdx n q) 0
theorem clsIdx_lt {n q : Int} (hn : n ≠ 0) (hq : plI q = true) : clsIdx n q < (namesOf q).length := by
  rw [names_len hq]; exact List.idxOf_lt_length_iff.2 (cls_mem hn hq)
theorem cls_at {q : Int} (hq : plI q = true) (i : Nat) (h : i < (namesOf q).length) : cls ((namesOf q).getD i 0) q = (clsList q).getD i (0, 0) := by
  have hl := names_len hq
  rw [getD_at _ _ h, getD_at _ _ (by omega)]
  have := congrArg (fun l => l[i]?) (names_cls hq)
  simp only [List.getElem?_map, List.getElem?_eq_getElem h, List.getElem?_eq_getElem (show i < (clsList q).length by omega), Option.map_some, Option.some.injEq] at this
  exact this
theorem idx_at {n q : Int} (hn : n ≠ 0) (hq : plI q = true) : (clsList q).getD (clsIdx n q) (0, 0) = cls n q := by
  have h := List.idxOf_lt_length_iff.2 (cls_mem hn hq)
  unfold clsIdx
  rw [getD_at _ _ h]
  exact List.getElem_idxOf h
theorem idx_uniq {n q : Int} (hn : n ≠ 0) (hq : plI q = true) {i : Nat} (h : i < (namesOf q).length) (e : (clsList q).getD i (0, 0) = cls n q) : i = clsIdx n q := by
  have hl := names_len hq
  have h2 := clsIdx_lt hn hq
  have e2 := idx_at hn hq
  rw [getD_at _ _ (by omega)] at e e2
  have hnd := List.pairwise_iff_getElem.1 (cls_nodup q)
  rcases Nat.lt_trichotomy i (clsIdx n q) with hlt | he | hlt
  · exact absurd (by rw [e, e2]) (hnd _ _ (by omega) (by omega) hlt)
  · exact he
  · exact absurd (by rw [e, e2]) (hnd _ _ (by omega) (by omega) hlt)
theorem cls_name {n q : Int} (hn : n ≠ 0) (hq : plI q = true) : cls (nameOf n q) q = cls n q := by
  unfold nameOf
  rw [cls_at hq _ (clsIdx_lt hn hq), idx_at hn hq]
theorem name_mem {n q : Int} (hn : n ≠ 0) (hq : plI q = true) : nameOf n q ∈ namesOf q := by
  unfold nameOf
  rw [getD_at _ _ (clsIdx_lt hn hq)]
  exact List.getElem_mem _
theorem name_ne {n q : Int} (hn : n ≠ 0) (hq : plI q = true) : nameOf n q ≠ 0 := names_ne hq _ (name_mem hn hq)
theorem name_congr {a b q : Int} (h : cls a q = cls b q) : nameOf a q = nameOf b q := by unfold nameOf clsIdx; rw [h]
/-- the test with the name number i -/
theorem sq_name {n q : Int} (hn : n ≠ 0) (hq : plI q = true) {i : Nat} (h : i < (namesOf q).length) : sqAt (n * (namesOf q).getD i 0) q = decide (i = clsIdx n q) := by
  have hm : (namesOf q).getD i 0 ∈ namesOf q := by rw [getD_at _ _ h]; exact List.getElem_mem _
  have h0 := names_ne hq _ hm
  unfold sqAt
  rw [cls_mul hn h0 hq]
  by_cases e : i = clsIdx n q
  · rw [decide_eq_true e, beq_iff_eq, comb_one hq (cls_mem hn hq) (cls_mem h0 hq), cls_at hq i h, e, idx_at hn hq]
  · rw [decide_eq_false e, beq_eq_false_iff_ne]
    intro he
    rw [comb_one hq (cls_mem hn hq) (cls_mem h0 hq), cls_at hq i h] at he
    exact e (idx_uniq hn hq h he.symm)
theorem sq_mul {a b q : Int} (ha : a ≠ 0) (hb : b ≠ 0) (hq : plI q = true) : sqAt (a * b) q = decide (cls a q = cls b q) := by
  unfold sqAt
  rw [cls_mul ha hb hq]
  by_cases e : cls a q = cls b q
  · rw [decide_eq_true e, beq_iff_eq, comb_one hq (cls_mem ha hq) (cls_mem hb hq), e]
  · rw [decide_eq_false e, beq_eq_false_iff_ne]
    intro he
    exact e ((comb_one hq (cls_mem ha hq) (cls_mem hb hq)).1 he)

theorem mul_bdI {a b : Int} (h1 : -5000 ≤ a) (h2 : a ≤ 5000) (h3 : -5000 ≤ b) (h4 : b ≤ 5000) : -25000000 ≤ a * b ∧ a * b ≤ 25000000 := by
  have h : (a * b).natAbs ≤ 25000000 := by
    rw [Int.natAbs_mul]
    exact Nat.le_trans (Nat.mul_le_mul (show a.natAbs ≤ 5000 by omega) (show b.natAbs ≤ 5000 by omega)) (by decide)
  omega

end Go.Proofs.Ytdclmjmefkgbbab

/-! Vals -/
set_option linter.unusedVariables false
namespace Go.Proofs.Ytdclmjmefkgbbab
open Go.RowKit

def okAt (n q : Int) : Bool := factB n && plI q
theorem okAt_cases (n q : Int) : (-5000 ≤ n ∧ n ≤ 5000 ∧ n ≠ 0 ∧ plI q = true ∧ okAt n q = true) ∨ okAt n q = false := by
  unfold okAt
  rcases factB_cases n with ⟨h1, h2, h0, O, hF⟩ | ⟨rfl, hF⟩ | ⟨h0, O, hF⟩
  · cases h : plI q
    · right; simp
    · left; exact ⟨h1, h2, h0, rfl, by rw [hF]; rfl⟩
  · right; rw [hF]; rfl
  · right; rw [hF]; rfl
def lsV (n q : Int) : Bool := okAt n q && sqAt n q
def lsameV (a b q : Int) : Bool := okAt a q && (okAt b q && decide (cls a q = cls b q))
def lnamesL (q : Int) : List Int := if plI q then namesOf q else []
def lnameV (n q : Int) : Value := if okAt n q then .tuple #[.int .i64 (nameOf n q), .bool true] else .tuple #[.int .i64 0, .bool false]
theorem lnameV_yes {n q : Int} (h : okAt n q = true) : lnameV n q = .tuple #[.int .i64 (nameOf n q), .bool true] := by unfold lnameV; rw [if_pos h]
theorem lnameV_no {n q : Int} (h : okAt n q = false) : lnameV n q = .tuple #[.int .i64 0, .bool false] := by unfold lnameV; rw [if_neg (by rw [h]; decide)]
def lmulV (a b q : Int) : Value := if okAt a q && okAt b q then .tuple #[.int .i64 (nameOf (a * b) q), .bool true] else .tuple #[.int .i64 0, .bool false]
def lunitV (n p : Int) : Value := if factB n && primeI p then .tuple #[.int .i64 (unitI n p), .bool true] else .tuple #[.int .i64 0, .bool false]
/-- the odd primes of a number behind 0 and 2 -/
def placesOf (n : Int) : List Int := [0, 2] ++ (natsI (plist n.natAbs)).filter (fun x => decide (2 < x))
theorem natsI_get {l : List Nat} {i : Nat} (h : i < (natsI l).length) : ∃ x : Nat, (natsI l).getD i 0 = (x : Int) ∧ x ∈ l := by
  unfold natsI at h ⊢
  rw [List.length_map] at h
  exact ⟨l[i], by rw [getD_at _ _ (by rw [List.length_map]; exact h)]; simp, List.getElem_mem h⟩
def plistOk (N : Nat) : Bool := (plist N).all (fun x => primeN x && decide (N = 0 ∨ N % x = 0)) && decide ((plist N).length ≤ 70)
theorem plistOk_all : (List.range 5001).all plistOk = true := by decide +kernel
theorem plist_ok {N : Nat} (h2 : N ≤ 5000) : (plist N).length ≤ 70 ∧ ∀ x ∈ plist N, primeN x = true ∧ (N = 0 ∨ N % x = 0) := by
  have := List.all_eq_true.1 plistOk_all N (List.mem_range.2 (by omega))
  unfold plistOk at this
  rw [Bool.and_eq_true] at this
  refine ⟨of_decide_eq_true this.2, fun x hx => ?_⟩
  have := List.all_eq_true.1 this.1 x hx
  rw [Bool.and_eq_true] at this
  exact ⟨this.1, of_decide_eq_true this.2⟩
theorem placesOf_ok {n : Int} (h0 : n ≠ 0) (h1 : -5000 ≤ n) (h2 : n ≤ 5000) : (placesOf n).length ≤ 72 ∧ ∀ q ∈ placesOf n, plI q = true := by
  obtain ⟨hl, hp⟩ := plist_ok (show n.natAbs ≤ 5000 by omega)
  unfold placesOf
  constructor
  · have h3 := List.length_filter_le (fun x : Int => decide (2 < x)) (natsI (plist n.natAbs))
    have h4 : (natsI (plist n.natAbs)).length = (plist n.natAbs).length := by unfold natsI; rw [List.length_map]
    rw [List.length_append]
    simp only [List.length_cons, List.length_nil]
    omega
  · intro q hq
    simp only [List.cons_append, List.nil_append, List.mem_cons] at hq
    rcases hq with rfl | rfl | hq
    · rfl
    · rfl
    · have hm := (List.mem_filter.1 hq).1
      unfold natsI at hm
      rw [List.mem_map] at hm
      obtain ⟨x, hx, rfl⟩ := hm
      have := (hp x hx).1
      unfold plI
      rw [show primeI (x : Int) = true from this, Bool.or_true]
def lplacesL (n : Int) : List Int := if factB n then (placesOf n).filter (fun q => !sqAt n q) else []
def lrootOk (n p k : Int) : Bool := okN n && (primeI p && (inR k 1 12 && decide (p.toNat ^ k.toNat ≤ 5000)))
def rootT (o : Option Nat) : Value := match o with | some x => .tuple #[.int .i64 (x : Nat), .bool true] | none => .tuple #[.int .i64 0, .bool false]
def lrootV (n p k : Int) : Value := if lrootOk n p k then rootT (rootF (n % ((p.toNat ^ k.toNat : Nat) : Int)).toNat (p.toNat ^ k.toNat)) else .tuple #[.int .i64 0, .bool false]
theorem lrootV_no {n p k : Int} (h : lrootOk n p k = false) : lrootV n p k = .tuple #[.int .i64 0, .bool false] := by unfold lrootV; rw [if_neg (by rw [h]; decide)]
theorem cap_step {P A i : Nat} (hP : 1 ≤ P) (h : A = min (P ^ i) 5001) : min (A * P) 5001 = min (P ^ (i + 1)) 5001 := by
  rw [Nat.pow_succ]
  have h1 : 1 ≤ P ^ i := Nat.pow_pos (by omega)
  by_cases hc : P ^ i ≤ 5001
  · rw [h, Nat.min_eq_left hc]
  · have e : min (P ^ i) 5001 = 5001 := Nat.min_eq_right (by omega)
    rw [h, e]
    have h2 := Nat.mul_le_mul_left 5001 hP
    have h3 := Nat.mul_le_mul_left (P ^ i) hP
    omega

end Go.Proofs.Ytdclmjmefkgbbab

/-! Loc -/
set_option linter.unusedVariables false
namespace Go.Proofs.Ytdclmjmefkgbbab
open Go.RowKit

theorem owns_lit {W : World} {B : Nat} (xs : List Int) (cur : Array Value) (hc : cur = (xs.map (Value.int .i64)).toArray) (hB : B ≤ W.heap.size) (hm : xs.length ≤ maxLen) :
    Owns (W.alloc (.cells cur 3)) B (.slice (some ⟨W.heap.size, 0, none⟩) xs.length xs.length) xs := by
  subst hc
  refine ⟨by simp, .inr ⟨W.heap.size, xs.length, _, rfl, hB, heap_alloc_new W _, Nat.le_refl _, hm, by simp, ?_⟩⟩
  rw [List.take_of_length_le (by simp)]

theorem unit_bd (n p : Int) : (unitI n p).natAbs ≤ n.natAbs := by
  unfold unitI
  rw [Int.natAbs_tdiv]
  exact Nat.div_le_self _ _









end Go.Proofs.Ytdclmjmefkgbbab

/-! Sym -/
set_option linter.unusedVariables false
namespace Go.Proofs.Ytdclmjmefkgbbab
open Go.RowKit

def halfI (e : Int) : Int := if e % 2 = 0 then 1 else -1
theorem halfI_small (e : Int) : -1 ≤ halfI e ∧ halfI e ≤ 1 := by unfold halfI; split <;> omega
theorem halfI_congr {e f : Int} (h : e % 2 = f % 2) : halfI e = halfI f := by unfold halfI; rw [h]

/-- the symbol of two classes at a place -/
def symC (q : Int) (c d : Nat × Int) : Int :=
  if q = 0 then (if c.2 = -1 ∧ d.2 = -1 then -1 else 1)
  else if q = 2 then halfI ((c.2 - 1) / 2 * ((d.2 - 1) / 2) + (c.1 : Int) * ((d.2 * d.2 - 1) / 8) + (d.1 : Int) * ((c.2 * c.2 - 1) / 8))
  else halfI ((c.1 : Int) * (d.1 : Int) * ((q - 1) / 2)) * (if d.1 = 1 then c.2 else 1) * (if c.1 = 1 then d.2 else 1)
def symV (a b q : Int) : Int := symC q (cls a q) (cls b q)

/-- how large a valuation can be -/
theorem val_small {n : Int} {P : Nat} (hP : primeN P = true) (h0 : n ≠ 0) (h1 : -1000000000000000 ≤ n) (h2 : n ≤ 1000000000000000) : val n.natAbs P ≤ 50 := by
  have hp2 := (primeN_bd hP).1
  have hd := Nat.le_of_dvd (show 0 < n.natAbs by omega) (val_dvd P hp2 n.natAbs n.natAbs (Nat.le_refl _) (by omega))
  have h3 := Nat.pow_le_pow_left hp2 (val n.natAbs P)
  by_cases hc : val n.natAbs P ≤ 50
  · exact hc
  · have h4 := Nat.pow_le_pow_right (show 0 < 2 by omega) (show 51 ≤ val n.natAbs P by omega)
    have : (2 : Nat) ^ 51 = 2251799813685248 := by decide
    omega

theorem par_mul (i j h : Nat) : ((i : Int) * (j : Int) * (h : Int)) % 2 = (((i % 2 : Nat) : Int) * ((j % 2 : Nat) : Int) * (h : Int)) % 2 := by
  have : (i * j * h) % 2 = ((i % 2) * (j % 2) * h) % 2 := by simp [Nat.mul_mod]
  exact_mod_cast this
theorem par_two {u v : Int} (hu : 0 ≤ u ∧ u < 16 ∧ u % 2 = 1) (hv : 0 ≤ v ∧ v < 16 ∧ v % 2 = 1) (i j : Nat) :
    ((u - 1) / 2 * ((v - 1) / 2) + (i : Int) * ((v * v - 1) / 8) + (j : Int) * ((u * u - 1) / 8)) % 2 =
    ((u % 8 - 1) / 2 * ((v % 8 - 1) / 2) + ((i % 2 : Nat) : Int) * ((v % 8 * (v % 8) - 1) / 8) + ((j % 2 : Nat) : Int) * ((u % 8 * (u % 8) - 1) / 8)) % 2 := by
  have h1 : u = 1 ∨ u = 3 ∨ u = 5 ∨ u = 7 ∨ u = 9 ∨ u = 11 ∨ u = 13 ∨ u = 15 := by omega
  have h2 : v = 1 ∨ v = 3 ∨ v = 5 ∨ v = 7 ∨ v = 9 ∨ v = 11 ∨ v = 13 ∨ v = 15 := by omega
  rcases h1 with rfl | rfl | rfl | rfl | rfl | rfl | rfl | rfl <;> rcases h2 with rfl | rfl | rfl | rfl | rfl | rfl | rfl | rfl <;> (simp only [Int.reduceMod, Int.reduceSub, Int.reduceDiv, Int.reduceMul]; omega)


end Go.Proofs.Ytdclmjmefkgbbab
