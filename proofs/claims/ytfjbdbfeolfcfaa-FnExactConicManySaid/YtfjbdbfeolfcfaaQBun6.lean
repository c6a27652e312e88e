/-
  Some texts in one file: LawMath2 Cls Vals Loc Sym Sym2 Loc2 PrimesG PlacesG.
-/
import Derived.Test.YtfjbdbfeolfcfaaQLawMath
import Derived.Test.YtfjbdbfeolfcfaaQBun4
/-! LawMath2 -/
set_option linter.unusedVariables false
namespace Go.Proofs.Ytfjbdbfeolfcfaa
open Go.RowKit

theorem emod_toNat_mul (n k : Int) (p : Nat) (hp : 0 < p) : (n * k % (p : Int)).toNat = (n % (p : Int)).toNat * (k % (p : Int)).toNat % p := by
  have h1 := Int.emod_nonneg n (show (p : Int) ≠ 0 by omega)
  have h2 := Int.emod_nonneg k (show (p : Int) ≠ 0 by omega)
  obtain ⟨a, ha⟩ := Int.eq_ofNat_of_zero_le h1
  obtain ⟨b, hb⟩ := Int.eq_ofNat_of_zero_le h2
  rw [Int.mul_emod, ha, hb]
  have e : ((a : Int) * (b : Int)) % (p : Int) = ((a * b % p : Nat) : Int) := by push_cast; rfl
  rw [e]
  simp only [Int.toNat_natCast]
theorem resN_mulI {p : Nat} (h : primeN p = true) (h3 : 3 ≤ p) (n k : Int) : resN (n * k % (p : Int)).toNat p = resN (n % (p : Int)).toNat p * resN (k % (p : Int)).toNat p := by
  have lt : ∀ x : Int, (x % (p : Int)).toNat < p := fun x => by
    have := Int.emod_lt_of_pos x (show (0 : Int) < p by omega)
    have := Int.emod_nonneg x (show (p : Int) ≠ 0 by omega)
    omega
  rw [emod_toNat_mul n k p (by omega), resN_mul h h3, Nat.mod_eq_of_lt (lt n), Nat.mod_eq_of_lt (lt k)]

theorem jm_mul (a b r s : Int) : ∀ k, jm (a * b) (r * s) k = jm a r k * jm b s k
  | 0 => rfl
  | k + 1 => by
    unfold jm
    rw [jm_mul a b r s k, Int.mul_assoc, Int.mul_assoc, Int.mul_left_comm (jm b s k) r s]
theorem jac_fold_mul (n k : Int) : ∀ l : List (Nat × Nat), (∀ x ∈ l, primeN x.1 = true ∧ 3 ≤ x.1) → ∀ a b : Int,
    l.foldl (fun a x => jm a (resN (n * k % (x.1 : Int)).toNat x.1) x.2) (a * b) = l.foldl (fun a x => jm a (resN (n % (x.1 : Int)).toNat x.1) x.2) a * l.foldl (fun a x => jm a (resN (k % (x.1 : Int)).toNat x.1) x.2) b
  | [], _, a, b => rfl
  | x :: l, hl, a, b => by
    obtain ⟨hp, h3⟩ := hl x (by simp)
    simp only [List.foldl_cons]
    rw [resN_mulI hp h3, jm_mul]
    exact jac_fold_mul n k l (fun y hy => hl y (by simp [hy])) _ _
theorem jac_mul {m : Nat} (h1 : 1 ≤ m) (h2 : m ≤ 5000) (ho : m % 2 = 1) (n k : Int) : jacF (n * k) (ppow m) = jacF n (ppow m) * jacF k (ppow m) := by
  have := jac_fold_mul n k (ppow m) (odd_pp h1 h2 ho) 1 1
  rw [Int.mul_one] at this
  exact this
theorem jac_fold_period (n m : Int) : ∀ l : List (Nat × Nat), (∀ x ∈ l, (x.1 : Int) ∣ m) → ∀ a : Int,
    l.foldl (fun a x => jm a (resN ((n + m) % (x.1 : Int)).toNat x.1) x.2) a = l.foldl (fun a x => jm a (resN (n % (x.1 : Int)).toNat x.1) x.2) a
  | [], _, a => rfl
  | x :: l, hl, a => by
    simp only [List.foldl_cons]
    have e : (n + m) % (x.1 : Int) = n % (x.1 : Int) := by
      obtain ⟨c, hc⟩ := hl x (by simp)
      rw [hc, Int.add_mul_emod_self_left]
    rw [e]
    exact jac_fold_period n m l (fun y hy => hl y (by simp [hy])) _
theorem jac_period {m : Nat} (h1 : 1 ≤ m) (h2 : m ≤ 5000) (n : Int) : jacF (n + m) (ppow m) = jacF n (ppow m) :=
  jac_fold_period n m _ (fun x hx => by
    have := (pp_mem h1 h2 hx).2.2.2
    exact Int.natCast_dvd_natCast.2 (Nat.dvd_of_mod_eq_zero this)) 1

def suppOk (m : Nat) : Bool := decide (m % 2 = 0) || (((jacF (-1) (ppow m) == 1) == decide (m % 4 = 1)) && ((jacF 2 (ppow m) == 1) == (decide (m % 8 = 1) || decide (m % 8 = 7))))
theorem suppOk_all : (List.range 120).all suppOk = true := by decide +kernel
theorem supp {m : Nat} (h : m ≤ 119) (ho : m % 2 = 1) : (jacF (-1) (ppow m) == 1) = decide (m % 4 = 1) ∧ (jacF 2 (ppow m) == 1) = (decide (m % 8 = 1) || decide (m % 8 = 7)) := by
  have := List.all_eq_true.1 suppOk_all m (List.mem_range.2 (by omega))
  unfold suppOk at this
  rw [decide_eq_false (by omega)] at this
  simp only [Bool.false_or, Bool.and_eq_true, beq_iff_eq] at this
  exact ⟨this.1, this.2⟩

def eulerOk (p : Nat) : Bool := (List.range p).all (fun r => ((rootF r p).isSome == (resN r p != -1)) && ((resN r p == 0) == decide (r = 0)))
theorem eulerOk_all : [3, 5, 7, 11, 13, 97].all eulerOk = true := by decide +kernel
theorem euler_small {p r : Nat} (hp : p = 3 ∨ p = 5 ∨ p = 7 ∨ p = 11 ∨ p = 13 ∨ p = 97) (hr : r < p) : (rootF r p).isSome = (resN r p != -1) ∧ (resN r p == 0) = decide (r = 0) := by
  have := List.all_eq_true.1 eulerOk_all p (by simp; omega)
  have := List.all_eq_true.1 this r (List.mem_range.2 hr)
  simp only [Bool.and_eq_true, beq_iff_eq] at this
  exact this
theorem odd_drawn {p : Int} (h : prOk p) (ho : oddP p = true) : p = 3 ∨ p = 5 ∨ p = 7 ∨ p = 11 ∨ p = 13 ∨ p = 97 := by
  unfold prOk at h
  rcases h with rfl | rfl | rfl | rfl | rfl | rfl | rfl | rfl | rfl | rfl | rfl | rfl
  all_goals first | omega | (exact absurd ho (by decide))

end Go.Proofs.Ytfjbdbfeolfcfaa

/-! Cls -/
set_option linter.unusedVariables false
namespace Go.Proofs.Ytfjbdbfeolfcfaa
open Go.RowKit

/-- is it a place? -/
def plI (q : Int) : Bool := decide (q = 0) || primeI q
theorem plI_cases {q : Int} (h : plI q = true) : q = 0 ∨ q = 2 ∨ ∃ P : Nat, q = (P : Int) ∧ primeN P = true ∧ 3 ≤ P ∧ P ≤ 5000 := by
  unfold plI at h
  rcases Bool.or_eq_true _ _ ▸ h with h | h
  · exact .inl (of_decide_eq_true h)
  · have hb := primeI_bd h
    by_cases h2 : q = 2
    · exact .inr (.inl h2)
    · exact .inr (.inr ⟨q.toNat, by omega, h, by omega, by omega⟩)
theorem plI_bd {q : Int} (h : plI q = true) : 0 ≤ q ∧ q ≤ 5000 := by
  rcases plI_cases h with rfl | rfl | ⟨P, rfl, _, h3, h5⟩ <;> omega

/-- what is left behind dividing by p -/
def unitI (n p : Int) : Int := n.tdiv (p ^ val n.natAbs p.toNat)
theorem unit_eq {n : Int} {P : Nat} (h : primeN P = true) (hn : n ≠ 0) : unitI n (P : Int) * (P : Int) ^ val n.natAbs P = n := by
  unfold unitI
  rw [Int.toNat_natCast]
  refine Int.tdiv_mul_cancel ?_
  have := val_dvd P (primeN_bd h).1 n.natAbs n.natAbs (Nat.le_refl _) (by omega)
  have e : ((P : Int) ^ val n.natAbs P) = ((P ^ val n.natAbs P : Nat) : Int) := by push_cast; rfl
  rw [e]
  exact Int.ofNat_dvd_left.2 this
theorem unit_ne {n : Int} {P : Nat} (h : primeN P = true) (hn : n ≠ 0) : unitI n (P : Int) ≠ 0 := by
  intro e
  have := unit_eq h hn
  rw [e, Int.zero_mul] at this
  exact hn this.symm
theorem val_pow {P : Nat} (h : primeN P = true) : ∀ k, val (P ^ k) P = k
  | 0 => by
    have := (primeN_bd h).1
    rw [Nat.pow_zero]
    exact val_stop (by rw [Nat.mod_eq_of_lt (by omega)]; omega)
  | k + 1 => by
    have := (primeN_bd h).1
    rw [Nat.pow_succ, val_mul h _ _ _ (Nat.le_refl _) (Nat.pow_pos (by omega)) (by omega), val_pow h k, val_self h]
theorem unit_val {n : Int} {P : Nat} (h : primeN P = true) (hn : n ≠ 0) : val (unitI n (P : Int)).natAbs P = 0 := by
  have h2 := (primeN_bd h).1
  have hu := unit_ne h hn
  have e : n.natAbs = (unitI n (P : Int)).natAbs * P ^ val n.natAbs P := by
    conv => lhs; rw [← unit_eq h hn]
    rw [Int.natAbs_mul, Int.natAbs_pow, Int.natAbs_natCast]
  have hv := val_mul h _ (unitI n (P : Int)).natAbs (P ^ val n.natAbs P) (Nat.le_refl _) (by omega) (Nat.pow_pos (by omega))
  rw [← e, val_pow h] at hv
  omega
theorem unit_dvd {n : Int} {P : Nat} (h : primeN P = true) (hn : n ≠ 0) : ¬ P ∣ (unitI n (P : Int)).natAbs := by
  intro hd
  have h2 := (primeN_bd h).1
  have hu := unit_ne h hn
  have := val_step h2 (show 0 < (unitI n (P : Int)).natAbs by omega) (Nat.mod_eq_zero_of_dvd hd)
  rw [unit_val h hn] at this
  omega
theorem val_mulI {a b : Int} {P : Nat} (h : primeN P = true) (ha : a ≠ 0) (hb : b ≠ 0) : val (a * b).natAbs P = val a.natAbs P + val b.natAbs P := by
  rw [Int.natAbs_mul]
  exact val_mul h _ _ _ (Nat.le_refl _) (by omega) (by omega)
theorem unit_mul {a b : Int} {P : Nat} (h : primeN P = true) (ha : a ≠ 0) (hb : b ≠ 0) : unitI (a * b) (P : Int) = unitI a P * unitI b P := by
  have h2 := (primeN_bd h).1
  have hab : a * b ≠ 0 := Int.mul_ne_zero ha hb
  have e1 := unit_eq h hab
  have e2 := unit_eq h ha
  have e3 := unit_eq h hb
  rw [val_mulI h ha hb, Int.pow_add] at e1
  have hp : (0 : Int) < (P : Int) ^ val a.natAbs P * (P : Int) ^ val b.natAbs P := Int.mul_pos (Int.pow_pos (by omega)) (Int.pow_pos (by omega))
  refine Int.eq_of_mul_eq_mul_right (show (P : Int) ^ val a.natAbs P * (P : Int) ^ val b.natAbs P ≠ 0 by omega) ?_
  rw [e1]
  conv => lhs; rw [← e2, ← e3]
  rw [Int.mul_assoc, Int.mul_assoc]
  congr 1
  rw [← Int.mul_assoc, Int.mul_comm _ (unitI b (P : Int)), Int.mul_assoc]

/-- a power of what p doesn't divide is not divided -/
theorem pow_ndvd {P r : Nat} (h : primeN P = true) (hr : ¬ P ∣ r) : ∀ k, ¬ P ∣ r ^ k
  | 0 => by
    have := (primeN_bd h).1
    rw [Nat.pow_zero, Nat.dvd_one]
    omega
  | k + 1 => by
    rw [Nat.pow_succ]
    intro hd
    rcases prime_mul h hd with hd | hd
    · exact pow_ndvd h hr k hd
    · exact hr hd
theorem res_unit {P r : Nat} (h : primeN P = true) (h3 : 3 ≤ P) (hr : ¬ P ∣ r) : resN r P = 1 ∨ resN r P = -1 := by
  unfold resN
  rcases euler_three h h3 r with e | e | e
  · exact absurd (Nat.dvd_of_mod_eq_zero e) (pow_ndvd h hr _)
  · rw [e, if_neg (by omega)]; exact .inl rfl
  · rw [e, if_pos rfl]; exact .inr rfl
theorem emod_ndvd {P : Nat} {n : Int} (hP : 0 < P) (h : ¬ P ∣ n.natAbs) : ¬ P ∣ (n % (P : Int)).toNat := by
  intro hd
  apply h
  have h1 := Int.emod_nonneg n (show (P : Int) ≠ 0 by omega)
  have h2 : (P : Int) ∣ n % (P : Int) := by
    obtain ⟨k, hk⟩ := hd
    exact ⟨(k : Int), by have : ((n % (P : Int)).toNat : Int) = n % (P : Int) := Int.toNat_of_nonneg h1
                         rw [← this, hk]; push_cast; rfl⟩
  have h3 : (P : Int) ∣ n := by
    rw [← Int.emod_add_mul_ediv n P]
    exact Int.dvd_add h2 (Int.dvd_mul_right _ _)
  exact Int.ofNat_dvd_left.1 h3

/-- the class of a number that is not 0 at a place -/
def cls (n q : Int) : Nat × Int := if q = 0 then (0, if 0 < n then 1 else -1) else (val n.natAbs q.toNat % 2, if q = 2 then unitI n 2 % 8 else resN (unitI n q % q).toNat q.toNat)
def comb (q : Int) (a b : Nat × Int) : Nat × Int := ((a.1 + b.1) % 2, if q = 2 then a.2 * b.2 % 8 else a.2 * b.2)
def clsList (q : Int) : List (Nat × Int) := if q = 0 then [(0, 1), (0, -1)] else if q = 2 then [(0, 1), (0, 3), (0, 5), (0, 7), (1, 1), (1, 3), (1, 5), (1, 7)] else [(0, 1), (0, -1), (1, 1), (1, -1)]
def sqAt (n q : Int) : Bool := cls n q == (0, 1)

theorem prime2 : primeN 2 = true := rfl
theorem cls_zero (n : Int) : cls n 0 = (0, if 0 < n then 1 else -1) := rfl
theorem cls_two (n : Int) : cls n 2 = (val n.natAbs 2 % 2, unitI n 2 % 8) := rfl
theorem cls_odd {P : Nat} (h3 : 3 ≤ P) (n : Int) : cls n (P : Int) = (val n.natAbs P % 2, resN (unitI n P % (P : Int)).toNat P) := by
  unfold cls
  rw [if_neg (by omega), if_neg (by omega), Int.toNat_natCast]

theorem cls_mem {n q : Int} (hn : n ≠ 0) (hq : plI q = true) : cls n q ∈ clsList q := by
  rcases plI_cases hq with rfl | rfl | ⟨P, rfl, hP, h3, h5⟩
  · rw [cls_zero]
    by_cases h : 0 < n
    · rw [if_pos h]; simp [clsList]
    · rw [if_neg h]; simp [clsList]
  · rw [cls_two]
    have h1 : val n.natAbs 2 % 2 = 0 ∨ val n.natAbs 2 % 2 = 1 := by omega
    have hu : ¬ 2 ∣ (unitI n 2).natAbs := unit_dvd prime2 hn
    have h2 : unitI n 2 % 8 = 1 ∨ unitI n 2 % 8 = 3 ∨ unitI n 2 % 8 = 5 ∨ unitI n 2 % 8 = 7 := by omega
    rcases h1 with h1 | h1 <;> rcases h2 with h2 | h2 | h2 | h2 <;> rw [h1, h2] <;> simp [clsList]
  · rw [cls_odd h3]
    have h1 : val n.natAbs P % 2 = 0 ∨ val n.natAbs P % 2 = 1 := by omega
    have h2 := res_unit hP h3 (emod_ndvd (by omega) (unit_dvd hP hn))
    rcases h1 with h1 | h1 <;> rcases h2 with h2 | h2 <;> rw [h1, h2] <;> (unfold clsList; rw [if_neg (by omega), if_neg (by omega)]; decide)

theorem cls_mul {a b q : Int} (ha : a ≠ 0) (hb : b ≠ 0) (hq : plI q = true) : cls (a * b) q = comb q (cls a q) (cls b q) := by
  rcases plI_cases hq with rfl | rfl | ⟨P, rfl, hP, h3, h5⟩
  · rw [cls_zero, cls_zero, cls_zero]
    unfold comb
    have hs : (0 < a * b) ↔ ((0 < a) = (0 < b)) := by
      rcases Int.lt_or_gt_of_ne ha with h1 | h1 <;> rcases Int.lt_or_gt_of_ne hb with h2 | h2
      · have := Int.mul_pos_of_neg_of_neg h1 h2
        simp [this, show ¬ 0 < a by omega, show ¬ 0 < b by omega]
      · have := Int.mul_neg_of_neg_of_pos h1 h2
        simp [show ¬ 0 < a * b by omega, show ¬ 0 < a by omega, show 0 < b by omega]
      · have := Int.mul_neg_of_pos_of_neg h1 h2
        simp [show ¬ 0 < a * b by omega, show 0 < a by omega, show ¬ 0 < b by omega]
      · have := Int.mul_pos h1 h2
        simp [this, show 0 < a by omega, show 0 < b by omega]
    by_cases h1 : 0 < a <;> by_cases h2 : 0 < b <;> simp [hs, h1, h2]
  · rw [cls_two, cls_two, cls_two, show (2 : Int) = ((2 : Nat) : Int) from rfl, val_mulI prime2 ha hb, unit_mul prime2 ha hb]
    unfold comb
    simp only [Prod.mk.injEq]
    exact ⟨by omega, by simp [Int.mul_emod]⟩
  · rw [cls_odd h3, cls_odd h3, cls_odd h3, val_mulI hP ha hb, unit_mul hP ha hb, resN_mulI hP h3]
    unfold comb
    rw [if_neg (by omega)]
    simp only [Prod.mk.injEq]
    exact ⟨by omega, trivial⟩

theorem comb_one {q : Int} (hq : plI q = true) {c d : Nat × Int} (hc : c ∈ clsList q) (hd : d ∈ clsList q) : comb q c d = (0, 1) ↔ c = d := by
  rcases plI_cases hq with rfl | rfl | ⟨P, rfl, hP, h3, h5⟩
  · exact (show ∀ c ∈ clsList 0, ∀ d ∈ clsList 0, (comb 0 c d = (0, 1) ↔ c = d) by decide) c hc d hd
  · exact (show ∀ c ∈ clsList 2, ∀ d ∈ clsList 2, (comb 2 c d = (0, 1) ↔ c = d) by decide) c hc d hd
  · have e0 : ¬ ((P : Int) = 0) := by omega
    have e2 : ¬ ((P : Int) = 2) := by omega
    unfold clsList at hc hd
    rw [if_neg e0, if_neg e2] at hc hd
    unfold comb
    rw [if_neg e2]
    exact (show ∀ c ∈ [((0 : Nat), (1 : Int)), (0, -1), (1, 1), (1, -1)], ∀ d ∈ [((0 : Nat), (1 : Int)), (0, -1), (1, 1), (1, -1)], (((c.1 + d.1) % 2, c.2 * d.2) = ((0 : Nat), (1 : Int)) ↔ c = d) by decide) c hc d hd

theorem getD_at {α : Type} (l : List α) (i : Nat) (h : i < l.length) (d : α) : l.getD i d = l[i] := by simp [List.getD, h]

/-- the names at a place -/
def namesOf (q : Int) : List Int := if q = 0 then [1, -1] else if q = 2 then [1, 3, 5, 7, 2, 6, 10, 14] else [1, ((noneF q.toNat : Nat) : Int), q, q * ((noneF q.toNat : Nat) : Int)]
theorem names_zero : namesOf 0 = [1, -1] := rfl
theorem names_two : namesOf 2 = [1, 3, 5, 7, 2, 6, 10, 14] := rfl
theorem names_odd {P : Nat} (h3 : 3 ≤ P) : namesOf (P : Int) = [1, ((noneF P : Nat) : Int), (P : Int), (P : Int) * ((noneF P : Nat) : Int)] := by
  unfold namesOf
  rw [if_neg (by omega), if_neg (by omega), Int.toNat_natCast]

theorem unit_self {P : Nat} (h : primeN P = true) {n : Int} (hn : ¬ P ∣ n.natAbs) (h0 : n ≠ 0) : val n.natAbs P = 0 ∧ unitI n (P : Int) = n := by
  have e : val n.natAbs P = 0 := val_stop (fun he => hn (Nat.dvd_of_mod_eq_zero he))
  refine ⟨e, ?_⟩
  have := unit_eq h h0
  rw [e, Int.pow_zero, Int.mul_one] at this
  exact this
theorem unit_p {P : Nat} (h : primeN P = true) : val (P : Int).natAbs P = 1 ∧ unitI (P : Int) (P : Int) = 1 := by
  have h2 := (primeN_bd h).1
  have e : val (P : Int).natAbs P = 1 := by rw [Int.natAbs_natCast]; exact val_self h
  refine ⟨e, ?_⟩
  have := unit_eq h (show (P : Int) ≠ 0 by omega)
  rw [e, Int.pow_one] at this
  exact Int.eq_of_mul_eq_mul_right (show (P : Int) ≠ 0 by omega) (by rw [this, Int.one_mul])
theorem pw_one (e : Nat) {P : Nat} (h : 2 ≤ P) : pw 1 e P = 1 := by
  unfold pw; rw [Nat.one_pow, Nat.mod_eq_of_lt (by omega)]
theorem resN_one {P : Nat} (h3 : 3 ≤ P) : resN 1 P = 1 := by
  unfold resN
  rw [pw_one _ (by omega), if_neg (by omega)]
  rfl

theorem names_cls {q : Int} (hq : plI q = true) : (namesOf q).map (fun m => cls m q) = clsList q := by
  rcases plI_cases hq with rfl | rfl | ⟨P, rfl, hP, h3, h5⟩
  · decide
  · decide +kernel
  · obtain ⟨s1, s2, s3, s4, _⟩ := noneF_spec hP h3
    rw [names_odd h3]
    have c1 : cls 1 (P : Int) = (0, 1) := by
      have hd : ¬ P ∣ (1 : Int).natAbs := by
        intro hd
        have := Nat.le_of_dvd (by decide) hd
        have : (1 : Int).natAbs = 1 := rfl
        omega
      obtain ⟨a, b⟩ := unit_self hP hd (by decide)
      rw [cls_odd h3, a, b, show ((1 : Int) % (P : Int)).toNat = 1 by rw [Int.emod_eq_of_lt (by omega) (by omega)]; rfl, resN_one h3]
    have cu : cls ((noneF P : Nat) : Int) (P : Int) = (0, -1) := by
      have hd : ¬ P ∣ ((noneF P : Nat) : Int).natAbs := by
        intro hd
        rw [Int.natAbs_natCast] at hd
        have := Nat.le_of_dvd (by omega) hd
        omega
      obtain ⟨a, b⟩ := unit_self hP hd (by omega)
      rw [cls_odd h3, a, b, show (((noneF P : Nat) : Int) % (P : Int)).toNat = noneF P % P by rw [← Int.natCast_emod, Int.toNat_natCast], s4]
    have cp : cls (P : Int) (P : Int) = (1, 1) := by
      obtain ⟨a, b⟩ := unit_p hP
      rw [cls_odd h3, a, b, show ((1 : Int) % (P : Int)).toNat = 1 by rw [Int.emod_eq_of_lt (by omega) (by omega)]; rfl, resN_one h3]
    have cpu : cls ((P : Int) * (noneF P : Nat)) (P : Int) = (1, -1) := by
      rw [cls_mul (by omega) (by omega) hq, cp, cu]
      unfold comb
      rw [if_neg (by omega)]
      decide
    simp only [List.map_cons, List.map_nil, c1, cu, cp, cpu]
    unfold clsList
    rw [if_neg (by omega), if_neg (by omega)]

theorem cls_nodup (q : Int) : (clsList q).Nodup := by
  unfold clsList
  split
  · decide
  · split <;> decide
theorem names_len {q : Int} (hq : plI q = true) : (namesOf q).length = (clsList q).length := by
  rw [← names_cls hq, List.length_map]
theorem names_ne {q : Int} (hq : plI q = true) : ∀ m ∈ namesOf q, m ≠ 0 := by
  rcases plI_cases hq with rfl | rfl | ⟨P, rfl, hP, h3, h5⟩
  · decide
  · decide
  · obtain ⟨s1, s2, s3, s4, _⟩ := noneF_spec hP h3
    rw [names_odd h3]
    intro m hm
    simp only [List.mem_cons, List.mem_nil_iff, or_false] at hm
    rcases hm with rfl | rfl | rfl | rfl
    · decide
    · omega
    · omega
    · exact Int.mul_ne_zero (by omega) (by omega)
theorem names_bd {q : Int} (hq : plI q = true) : ∀ m ∈ namesOf q, -1 ≤ m ∧ m ≤ 315000 := by
  rcases plI_cases hq with rfl | rfl | ⟨P, rfl, hP, h3, h5⟩
  · decide
  · decide
  · obtain ⟨s1, s2, s3, s4, _⟩ := noneF_spec hP h3
    rw [names_odd h3]
    intro m hm
    simp only [List.mem_cons, List.mem_nil_iff, or_false] at hm
    rcases hm with rfl | rfl | rfl | rfl
    · omega
    · omega
    · omega
    · have := Nat.mul_le_mul h5 (show noneF P ≤ 63 by omega)
      have e : (P : Int) * (noneF P : Nat) = ((P * noneF P : Nat) : Int) := by push_cast; rfl
      rw [e]; omega

/-- the place of a class among the classes -/
def clsIdx (n q : Int) : Nat := (clsList q).idxOf (cls n q)
/-- the name of a number's class -/
def nameOf (n q : Int) : Int := (namesOf q).getD (clsIdx n q) 0
theorem clsIdx_lt {n q : Int} (hn : n ≠ 0) (hq : plI q = true) : clsIdx n q < (namesOf q).length := by
  rw [names_len hq]; exact List.idxOf_lt_length_iff.2 (cls_mem hn hq)
theorem cls_at {q : Int} (hq : plI q = true) (i : Nat) (h : i < (namesOf q).length) : cls ((namesOf q).getD i 0) q = (clsList q).getD i (0, 0) := by
  have hl := names_len hq
  rw [getD_at _ _ h, getD_at _ _ (by omega)]
  have := congrArg (fun l => l[i]?) (names_cls hq)
  simp only [List.getElem?_map, List.getElem?_eq_getElem h, List.getElem?_eq_getElem (show i < (clsList q).length by omega), Option.map_some, Option.some.injEq] at this
  exact this
theorem idx_at {n q : Int} (hn : n ≠ 0) (hq : plI q = true) : (clsList q).getD (clsIdx n q) (0, 0) = cls n q := by
  have h := List.idxOf_lt_length_iff.2 (cls_mem hn hq)
  unfold clsIdx
  rw [getD_at _ _ h]
  exact List.getElem_idxOf h
theorem idx_uniq {n q : Int} (hn : n ≠ 0) (hq : plI q = true) {i : Nat} (h : i < (namesOf q).length) (e : (clsList q).getD i (0, 0) = cls n q) : i = clsIdx n q := by
  have hl := names_len hq
  have h2 := clsIdx_lt hn hq
  have e2 := idx_at hn hq
  rw [getD_at _ _ (by omega)] at e e2
  have hnd := List.pairwise_iff_getElem.1 (cls_nodup q)
  rcases Nat.lt_trichotomy i (clsIdx n q) with hlt | he | hlt
  · exact absurd (by rw [e, e2]) (hnd _ _ (by omega) (by omega) hlt)
  · exact he
  · exact absurd (by rw [e, e2]) (hnd _ _ (by omega) (by omega) hlt)
theorem cls_name {n q : Int} (hn : n ≠ 0) (hq : plI q = true) : cls (nameOf n q) q = cls n q := by
  unfold nameOf
  rw [cls_at hq _ (clsIdx_lt hn hq), idx_at hn hq]
theorem name_mem {n q : Int} (hn : n ≠ 0) (hq : plI q = true) : nameOf n q ∈ namesOf q := by
  unfold nameOf
  rw [getD_at _ _ (clsIdx_lt hn hq)]
  exact List.getElem_mem _
theorem name_ne {n q : Int} (hn : n ≠ 0) (hq : plI q = true) : nameOf n q ≠ 0 := names_ne hq _ (name_mem hn hq)
theorem name_congr {a b q : Int} (h : cls a q = cls b q) : nameOf a q = nameOf b q := by unfold nameOf clsIdx; rw [h]
/-- the test with the name number i -/
theorem sq_name {n q : Int} (hn : n ≠ 0) (hq : plI q = true) {i : Nat} (h : i < (namesOf q).length) : sqAt (n * (namesOf q).getD i 0) q = decide (i = clsIdx n q) := by
  have hm : (namesOf q).getD i 0 ∈ namesOf q := by rw [getD_at _ _ h]; exact List.getElem_mem _
  have h0 := names_ne hq _ hm
  unfold sqAt
  rw [cls_mul hn h0 hq]
  by_cases e : i = clsIdx n q
  · rw [decide_eq_true e, beq_iff_eq, comb_one hq (cls_mem hn hq) (cls_mem h0 hq), cls_at hq i h, e, idx_at hn hq]
  · rw [decide_eq_false e, beq_eq_false_iff_ne]
    intro he
    rw [comb_one hq (cls_mem hn hq) (cls_mem h0 hq), cls_at hq i h] at he
    exact e (idx_uniq hn hq h he.symm)
theorem sq_mul {a b q : Int} (ha : a ≠ 0) (hb : b ≠ 0) (hq : plI q = true) : sqAt (a * b) q = decide (cls a q = cls b q) := by
  unfold sqAt
  rw [cls_mul ha hb hq]
  by_cases e : cls a q = cls b q
  · rw [decide_eq_true e, beq_iff_eq, comb_one hq (cls_mem ha hq) (cls_mem hb hq), e]
  · rw [decide_eq_false e, beq_eq_false_iff_ne]
    intro he
    exact e ((comb_one hq (cls_mem ha hq) (cls_mem hb hq)).1 he)

theorem mul_bdI {a b : Int} (h1 : -5000 ≤ a) (h2 : a ≤ 5000) (h3 : -5000 ≤ b) (h4 : b ≤ 5000) : -25000000 ≤ a * b ∧ a * b ≤ 25000000 := by
  have h : (a * b).natAbs ≤ 25000000 := by
    rw [Int.natAbs_mul]
    exact Nat.le_trans (Nat.mul_le_mul (show a.natAbs ≤ 5000 by omega) (show b.natAbs ≤ 5000 by omega)) (by decide)
  omega

end Go.Proofs.Ytfjbdbfeolfcfaa

/-! Vals -/
set_option linter.unusedVariables false
namespace Go.Proofs.Ytfjbdbfeolfcfaa
open Go.RowKit

def okAt (n q : Int) : Bool := factB n && plI q
theorem okAt_cases (n q : Int) : (-5000 ≤ n ∧ n ≤ 5000 ∧ n ≠ 0 ∧ plI q = true ∧ okAt n q = true) ∨ okAt n q = false := by
  unfold okAt
  rcases factB_cases n with ⟨h1, h2, h0, O, hF⟩ | ⟨rfl, hF⟩ | ⟨h0, O, hF⟩
  · cases h : plI q
    · right; simp
    · left; exact ⟨h1, h2, h0, rfl, by rw [hF]; rfl⟩
  · right; rw [hF]; rfl
  · right; rw [hF]; rfl
def lsV (n q : Int) : Bool := okAt n q && sqAt n q
def lsameV (a b q : Int) : Bool := okAt a q && (okAt b q && decide (cls a q = cls b q))
def lnamesL (q : Int) : List Int := if plI q then namesOf q else []
def lnameV (n q : Int) : Value := if okAt n q then .tuple #[.int .i64 (nameOf n q), .bool true] else .tuple #[.int .i64 0, .bool false]
theorem lnameV_yes {n q : Int} (h : okAt n q = true) : lnameV n q = .tuple #[.int .i64 (nameOf n q), .bool true] := by unfold lnameV; rw [if_pos h]
theorem lnameV_no {n q : Int} (h : okAt n q = false) : lnameV n q = .tuple #[.int .i64 0, .bool false] := by unfold lnameV; rw [if_neg (by rw [h]; decide)]
def lmulV (a b q : Int) : Value := if okAt a q && okAt b q then .tuple #[.int .i64 (nameOf (a * b) q), .bool true] else .tuple #[.int .i64 0, .bool false]
def lunitV (n p : Int) : Value := if factB n && primeI p then .tuple #[.int .i64 (unitI n p), .bool true] else .tuple #[.int .i64 0, .bool false]
/-- the odd primes of a number behind 0 and 2 -/
def placesOf (n : Int) : List Int := [0, 2] ++ (natsI (plist n.natAbs)).filter (fun x => decide (2 < x))
theorem natsI_get {l : List Nat} {i : Nat} (h : i < (natsI l).length) : ∃ x : Nat, (natsI l).getD i 0 = (x : Int) ∧ x ∈ l := by
  unfold natsI at h ⊢
  rw [List.length_map] at h
  exact ⟨l[i], by rw [getD_at _ _ (by rw [List.length_map]; exact h)]; simp, List.getElem_mem h⟩
def plistOk (N : Nat) : Bool := (plist N).all (fun x => primeN x && decide (N = 0 ∨ N % x = 0)) && decide ((plist N).length ≤ 70)
theorem plistOk_all : (List.range 5001).all plistOk = true := by decide +kernel
theorem plist_ok {N : Nat} (h2 : N ≤ 5000) : (plist N).length ≤ 70 ∧ ∀ x ∈ plist N, primeN x = true ∧ (N = 0 ∨ N % x = 0) := by
  have := List.all_eq_true.1 plistOk_all N (List.mem_range.2 (by omega))
  unfold plistOk at this
  rw [Bool.and_eq_true] at this
  refine ⟨of_decide_eq_true this.2, fun x hx => ?_⟩
  have := List.all_eq_true.1 this.1 x hx
  rw [Bool.and_eq_true] at this
  exact ⟨this.1, of_decide_eq_true this.2⟩
theorem placesOf_ok {n : Int} (h0 : n ≠ 0) (h1 : -5000 ≤ n) (h2 : n ≤ 5000) : (placesOf n).length ≤ 72 ∧ ∀ q ∈ placesOf n, plI q = true := by
  obtain ⟨hl, hp⟩ := plist_ok (show n.natAbs ≤ 5000 by omega)
  unfold placesOf
  constructor
  · have h3 := List.length_filter_le (fun x : Int => decide (2 < x)) (natsI (plist n.natAbs))
    have h4 : (natsI (plist n.natAbs)).length = (plist n.natAbs).length := by unfold natsI; rw [List.length_map]
    rw [List.length_append]
    simp only [List.length_cons, List.length_nil]
    omega
  · intro q hq
    simp only [List.cons_append, List.nil_append, List.mem_cons] at hq
    rcases hq with rfl | rfl | hq
    · rfl
    · rfl
    · have hm := (List.mem_filter.1 hq).1
      unfold natsI at hm
      rw [List.mem_map] at hm
      obtain ⟨x, hx, rfl⟩ := hm
      have := (hp x hx).1
      unfold plI
      rw [show primeI (x : Int) = true from this, Bool.or_true]
def lplacesL (n : Int) : List Int := if factB n then (placesOf n).filter (fun q => !sqAt n q) else []
def lrootOk (n p k : Int) : Bool := okN n && (primeI p && (inR k 1 12 && decide (p.toNat ^ k.toNat ≤ 5000)))
def rootT (o : Option Nat) : Value := match o with | some x => .tuple #[.int .i64 (x : Nat), .bool true] | none => .tuple #[.int .i64 0, .bool false]
def lrootV (n p k : Int) : Value := if lrootOk n p k then rootT (rootF (n % ((p.toNat ^ k.toNat : Nat) : Int)).toNat (p.toNat ^ k.toNat)) else .tuple #[.int .i64 0, .bool false]
theorem lrootV_no {n p k : Int} (h : lrootOk n p k = false) : lrootV n p k = .tuple #[.int .i64 0, .bool false] := by unfold lrootV; rw [if_neg (by rw [h]; decide)]
theorem cap_step {P A i : Nat} (hP : 1 ≤ P) (h : A = min (P ^ i) 5001) : min (A * P) 5001 = min (P ^ (i + 1)) 5001 := by
  rw [Nat.pow_succ]
  have h1 : 1 ≤ P ^ i := Nat.pow_pos (by omega)
  by_cases hc : P ^ i ≤ 5001
  · rw [h, Nat.min_eq_left hc]
  · have e : min (P ^ i) 5001 = 5001 := Nat.min_eq_right (by omega)
    rw [h, e]
    have h2 := Nat.mul_le_mul_left 5001 hP
    have h3 := Nat.mul_le_mul_left (P ^ i) hP
    omega

end Go.Proofs.Ytfjbdbfeolfcfaa

/-! Loc -/
set_option linter.unusedVariables false
namespace Go.Proofs.Ytfjbdbfeolfcfaa
open Go.RowKit

theorem owns_lit {W : World} {B : Nat} (xs : List Int) (cur : Array Value) (hc : cur = (xs.map (Value.int .i64)).toArray) (hB : B ≤ W.heap.size) (hm : xs.length ≤ maxLen) :
    Owns (W.alloc (.cells cur 3)) B (.slice (some ⟨W.heap.size, 0, none⟩) xs.length xs.length) xs := by
  subst hc
  refine ⟨by simp, .inr ⟨W.heap.size, xs.length, _, rfl, hB, heap_alloc_new W _, Nat.le_refl _, hm, by simp, ?_⟩⟩
  rw [List.take_of_length_le (by simp)]

theorem unit_bd (n p : Int) : (unitI n p).natAbs ≤ n.natAbs := by
  unfold unitI
  rw [Int.natAbs_tdiv]
  exact Nat.div_le_self _ _









end Go.Proofs.Ytfjbdbfeolfcfaa

/-! Sym -/
set_option linter.unusedVariables false
namespace Go.Proofs.Ytfjbdbfeolfcfaa
open Go.RowKit

def halfI (e : Int) : Int := if e % 2 = 0 then 1 else -1
theorem halfI_small (e : Int) : -1 ≤ halfI e ∧ halfI e ≤ 1 := by unfold halfI; split <;> omega
theorem halfI_congr {e f : Int} (h : e % 2 = f % 2) : halfI e = halfI f := by unfold halfI; rw [h]

/-- the symbol of two classes at a place -/
def symC (q : Int) (c d : Nat × Int) : Int :=
  if q = 0 then (if c.2 = -1 ∧ d.2 = -1 then -1 else 1)
  else if q = 2 then halfI ((c.2 - 1) / 2 * ((d.2 - 1) / 2) + (c.1 : Int) * ((d.2 * d.2 - 1) / 8) + (d.1 : Int) * ((c.2 * c.2 - 1) / 8))
  else halfI ((c.1 : Int) * (d.1 : Int) * ((q - 1) / 2)) * (if d.1 = 1 then c.2 else 1) * (if c.1 = 1 then d.2 else 1)
def symV (a b q : Int) : Int := symC q (cls a q) (cls b q)

/-- how large a valuation can be -/
theorem val_small {n : Int} {P : Nat} (hP : primeN P = true) (h0 : n ≠ 0) (h1 : -1000000000000000 ≤ n) (h2 : n ≤ 1000000000000000) : val n.natAbs P ≤ 50 := by
  have hp2 := (primeN_bd hP).1
  have hd := Nat.le_of_dvd (show 0 < n.natAbs by omega) (val_dvd P hp2 n.natAbs n.natAbs (Nat.le_refl _) (by omega))
  have h3 := Nat.pow_le_pow_left hp2 (val n.natAbs P)
  by_cases hc : val n.natAbs P ≤ 50
  · exact hc
  · have h4 := Nat.pow_le_pow_right (show 0 < 2 by omega) (show 51 ≤ val n.natAbs P by omega)
    have : (2 : Nat) ^ 51 = 2251799813685248 := by decide
    omega

theorem par_mul (i j h : Nat) : ((i : Int) * (j : Int) * (h : Int)) % 2 = (((i % 2 : Nat) : Int) * ((j % 2 : Nat) : Int) * (h : Int)) % 2 := by
  have : (i * j * h) % 2 = ((i % 2) * (j % 2) * h) % 2 := by simp [Nat.mul_mod]
  exact_mod_cast this
theorem par_two {u v : Int} (hu : 0 ≤ u ∧ u < 16 ∧ u % 2 = 1) (hv : 0 ≤ v ∧ v < 16 ∧ v % 2 = 1) (i j : Nat) :
    ((u - 1) / 2 * ((v - 1) / 2) + (i : Int) * ((v * v - 1) / 8) + (j : Int) * ((u * u - 1) / 8)) % 2 =
    ((u % 8 - 1) / 2 * ((v % 8 - 1) / 2) + ((i % 2 : Nat) : Int) * ((v % 8 * (v % 8) - 1) / 8) + ((j % 2 : Nat) : Int) * ((u % 8 * (u % 8) - 1) / 8)) % 2 := by
  have h1 : u = 1 ∨ u = 3 ∨ u = 5 ∨ u = 7 ∨ u = 9 ∨ u = 11 ∨ u = 13 ∨ u = 15 := by omega
  have h2 : v = 1 ∨ v = 3 ∨ v = 5 ∨ v = 7 ∨ v = 9 ∨ v = 11 ∨ v = 13 ∨ v = 15 := by omega
  rcases h1 with rfl | rfl | rfl | rfl | rfl | rfl | rfl | rfl <;> rcases h2 with rfl | rfl | rfl | rfl | rfl | rfl | rfl | rfl <;> (simp only [Int.reduceMod, Int.reduceSub, Int.reduceDiv, Int.reduceMul]; omega)


end Go.Proofs.Ytfjbdbfeolfcfaa

/-! Sym2 -/
set_option linter.unusedVariables false
namespace Go.Proofs.Ytfjbdbfeolfcfaa
open Go.RowKit

/-- the kind of a place: the real one, 2, a prime 1 more than a multiple of 4, another odd prime -/
def kOf (q : Int) : Nat := if q = 0 then 0 else if q = 2 then 1 else if (q - 1) / 2 % 2 = 0 then 2 else 3
def listK (k : Nat) : List (Nat × Int) := if k = 0 then [(0, 1), (0, -1)] else if k = 1 then [(0, 1), (0, 3), (0, 5), (0, 7), (1, 1), (1, 3), (1, 5), (1, 7)] else [(0, 1), (0, -1), (1, 1), (1, -1)]
def combK (k : Nat) (a b : Nat × Int) : Nat × Int := ((a.1 + b.1) % 2, if k = 1 then a.2 * b.2 % 8 else a.2 * b.2)
def symK (k : Nat) (c d : Nat × Int) : Int :=
  if k = 0 then (if c.2 = -1 ∧ d.2 = -1 then -1 else 1)
  else if k = 1 then halfI ((c.2 - 1) / 2 * ((d.2 - 1) / 2) + (c.1 : Int) * ((d.2 * d.2 - 1) / 8) + (d.1 : Int) * ((c.2 * c.2 - 1) / 8))
  else halfI ((c.1 : Int) * (d.1 : Int) * ((k : Int) - 2)) * (if d.1 = 1 then c.2 else 1) * (if c.1 = 1 then d.2 else 1)
def minusK (k : Nat) : Nat × Int := if k = 1 then (0, 7) else if k = 2 then (0, 1) else (0, -1)
theorem kOf_lt (q : Int) : kOf q < 4 := by unfold kOf; split; (· decide); (· split; (· decide); (· split <;> decide))
theorem kOf_zero (q : Int) : kOf q = 0 ↔ q = 0 := by
  unfold kOf; split
  · simp [*]
  · split
    · simp [*]
    · split <;> simp [*]
theorem kOf_one (q : Int) : kOf q = 1 ↔ q = 2 := by
  unfold kOf; split
  · constructor
    · intro h; cases h
    · intro h; omega
  · split
    · simp [*]
    · split <;> simp [*]
theorem clsList_k (q : Int) : clsList q = listK (kOf q) := by
  unfold clsList listK
  by_cases h0 : q = 0
  · rw [if_pos h0, if_pos ((kOf_zero q).2 h0)]
  · rw [if_neg h0, if_neg (fun h => h0 ((kOf_zero q).1 h))]
    by_cases h2 : q = 2
    · rw [if_pos h2, if_pos ((kOf_one q).2 h2)]
    · rw [if_neg h2, if_neg (fun h => h2 ((kOf_one q).1 h))]
theorem comb_k (q : Int) : comb q = combK (kOf q) := by
  funext a b
  unfold comb combK
  by_cases h2 : q = 2
  · rw [if_pos h2, if_pos ((kOf_one q).2 h2)]
  · rw [if_neg h2, if_neg (fun h => h2 ((kOf_one q).1 h))]
theorem sym_k (q : Int) (c d : Nat × Int) : symC q c d = symK (kOf q) c d := by
  unfold symC symK
  by_cases h0 : q = 0
  · rw [if_pos h0, if_pos ((kOf_zero q).2 h0)]
  · rw [if_neg h0, if_neg (fun h => h0 ((kOf_zero q).1 h))]
    by_cases h2 : q = 2
    · rw [if_pos h2, if_pos ((kOf_one q).2 h2)]
    · rw [if_neg h2, if_neg (fun h => h2 ((kOf_one q).1 h))]
      congr 2
      refine halfI_congr ?_
      rw [Int.mul_emod, Int.mul_emod _ ((kOf q : Int) - 2)]
      congr 2
      unfold kOf
      rw [if_neg h0, if_neg h2]
      split
      · next h => rw [h]; rfl
      · next h => rw [show (q - 1) / 2 % 2 = 1 by omega]; rfl

theorem K_all {Q : Nat → (Nat × Int) → (Nat × Int) → (Nat × Int) → Bool} (h : (List.range 4).all (fun k => (listK k).all (fun c => (listK k).all (fun d => (listK k).all (fun e => Q k c d e)))) = true)
    {q : Int} {c d e : Nat × Int} (hc : c ∈ clsList q) (hd : d ∈ clsList q) (he : e ∈ clsList q) : Q (kOf q) c d e = true := by
  rw [clsList_k] at hc hd he
  have h1 := List.all_eq_true.1 h (kOf q) (List.mem_range.2 (kOf_lt q))
  exact List.all_eq_true.1 (List.all_eq_true.1 (List.all_eq_true.1 h1 c hc) d hd) e he

theorem sym_val {q : Int} {c d : Nat × Int} (hc : c ∈ clsList q) (hd : d ∈ clsList q) : symC q c d = 1 ∨ symC q c d = -1 := by
  rw [sym_k]
  have := K_all (Q := fun k c d _ => symK k c d == 1 || symK k c d == -1) (by decide +kernel) hc hd hd
  rw [Bool.or_eq_true, beq_iff_eq, beq_iff_eq] at this
  exact this
theorem sym_comm {q : Int} {c d : Nat × Int} (hc : c ∈ clsList q) (hd : d ∈ clsList q) : symC q c d = symC q d c := by
  rw [sym_k, sym_k]
  have := K_all (Q := fun k c d _ => symK k c d == symK k d c) (by decide +kernel) hc hd hd
  exact beq_iff_eq.1 this
theorem sym_mul {q : Int} {c d e : Nat × Int} (hc : c ∈ clsList q) (hd : d ∈ clsList q) (he : e ∈ clsList q) : symC q c (comb q d e) = symC q c d * symC q c e := by
  rw [sym_k, sym_k, sym_k, comb_k]
  have := K_all (Q := fun k c d e => symK k c (combK k d e) == symK k c d * symK k c e) (by decide +kernel) hc hd he
  exact beq_iff_eq.1 this
theorem sym_one {q : Int} {c : Nat × Int} (hc : c ∈ clsList q) : symC q c (0, 1) = 1 := by
  rw [sym_k]
  have := K_all (Q := fun k c _ _ => symK k c (0, 1) == 1) (by decide +kernel) hc hc hc
  exact beq_iff_eq.1 this
theorem sym_minus {q : Int} {c : Nat × Int} (hc : c ∈ clsList q) : symC q c (comb q (minusK (kOf q)) c) = 1 := by
  rw [sym_k, comb_k]
  have := K_all (Q := fun k c _ _ => symK k c (combK k (minusK k) c) == 1) (by decide +kernel) hc hc hc
  exact beq_iff_eq.1 this

theorem pwm {P : Nat} (h : 2 ≤ P) : ∀ k, pw (P - 1) k P = if k % 2 = 0 then 1 else P - 1
  | 0 => by unfold pw; rw [Nat.pow_zero, Nat.mod_eq_of_lt (by omega)]; rfl
  | k + 1 => by
    rw [pw_succ, pwm h k]
    by_cases e : k % 2 = 0
    · rw [if_pos e, if_neg (by omega), Nat.one_mul, Nat.mod_eq_of_lt (by omega)]
    · rw [if_neg e, if_pos (by omega)]
      obtain ⟨q, rfl⟩ : ∃ q, P = q + 2 := ⟨P - 2, by omega⟩
      have e2 : (q + 2 - 1) * (q + 2 - 1) = 1 + (q + 2) * q := by
        rw [show q + 2 - 1 = q + 1 by omega]
        simp only [Nat.add_mul, Nat.mul_add]
        omega
      rw [e2, Nat.add_mul_mod_self_left, Nat.mod_eq_of_lt (show 1 < q + 2 by omega)]
theorem cls_minus {q : Int} (hq : plI q = true) : cls (-1) q = minusK (kOf q) := by
  rcases plI_cases hq with rfl | rfl | ⟨P, rfl, hP, h3, h5⟩
  · rfl
  · decide
  · have hd : ¬ P ∣ (-1 : Int).natAbs := by
      intro hd
      have := Nat.le_of_dvd (by decide) hd
      have : (-1 : Int).natAbs = 1 := rfl
      omega
    have hodd : P % 2 = 1 := by
      have := primeN_no hP (Nat.le_refl 2)
      by_cases h : P % 2 = 0
      · exact absurd h (this (by omega))
      · omega
    obtain ⟨a, b⟩ := unit_self hP hd (by decide)
    rw [cls_odd h3, a, b]
    have em : ((-1 : Int) % (P : Int)).toNat = P - 1 := by
      have : (-1 : Int) % (P : Int) = (P : Int) - 1 := by
        rw [← Int.add_emod_right (-1) (P : Int), Int.emod_eq_of_lt (by omega) (by omega)]; omega
      rw [this]; omega
    rw [em]
    by_cases h4 : (P - 1) / 2 % 2 = 0
    · have hk : kOf (P : Int) = 2 := by unfold kOf; rw [if_neg (by omega), if_neg (by omega), if_pos (by omega)]
      rw [hk]
      unfold resN
      rw [pwm (by omega), if_pos h4, if_neg (by omega)]
      rfl
    · have hk : kOf (P : Int) = 3 := by unfold kOf; rw [if_neg (by omega), if_neg (by omega), if_neg (by omega)]
      rw [hk]
      unfold resN
      rw [pwm (by omega), if_neg h4, if_pos rfl]
      rfl
theorem minus_mem {q : Int} (hq : plI q = true) : minusK (kOf q) ∈ clsList q := by rw [← cls_minus hq]; exact cls_mem (by decide) hq

/-- numbers -/
theorem symV_val {a b q : Int} (ha : a ≠ 0) (hb : b ≠ 0) (hq : plI q = true) : symV a b q = 1 ∨ symV a b q = -1 := sym_val (cls_mem ha hq) (cls_mem hb hq)
theorem symV_comm {a b q : Int} (ha : a ≠ 0) (hb : b ≠ 0) (hq : plI q = true) : symV a b q = symV b a q := sym_comm (cls_mem ha hq) (cls_mem hb hq)
theorem symV_mul {a b c q : Int} (ha : a ≠ 0) (hb : b ≠ 0) (hc : c ≠ 0) (hq : plI q = true) : symV a (b * c) q = symV a b q * symV a c q := by
  unfold symV
  rw [cls_mul hb hc hq]
  exact sym_mul (cls_mem ha hq) (cls_mem hb hq) (cls_mem hc hq)
theorem symV_minus {a q : Int} (ha : a ≠ 0) (hq : plI q = true) : symV a (-a) q = 1 := by
  unfold symV
  rw [show -a = -1 * a by omega, cls_mul (by decide) ha hq, cls_minus hq]
  exact sym_minus (cls_mem ha hq)
theorem symV_congr {a b c d q : Int} (h1 : cls a q = cls c q) (h2 : cls b q = cls d q) : symV a b q = symV c d q := by unfold symV; rw [h1, h2]
theorem symV_sq {a b q : Int} (ha : a ≠ 0) (hq : plI q = true) (h : sqAt b q = true) : symV a b q = 1 := by
  unfold symV sqAt at *
  rw [beq_iff_eq] at h
  rw [h]
  exact sym_one (cls_mem ha hq)

end Go.Proofs.Ytfjbdbfeolfcfaa

/-! Loc2 -/
set_option linter.unusedVariables false
namespace Go.Proofs.Ytfjbdbfeolfcfaa
open Go.RowKit

/-- a slice that reads as these numbers, by its address -/
theorem Rd.form {W : World} {v : Value} {xs : List Int} (h : Rd W v xs) : ∃ a cap, v = .slice a xs.length cap ∧
    (0 < xs.length → ∃ b o, a = some ⟨b, o, none⟩ ∧ xs.length ≤ maxLen ∧ ∀ i, i < xs.length → W.cell? ⟨b, o + i, none⟩ = some (.int .i64 (xs.getD i 0))) := by
  rcases h with ⟨a, cap, rfl, rfl⟩ | ⟨b, o, cap, rfl, h0, hm, hc⟩
  · exact ⟨a, cap, rfl, fun h => by simp at h⟩
  · exact ⟨_, cap, rfl, fun _ => ⟨b, o, rfl, hm, hc⟩⟩
theorem Rd.room {W : World} {a : Option Addr} {n cap : Nat} {xs : List Int} (h : Rd W (.slice a n cap) xs) : n ≤ cap := by
  rcases h with ⟨_, _, e, _⟩ | ⟨_, _, _, e, h0, _⟩
  · cases e; exact Nat.zero_le _
  · cases e; exact h0.2
theorem take_snoc {α : Type} (l : List α) (i : Nat) (h : i < l.length) : l.take (i + 1) = l.take i ++ [l[i]] := by
  rw [List.take_add_one, List.getElem?_eq_getElem h]; rfl
theorem filter_step {l : List Int} {f : Int → Bool} {i : Nat} (h : i < l.length) : (l.take (i + 1)).filter f = (l.take i).filter f ++ if f (l.getD i 0) then [l.getD i 0] else [] := by
  rw [take_snoc _ _ h, List.filter_append, getD_at _ _ h]
  congr 1
  by_cases e : f l[i] = true
  · rw [if_pos e]; simp [e]
  · rw [if_neg e]; simp [e]
theorem filter_len {l : List Int} {f : Int → Bool} {i : Nat} (h : i ≤ l.length) : ((l.take i).filter f).length ≤ i :=
  Nat.le_trans (List.length_filter_le _ _) (by rw [List.length_take]; omega)


end Go.Proofs.Ytfjbdbfeolfcfaa

/-! PrimesG -/
set_option linter.unusedVariables false
namespace Go.Proofs.Ytfjbdbfeolfcfaa
open Go.RowKit

/-- the primes by trial, for whatever number -/
def plistG (n : Nat) : List Nat := plGo (n + 1) 2 n
theorem sq_le6 {p n : Nat} (h : p * p ≤ n) (hn : n ≤ 1000000000000) : p ≤ 1000000 := by
  by_cases hp : p ≤ 1000000
  · exact hp
  · have := Nat.mul_le_mul (show 1000001 ≤ p by omega) (show 1000001 ≤ p by omega)
    omega
theorem ediv_bdG {a b : Nat} (h : a ≤ 1000000000000) : 0 ≤ (a : Int) / b ∧ (a : Int) / b ≤ 1000000000000 := by
  have h1 : (a : Int) / b = ((a / b : Nat) : Int) := by push_cast; rfl
  have h2 := Nat.div_le_self a b
  rw [h1]
  exact ⟨Int.natCast_nonneg _, by omega⟩

set_option maxRecDepth 100000 in
set_option maxHeartbeats 2000000 in
theorem l1PrimesG_any (n : Int) (h0 : n ≠ 0) (a1 : -1000000000000 ≤ n) (a2 : n ≤ 1000000000000) (w : World) :
    Calls Try.prog 87 #[.int .i64 n] w fun e w' => ∃ v, e = .returned v ∧ Owns w' w.heap.size v (natsI (plistG n.natAbs)) ∧ Below w.heap.size w w' := by
  obtain ⟨i0, hi, hz0, hz1, hz2⟩ := info_parts infoInt
  obtain ⟨N, hN⟩ : ∃ N, N = n.natAbs := ⟨_, rfl⟩
  rw [← hN]
  have hN1 : 1 ≤ N := by omega
  have hN2 : N ≤ 1000000000000 := by omega
  have HN := hid hN
  clear hN
  go_enter Try.func87, Try.ntmps87
  go_wp2_with (go_at_call 63; refine (l1Size_any _ (by omega) (by omega) _).mono ?_; rw [← HN.out]; rintro e w' ⟨rfl, rfl⟩)
  go_loopw [0, 3, 4] (fun sl so sp wr => ∃ (pre : List Nat) (L p f : Nat), sl = .int .i64 L ∧ sp = .int .i64 p ∧ 1 ≤ L ∧ L ≤ N ∧ 2 ≤ p ∧ p ≤ 1000001 ∧ p ≤ N + 2 ∧ p + f = N + 3 ∧ pre.length ≤ p ∧ Hid (plistG N = pre ++ plGo f p L) ∧ wr.ownsRow w.heap.size 3 1 so pre.length ((natsI pre).map (Value.int .i64)) ∧ Below w.heap.size w wr)
    (fun _ _ sp _ => N + 3 - (intOf sp).toNat)
  case atStart =>
    refine ⟨[], N, 2, N + 1, rfl, rfl, hN1, Nat.le_refl _, by omega, by omega, by omega, by omega, by simp, hid rfl, ?_, (Below.refl _ _).alloc (Nat.le_refl _) _⟩
    exact World.ownsRow_made (size := 1) w #[] 0 (Nat.le_refl _) (by unfold maxLen; omega) rfl
  case round =>
    obtain ⟨pre, L, p, f, rfl, rfl, hL1, hL2, hp2, hp7, hpN, hf, hpl, HP, hown, hB⟩ := hrel
    have hKK := mul_bd hp7 hp7
    obtain ⟨g, rfl⟩ : ∃ g, f = g + 1 := ⟨f - 1, by omega⟩
    by_cases hle : (p : Int) * p ≤ L
    · have hle' : p * p ≤ L := by exact_mod_cast hle
      have hp70 := sq_le6 hle' (show L ≤ 1000000000000 by omega)
      have hpL : p ≤ L := Nat.le_trans (Nat.le_mul_of_pos_left p (by omega)) hle'
      by_cases hd : L % p = 0
      · have T : ((L : Int) % p == 0) = true := by rw [beq_iff_eq]; exact_mod_cast hd
        have HE := hid (plGo_some (f := g) hle' hd)
        have HD := hid (val_dvd p hp2 L L (Nat.le_refl _) (by omega))
        clear hd hle'
        go_wp2_with (at_builtin; refine wpList_append_own _ rfl _ _ 23 rfl w.heap.size 3 i0 (.int .i64 0) 1 8 Try.underlying23 hi hz0 hz1 hz2 rfl (by decide) _ _ _ rfl (hown.alloc _) ⟨wr.heap.size, 0, none⟩ 1 1 [.int .i64 p] rfl rfl (cell_one_new _ _ _) (by simp [Value.oneCell']) (by unfold maxLen; omega) (by omega) (by have := hB.size; simp; omega) ?_; intro v' w1 hown' hgrow _)
        have hB1 : Below w.heap.size w w1 := (hB.alloc hB.size _).grown hgrow (by have := hB.size; simp; omega) (fun k e => (hown.lt k e).1)
        go_loop [0] (fun sl => ∃ M j : Nat, sl = .int .i64 M ∧ 1 ≤ M ∧ M ≤ L ∧ Hid (val M p + j = val L p ∧ M * p ^ j = L)) (fun sl => (intOf sl).toNat)
        case atStart => exact ⟨L, 0, rfl, hL1, Nat.le_refl _, hid ⟨rfl, by simp⟩⟩
        case round =>
          obtain ⟨M, j, rfl, hM1, hM2, HM⟩ := hrel
          have hdd := ediv_bdG (b := p) (show M ≤ 1000000000000 by omega)
          have hd0 := hdd.1
          have hd1 := hdd.2
          clear hdd
          by_cases hm : M % p = 0
          · have T2 : ((M : Int) % p == 0) = true := by rw [beq_iff_eq]; exact_mod_cast hm
            have hdv := Nat.dvd_of_mod_eq_zero hm
            have hq1 : 1 ≤ M / p := Nat.div_pos (Nat.le_of_dvd (by omega) hdv) (by omega)
            have hq2 : M / p < M := Nat.div_lt_self (by omega) (by omega)
            have HS := hid (val_step hp2 (show 0 < M by omega) hm)
            have HV := hid (Nat.div_mul_cancel hdv)
            clear hm hdv
            go_wp2
            go_round
            case rel => exact ⟨M / p, j + 1, vI (by push_cast; rfl), hq1, by omega, hid ⟨by have := HM.out.1; have := HS.out; omega, by rw [Nat.pow_succ, Nat.mul_comm (p ^ j), ← Nat.mul_assoc, HV.out]; exact HM.out.2⟩⟩
            case measure =>
              simp only [intOf]
              have e : (M : Int) / p = ((M / p : Nat) : Int) := by push_cast; rfl
              rw [e]
              exact Int.toNat_lt_toNat (by omega) |>.2 (Int.ofNat_lt.2 hq2)
          · have T2 : ((M : Int) % p == 0) = false := by rw [beq_eq_false_iff_ne]; exact_mod_cast hm
            have HS := hid (val_stop hm)
            have HJ : Hid (M = L / p ^ val L p) := by
              show _ = _
              have h1 := HM.out.1
              rw [HS.out, Nat.zero_add] at h1
              rw [← h1]
              conv => rhs; lhs; rw [← HM.out.2]
              rw [Nat.mul_div_cancel _ (Nat.pow_pos (by omega))]
            clear hm
            go_wp2
            go_roundw
            case rel =>
              refine ⟨pre ++ [p], M, p + 1, g, rfl, by go_num, hM1, by omega, by omega, by omega, by omega, by omega, by simp; omega, hid (by rw [HP.out, HE.out, HJ.out]; simp), ?_, hB1⟩
              have := hown'
              simpa [natsI] using this
            case measure => simp only [intOf]; omega
      · have T : ((L : Int) % p == 0) = false := by rw [beq_eq_false_iff_ne]; exact_mod_cast hd
        have HE := hid (plGo_none (f := g) hle' hd)
        clear hd hle'
        go_wp2
        go_loop [0] (fun sl => sl = .int .i64 L) (fun sl => 0)
        case atStart => rfl
        case round =>
          obtain rfl := hrel
          go_wp2
          go_roundw
          case rel => exact ⟨pre, L, p + 1, g, rfl, by go_num, hL1, hL2, by omega, by omega, by omega, by omega, by omega, hid (by rw [HP.out, HE.out]), hown, hB⟩
          case measure => simp only [intOf]; omega
    · have hle' : ¬ p * p ≤ L := fun h => hle (by exact_mod_cast h)
      have HE := hid (plGo_end (f := g) hle')
      clear hle'
      by_cases hL : 1 < L
      · have HF : Hid (plistG N = pre ++ [L]) := by show _ = _; rw [HP.out, HE.out, if_pos hL]
        go_wp2_with (at_builtin; refine wpList_append_own _ rfl _ _ 23 rfl w.heap.size 3 i0 (.int .i64 0) 1 8 Try.underlying23 hi hz0 hz1 hz2 rfl (by decide) _ _ _ rfl (hown.alloc _) ⟨wr.heap.size, 0, none⟩ 1 1 [.int .i64 L] rfl rfl (cell_one_new _ _ _) (by simp [Value.oneCell']) (by unfold maxLen; omega) (by omega) (by have := hB.size; simp; omega) ?_; intro v' w1 hown' hgrow _)
        have hB1 : Below w.heap.size w w1 := (hB.alloc hB.size _).grown hgrow (by have := hB.size; simp; omega) (fun k e => (hown.lt k e).1)
        go_ret
        exact ⟨_, rfl, by unfold Owns; rw [HF.out]; simpa [natsI] using hown', hB1⟩
      · have HF : Hid (plistG N = pre) := by show _ = _; rw [HP.out, HE.out, if_neg hL, List.append_nil]
        go_wp2
        go_ret
        exact ⟨_, rfl, by unfold Owns; rw [HF.out]; simpa [natsI] using hown, hB⟩

/-- no number from 2 on below p divides L -/
def NoLess (p L : Nat) : Prop := ∀ d, 2 ≤ d → d < p → L % d ≠ 0
/-- a number from 2 on that only 1 and itself divide -/
def PrG (x : Nat) : Prop := 2 ≤ x ∧ ∀ d, d ∣ x → d = 1 ∨ d = x
theorem prG_of {p L : Nat} (h : NoLess p L) (hL : 1 < L) (hle : ¬ p * p ≤ L) (hp : 2 ≤ p) : PrG L := by
  refine ⟨hL, fun d hd => ?_⟩
  obtain ⟨e, he⟩ := hd
  by_cases h1 : d = 1
  · exact .inl h1
  · right
    have hd0 : d ≠ 0 := by rintro rfl; omega
    have he0 : e ≠ 0 := by rintro rfl; omega
    have hdp : p ≤ d := by
      by_cases hc : p ≤ d
      · exact hc
      · exact absurd (by rw [he]; exact Nat.mul_mod_right d e) (h d (by omega) (by omega))
    by_cases he1 : e = 1
    · rw [he, he1, Nat.mul_one]
    · have hep : p ≤ e := by
        by_cases hc : p ≤ e
        · exact hc
        · exact absurd (by rw [he]; exact Nat.mul_mod_left d e) (h e (by omega) (by omega))
      exact absurd (by rw [he]; exact Nat.mul_le_mul hdp hep) hle
theorem prG_small {p L : Nat} (h : NoLess p L) (hd : L % p = 0) (hp : 2 ≤ p) : PrG p := by
  refine ⟨hp, fun d hdp => ?_⟩
  by_cases h1 : d = 1
  · exact .inl h1
  · right
    have hd0 : d ≠ 0 := by rintro rfl; rw [Nat.zero_dvd] at hdp; omega
    have hle := Nat.le_of_dvd (by omega) hdp
    by_cases hc : d = p
    · exact hc
    · exact absurd (Nat.mod_eq_zero_of_dvd (Nat.dvd_trans hdp (Nat.dvd_of_mod_eq_zero hd))) (h d (by omega) (by omega))
theorem noLess_div {p L M : Nat} (h : NoLess p L) (hM : M ∣ L) : NoLess p M := fun d h2 hp hm =>
  h d h2 hp (Nat.mod_eq_zero_of_dvd (Nat.dvd_trans (Nat.dvd_of_mod_eq_zero hm) hM))
theorem noLess_succ {p M : Nat} (h : NoLess p M) (hm : M % p ≠ 0) : NoLess (p + 1) M := fun d h2 hp => by
  by_cases e : d = p
  · rw [e]; exact hm
  · exact h d h2 (by omega)
theorem div_val {p L : Nat} (hp : 2 ≤ p) (hL : 0 < L) : L / p ^ val L p ∣ L ∧ 0 < L / p ^ val L p ∧ (L / p ^ val L p) % p ≠ 0 := by
  have hd := val_dvd p hp L L (Nat.le_refl _) hL
  refine ⟨Nat.div_dvd_of_dvd hd, Nat.div_pos (Nat.le_of_dvd hL hd) (Nat.pow_pos (by omega)), ?_⟩
  have key : ∀ (k n : Nat), n ≤ k → 0 < n → (n / p ^ val n p) % p ≠ 0 := by
    intro k
    induction k with
    | zero => intro n h h0; omega
    | succ k ih =>
      intro n h h0
      by_cases hn : n % p = 0
      · have h1 : n / p < n := Nat.div_lt_self h0 (by omega)
        have h2 : 0 < n / p := Nat.div_pos (Nat.le_of_dvd h0 (Nat.dvd_of_mod_eq_zero hn)) (by omega)
        rw [val_step hp h0 hn, Nat.pow_succ, Nat.mul_comm, ← Nat.div_div_eq_div_mul]
        exact ih (n / p) (by omega) h2
      · rw [val_stop hn, Nat.pow_zero, Nat.div_one]; exact hn
  exact key L L (Nat.le_refl _) hL

theorem plGo_step {f p L : Nat} : plGo (f + 1) p L = if p * p ≤ L then (if L % p = 0 then p :: plGo f (p + 1) (L / p ^ val L p) else plGo f (p + 1) L) else if 1 < L then [L] else [] := by
  conv => lhs; unfold plGo
theorem plGo_one {p L : Nat} (hp : 2 ≤ p) (hn : NoLess p L) (h : L = 1) (f : Nat) (hf : 1 ≤ f) : plGo f p L = [] := by
  obtain ⟨g, rfl⟩ : ∃ g, f = g + 1 := ⟨f - 1, by omega⟩
  have hpp := Nat.mul_le_mul hp hp
  rw [plGo_step, if_neg (by omega), if_neg (by omega)]
theorem fuel_less {p f : Nat} (h : 1 ≤ f) : ∀ L : Nat, p * p ≤ L → L < (p + f) * (p + f) → 1 ≤ f := fun _ _ _ => h

/-- what the list of primes holds: exactly the primes that divide, ascending -/
theorem plGo_spec : ∀ (f p L : Nat), 2 ≤ p → 0 < L → NoLess p L → L + 1 ≤ p + f ∨ (L < p * p ∧ 1 ≤ f) →
    (∀ x ∈ plGo f p L, PrG x ∧ x ∣ L ∧ p ≤ x) ∧ (plGo f p L).Pairwise (· < ·) ∧ (∀ x, PrG x → x ∣ L → x ∈ plGo f p L)
  | 0, p, L, hp, hL, hn, hb => by
    have h1 : L + 1 ≤ p := by omega
    have hL1 : L = 1 := by
      by_cases h : L = 1
      · exact h
      · exact absurd (Nat.mod_self L) (hn L (by omega) (by omega))
    subst hL1
    refine ⟨fun x hx => by simp [plGo] at hx, by simp [plGo], fun x hx hd => ?_⟩
    have := Nat.le_of_dvd (by omega) hd
    have := hx.1
    omega
  | f + 1, p, L, hp, hL, hn, hb => by
    rw [plGo_step]
    by_cases hle : p * p ≤ L
    · have hpL : p ≤ L := Nat.le_trans (Nat.le_mul_of_pos_left p (by omega)) hle
      rw [if_pos hle]
      by_cases hd : L % p = 0
      · rw [if_pos hd]
        obtain ⟨m1, m2, m3⟩ := div_val hp hL
        obtain ⟨M, hM⟩ : ∃ M, M = L / p ^ val L p := ⟨_, rfl⟩
        rw [← hM] at m1 m2 m3 ⊢
        have hML := Nat.le_of_dvd hL m1
        have hnM := noLess_succ (noLess_div hn m1) m3
        obtain ⟨i1, i2, i3⟩ := plGo_spec f (p + 1) M (by omega) m2 hnM (by omega)
        refine ⟨fun x hx => ?_, List.pairwise_cons.2 ⟨fun x hx => ?_, i2⟩, fun x hx hxd => ?_⟩
        · rcases List.mem_cons.1 hx with rfl | hx
          · exact ⟨prG_small hn hd hp, Nat.dvd_of_mod_eq_zero hd, Nat.le_refl _⟩
          · obtain ⟨a, b, c⟩ := i1 x hx
            exact ⟨a, Nat.dvd_trans b m1, by omega⟩
        · have := (i1 x hx).2.2
          omega
        · by_cases e : x = p
          · rw [e]; exact List.mem_cons_self
          · refine List.mem_cons_of_mem _ (i3 x hx ?_)
            -- x divides L = p^v * M and x is no p
            have hL2 : L = p ^ val L p * M := by
              rw [hM]
              have hdv := val_dvd p hp L L (Nat.le_refl _) hL
              rw [Nat.mul_comm]; exact (Nat.div_mul_cancel hdv).symm
            have hco : ∀ k, Nat.Coprime x (p ^ k) := fun k => by
              refine Nat.Coprime.pow_right k ?_
              have hg : Nat.gcd x p ∣ x := Nat.gcd_dvd_left x p
              have hg2 : Nat.gcd x p ∣ p := Nat.gcd_dvd_right x p
              rcases hx.2 _ hg with h | h
              · exact h
              · rw [h] at hg2
                rcases (prG_small hn hd hp).2 x hg2 with h2 | h2
                · have := hx.1; omega
                · exact absurd h2 e
            rw [hL2] at hxd
            exact (hco _).dvd_of_dvd_mul_left hxd
      · rw [if_neg hd]
        obtain ⟨i1, i2, i3⟩ := plGo_spec f (p + 1) L (by omega) hL (noLess_succ hn hd) (by omega)
        exact ⟨fun x hx => by obtain ⟨a, b, c⟩ := i1 x hx; exact ⟨a, b, by omega⟩, i2, i3⟩
    · rw [if_neg hle]
      by_cases h1 : 1 < L
      · rw [if_pos h1]
        have hpr := prG_of hn h1 hle hp
        have hpl : p ≤ L := by
          by_cases hc : p ≤ L
          · exact hc
          · exact absurd (Nat.mod_self L) (hn L (by omega) (by omega))
        refine ⟨fun x hx => ?_, by simp, fun x hx hd => ?_⟩
        · rw [List.mem_singleton] at hx
          rw [hx]
          exact ⟨hpr, Nat.dvd_refl _, hpl⟩
        · rcases hpr.2 x hd with h | h
          · have := hx.1; omega
          · rw [h]; exact List.mem_singleton.2 rfl
      · rw [if_neg h1]
        have hL1 : L = 1 := by omega
        subst hL1
        refine ⟨fun x hx => (by cases hx), List.Pairwise.nil, fun x hx hd => ?_⟩
        have := Nat.le_of_dvd (by omega) hd
        have := hx.1
        omega
theorem plistG_spec {n : Nat} (h : 0 < n) : (∀ x ∈ plistG n, PrG x ∧ x ∣ n) ∧ (plistG n).Pairwise (· < ·) ∧ (∀ x, PrG x → x ∣ n → x ∈ plistG n) := by
  obtain ⟨a, b, c⟩ := plGo_spec (n + 1) 2 n (Nat.le_refl _) h (fun d h2 hp => by omega) (by omega)
  exact ⟨fun x hx => ⟨(a x hx).1, (a x hx).2.1⟩, b, c⟩

end Go.Proofs.Ytfjbdbfeolfcfaa

/-! PlacesG -/
set_option linter.unusedVariables false
namespace Go.Proofs.Ytfjbdbfeolfcfaa
open Go.RowKit

def placesG (n : Int) : List Int := [0, 2] ++ (natsI (plistG n.natAbs)).filter (fun x => decide (2 < x))
theorem asc_len : ∀ (l : List Nat) (a b : Nat), l.Pairwise (· < ·) → (∀ x ∈ l, a ≤ x ∧ x ≤ b) → l.length ≤ b + 1 - a
  | [], a, b, _, _ => Nat.zero_le _
  | x :: t, a, b, h, hx => by
    rw [List.pairwise_cons] at h
    have h1 := hx x List.mem_cons_self
    have := asc_len t (a + 1) b h.2 (fun y hy => ⟨by have := h.1 y hy; omega, (hx y (List.mem_cons_of_mem _ hy)).2⟩)
    rw [List.length_cons]
    omega
theorem plistG_ok {n : Int} (h0 : n ≠ 0) (h1 : -1000000000000 ≤ n) (h2 : n ≤ 1000000000000) : (plistG n.natAbs).length ≤ 1000000000000 ∧ ∀ x ∈ plistG n.natAbs, x ≤ 1000000000000 := by
  obtain ⟨a, b, c⟩ := plistG_spec (show 0 < n.natAbs by omega)
  have hb : ∀ x ∈ plistG n.natAbs, 1 ≤ x ∧ x ≤ 1000000000000 := fun x hx => by
    have h3 := Nat.le_of_dvd (show 0 < n.natAbs by omega) (a x hx).2
    have h4 := (a x hx).1.1
    omega
  refine ⟨?_, fun x hx => (hb x hx).2⟩
  have := asc_len _ _ _ b hb
  omega


theorem primeGo_of : ∀ f p n, (∀ d, p ≤ d → d * d ≤ n → n % d ≠ 0) → primeGo f p n = true
  | 0, _, _, _ => rfl
  | f + 1, p, n, h => by
    unfold primeGo
    by_cases h1 : p * p ≤ n
    · rw [if_pos h1, if_neg (h p (Nat.le_refl _) h1)]
      exact primeGo_of f (p + 1) n (fun d hd hdd => h d (by omega) hdd)
    · rw [if_neg h1]
theorem prG_primeN {x : Nat} (h : PrG x) (h5 : x ≤ 5000) : primeN x = true := by
  unfold primeN
  rw [decide_eq_true h.1, decide_eq_true h5, primeGo_of]
  · rfl
  · intro d hd hdd hm
    have h1 := h.1
    rcases h.2 d (Nat.dvd_of_mod_eq_zero hm) with e | e
    · omega
    · rw [e] at hdd
      have := Nat.mul_le_mul h1 (Nat.le_refl x)
      omega
theorem primeN_prG {x : Nat} (h : primeN x = true) : PrG x := ⟨(primeN_bd h).1, fun d hd => primeN_dvd h hd⟩
theorem prG_mul {x a b : Nat} (h : PrG x) (hd : x ∣ a * b) : x ∣ a ∨ x ∣ b := by
  by_cases hc : Nat.Coprime x a
  · exact .inr (hc.dvd_of_dvd_mul_left hd)
  · left
    have h1 := h.2 _ (Nat.gcd_dvd_left x a)
    rcases h1 with e | e
    · exact absurd e hc
    · rw [← e]; exact Nat.gcd_dvd_right x a
/-- the places of a product of two numbers are places -/
theorem placesG_pl {a b : Int} (a0 : a ≠ 0) (b0 : b ≠ 0) (a1 : -5000 ≤ a) (a2 : a ≤ 5000) (b1 : -5000 ≤ b) (b2 : b ≤ 5000) : ∀ q ∈ placesG (a * b), plI q = true := by
  have hab := Int.mul_ne_zero a0 b0
  obtain ⟨s1, _, _⟩ := plistG_spec (show 0 < (a * b).natAbs by omega)
  intro q hq
  unfold placesG at hq
  simp only [List.cons_append, List.nil_append, List.mem_cons] at hq
  rcases hq with rfl | rfl | hq
  · rfl
  · rfl
  · have hm := (List.mem_filter.1 hq).1
    unfold natsI at hm
    rw [List.mem_map] at hm
    obtain ⟨x, hx, rfl⟩ := hm
    obtain ⟨p1, p2⟩ := s1 x hx
    rw [Int.natAbs_mul] at p2
    have h5 : x ≤ 5000 := by
      rcases prG_mul p1 p2 with h | h
      · have := Nat.le_of_dvd (show 0 < a.natAbs by omega) h; omega
      · have := Nat.le_of_dvd (show 0 < b.natAbs by omega) h; omega
    unfold plI
    rw [show primeI (x : Int) = true from prG_primeN p1 h5, Bool.or_true]

end Go.Proofs.Ytfjbdbfeolfcfaa
