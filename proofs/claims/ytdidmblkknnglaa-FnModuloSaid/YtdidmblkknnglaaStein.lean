/-
  Plain arithmetic of chapter 3: where two numbers add up to a square, their symbol is 1 at each place.
-/
import Derived.Test.YtdidmblkknnglaaSym2
set_option linter.unusedVariables false
namespace Go.Proofs.Ytdidmblkknnglaa
open Go.RowKit

theorem cls_tt {t q : Int} (ht : t ≠ 0) (hq : plI q = true) : cls (t * t) q = (0, 1) := by
  rw [cls_mul ht ht hq]
  exact (comb_one hq (cls_mem ht hq) (cls_mem ht hq)).2 rfl
theorem cls_sqI {n t q : Int} (hn : n ≠ 0) (ht : t ≠ 0) (hq : plI q = true) : cls (n * (t * t)) q = cls n q := by
  have h1 := cls_mul hn (show (1 : Int) ≠ 0 by decide) hq
  rw [Int.mul_one] at h1
  have h2 := cls_tt (show (1 : Int) ≠ 0 by decide) hq
  rw [Int.mul_one] at h2
  rw [h2] at h1
  rw [cls_mul hn (Int.mul_ne_zero ht ht) hq, cls_tt ht hq, ← h1]
theorem primeI_dvd_mul {P : Nat} (hP : primeN P = true) {a b : Int} (h : (P : Int) ∣ a * b) : (P : Int) ∣ a ∨ (P : Int) ∣ b := by
  rw [Int.ofNat_dvd_left, Int.natAbs_mul] at h
  rw [Int.ofNat_dvd_left, Int.ofNat_dvd_left]
  exact prime_mul hP h
/-- what a prime does not divide has its residue for its class -/
theorem cls_ndvd {P : Nat} (hP : primeN P = true) (h3 : 3 ≤ P) {n : Int} (hn : ¬ (P : Int) ∣ n) : cls n (P : Int) = (0, resN (n % (P : Int)).toNat P) := by
  have h0 : n ≠ 0 := by rintro rfl; exact hn (Int.dvd_zero _)
  rw [Int.ofNat_dvd_left] at hn
  obtain ⟨a, b⟩ := unit_self hP hn h0
  rw [cls_odd h3, a, b]
theorem cls_cong {P : Nat} (hP : primeN P = true) (h3 : 3 ≤ P) {n m : Int} (hn : ¬ (P : Int) ∣ n) (h : (P : Int) ∣ n - m) : cls n (P : Int) = cls m (P : Int) := by
  have hm : ¬ (P : Int) ∣ m := fun hd => hn (by have := Int.dvd_add h hd; rwa [Int.sub_add_cancel] at this)
  rw [cls_ndvd hP h3 hn, cls_ndvd hP h3 hm, Int.emod_eq_emod_iff_emod_sub_eq_zero.2 (Int.emod_eq_zero_of_dvd h)]
theorem sym_units {P : Nat} (hP : primeN P = true) (h3 : 3 ≤ P) {a b : Int} (ha : ¬ (P : Int) ∣ a) (hb : ¬ (P : Int) ∣ b) : symV a b (P : Int) = 1 := by
  unfold symV symC
  rw [cls_ndvd hP h3 ha, cls_ndvd hP h3 hb, if_neg (by omega), if_neg (by omega)]
  simp [halfI]

theorem stein_odd {P : Nat} (hq : plI (P : Int) = true) (hP : primeN P = true) (h3 : 3 ≤ P) : ∀ (N : Nat) (u v z : Int), u.natAbs ≤ N → u ≠ 0 → v ≠ 0 → u + v = z * z → symV u v (P : Int) = 1
  | 0, u, v, z, hN, hu, _, _ => absurd hN (by omega)
  | N + 1, u, v, z, hN, hu, hv, he => by
    have hP0 : (P : Int) ≠ 0 := by omega
    by_cases hd : (P : Int) * P ∣ u ∧ (P : Int) * P ∣ v
    · obtain ⟨⟨u1, rfl⟩, ⟨v1, rfl⟩⟩ := hd
      have hz : (P : Int) ∣ z := by
        have h1 : (P : Int) ∣ z * z := by
          rw [← he, ← Int.mul_add, Int.mul_assoc]; exact Int.dvd_mul_right _ _
        rcases primeI_dvd_mul hP h1 with h | h <;> exact h
      obtain ⟨z1, rfl⟩ := hz
      have hu1 : u1 ≠ 0 := by rintro rfl; exact hu (Int.mul_zero _)
      have hv1 : v1 ≠ 0 := by rintro rfl; exact hv (Int.mul_zero _)
      have he1 : u1 + v1 = z1 * z1 := by
        refine Int.eq_of_mul_eq_mul_left (Int.mul_ne_zero hP0 hP0) ?_
        rw [Int.mul_add, he, Int.mul_assoc, Int.mul_assoc, ← Int.mul_assoc z1, Int.mul_comm z1 (P : Int), Int.mul_assoc]
      have hlt : u1.natAbs ≤ N := by
        rw [Int.natAbs_mul, Int.natAbs_mul, Int.natAbs_natCast] at hN
        have h1 : 1 ≤ u1.natAbs := by omega
        have h2 := Nat.mul_le_mul (show 2 ≤ P * P from Nat.le_trans (show 2 ≤ 3 * 3 by decide) (Nat.mul_le_mul h3 h3)) (Nat.le_refl u1.natAbs)
        omega
      rw [Int.mul_comm _ u1, Int.mul_comm _ v1]
      rw [symV_congr (cls_sqI hu1 hP0 hq) (cls_sqI hv1 hP0 hq)]
      exact stein_odd hq hP h3 N u1 v1 z1 hlt hu1 hv1 he1
    · by_cases hpu : (P : Int) ∣ u
      · by_cases hpv : (P : Int) ∣ v
        · have hz : (P : Int) ∣ z := by
            have h1 : (P : Int) ∣ z * z := by rw [← he]; exact Int.dvd_add hpu hpv
            rcases primeI_dvd_mul hP h1 with h | h <;> exact h
          obtain ⟨z1, rfl⟩ := hz
          obtain ⟨u1, rfl⟩ := hpu
          obtain ⟨v1, rfl⟩ := hpv
          have hu1 : u1 ≠ 0 := by rintro rfl; exact hu (Int.mul_zero _)
          have hv1 : v1 ≠ 0 := by rintro rfl; exact hv (Int.mul_zero _)
          have he1 : u1 + v1 = (P : Int) * (z1 * z1) := by
            refine Int.eq_of_mul_eq_mul_left hP0 ?_
            rw [Int.mul_add, he, Int.mul_assoc, Int.mul_left_comm z1]
          have hnv : ¬ (P : Int) ∣ v1 := fun h => hd ⟨Int.mul_dvd_mul_left _ (by
            have h1 : (P : Int) ∣ u1 + v1 := by rw [he1]; exact Int.dvd_mul_right _ _
            have := Int.dvd_sub h1 h
            rwa [Int.add_sub_cancel] at this), Int.mul_dvd_mul_left _ h⟩
          have hc : cls v1 (P : Int) = cls (-u1) (P : Int) := cls_cong hP h3 hnv (by
            rw [Int.sub_neg, Int.add_comm, he1]; exact Int.dvd_mul_right _ _)
          have hc2 : cls ((P : Int) * v1) (P : Int) = cls (-((P : Int) * u1)) (P : Int) := by
            rw [← Int.mul_neg, cls_mul hP0 hv1 hq, cls_mul hP0 (by omega) hq, hc]
          rw [symV_congr (c := (P : Int) * u1) (d := -((P : Int) * u1)) rfl hc2]
          exact symV_minus hu hq
        · have hc : cls v (P : Int) = cls (z * z) (P : Int) := cls_cong hP h3 hpv (by
            rw [← he, show v - (u + v) = -u by omega]; exact Int.dvd_neg.2 hpu)
          have hz : z ≠ 0 := by
            rintro rfl
            exact hpv (by rw [show v = -u by omega]; exact Int.dvd_neg.2 hpu)
          exact symV_sq hu hq (by unfold sqAt; rw [hc, cls_tt hz hq]; rfl)
      · by_cases hpv : (P : Int) ∣ v
        · have hc : cls u (P : Int) = cls (z * z) (P : Int) := cls_cong hP h3 hpu (by
            rw [← he, show u - (u + v) = -v by omega]; exact Int.dvd_neg.2 hpv)
          have hz : z ≠ 0 := by
            rintro rfl
            exact hpu (by rw [show u = -v by omega]; exact Int.dvd_neg.2 hpv)
          rw [symV_comm hu hv hq]
          exact symV_sq hv hq (by unfold sqAt; rw [hc, cls_tt hz hq]; rfl)
        · exact sym_units hP h3 hpu hpv

theorem plTwo : plI 2 = true := by decide
theorem cls2_odd {n : Int} (h : n % 2 = 1) : cls n 2 = (0, n % 8) := by
  have h0 : n ≠ 0 := by omega
  obtain ⟨a, b⟩ := unit_self prime2 (n := n) (by omega) h0
  rw [show ((2 : Nat) : Int) = 2 from rfl] at b
  rw [cls_two, a, b]
theorem cls2_two {n : Int} (h : n % 2 = 1) : cls (2 * n) 2 = (1, n % 8) := by
  rw [cls_mul (by decide) (by omega) plTwo, cls2_odd h, show cls 2 2 = (1, 1) by decide]
  unfold comb
  rw [if_pos rfl]
  simp
theorem cls2_four {n : Int} (h : n ≠ 0) : cls (4 * n) 2 = cls n 2 := by
  rw [show 4 * n = n * (2 * 2) by omega]
  exact cls_sqI h (by decide) plTwo
theorem sym2_fin1 : ∀ u ∈ ([1, 3, 5, 7] : List Int), ∀ v ∈ ([1, 3, 5, 7] : List Int), (u + v) % 4 = 0 → symC 2 (0, u) (0, v) = 1 := by decide +kernel
theorem sym2_fin2 : ∀ u ∈ ([1, 3, 5, 7] : List Int), ∀ v ∈ ([1, 3, 5, 7] : List Int), (u + 2 * v) % 8 = 1 → symC 2 (0, u) (1, v) = 1 := by decide +kernel
theorem sym2_fin3 : ∀ v ∈ ([1, 3, 5, 7] : List Int), symC 2 (0, 5) (0, v) = 1 := by decide +kernel
theorem sym2_fin4 : ∀ u ∈ ([1, 3, 5, 7] : List Int), ∀ v ∈ ([1, 3, 5, 7] : List Int), (u + v) % 8 = 0 ∨ (u + v) % 8 = 2 → symC 2 (1, u) (1, v) = 1 := by decide +kernel
theorem mod8_odd {n : Int} (h : n % 2 = 1) : n % 8 ∈ ([1, 3, 5, 7] : List Int) := by
  have : n % 8 = 1 ∨ n % 8 = 3 ∨ n % 8 = 5 ∨ n % 8 = 7 := by omega
  rcases this with h | h | h | h <;> rw [h] <;> decide
theorem sq_even {z : Int} (h : z % 2 = 0) : z * z % 4 = 0 := by
  obtain ⟨t, rfl⟩ : ∃ t, z = 2 * t := ⟨z / 2, by omega⟩
  rw [show 2 * t * (2 * t) = 4 * (t * t) by rw [Int.mul_assoc, Int.mul_left_comm t, ← Int.mul_assoc]; rfl]
  exact Int.mul_emod_right _ _
theorem sq_odd {z : Int} (h : z % 2 = 1) : z * z % 8 = 1 := by
  have h8 : z % 8 = 1 ∨ z % 8 = 3 ∨ z % 8 = 5 ∨ z % 8 = 7 := by omega
  rw [Int.mul_emod]
  rcases h8 with h | h | h | h <;> rw [h] <;> rfl
/-- an odd number and an even one -/
theorem stein2_oe {u v z : Int} (hu : u % 2 = 1) (hv : v % 2 = 0) (v0 : v ≠ 0) (he : u + v = z * z) : symV u v 2 = 1 := by
  have hz : z % 2 = 1 := by
    by_cases h : z % 2 = 0
    · have := sq_even h; omega
    · omega
  have hz8 := sq_odd hz
  rw [← he] at hz8
  obtain ⟨w, rfl⟩ : ∃ w, v = 2 * w := ⟨v / 2, by omega⟩
  by_cases hw : w % 2 = 1
  · unfold symV
    rw [cls2_odd hu, cls2_two hw]
    exact sym2_fin2 _ (mod8_odd hu) _ (mod8_odd hw) (by omega)
  · obtain ⟨t, rfl⟩ : ∃ t, w = 2 * t := ⟨w / 2, by omega⟩
    have ht0 : t ≠ 0 := by omega
    by_cases ht : t % 2 = 1
    · unfold symV
      rw [show 2 * (2 * t) = 4 * t by omega, cls2_four ht0, cls2_odd hu, cls2_odd ht, show u % 8 = 5 by omega]
      exact sym2_fin3 _ (mod8_odd ht)
    · have h1 : u % 8 = 1 := by omega
      rw [symV_comm (by omega) v0 plTwo]
      exact symV_sq v0 plTwo (by unfold sqAt; rw [cls2_odd hu, h1]; rfl)
theorem stein_two : ∀ (N : Nat) (u v z : Int), u.natAbs ≤ N → u ≠ 0 → v ≠ 0 → u + v = z * z → symV u v 2 = 1
  | 0, u, v, z, hN, hu, _, _ => absurd hN (by omega)
  | N + 1, u, v, z, hN, hu, hv, he => by
    by_cases hu2 : u % 2 = 1
    · by_cases hv2 : v % 2 = 1
      · have hz : z % 2 = 0 := by
          by_cases h : z % 2 = 1
          · have := sq_odd h; omega
          · omega
        have h4 := sq_even hz
        rw [← he] at h4
        unfold symV
        rw [cls2_odd hu2, cls2_odd hv2]
        exact sym2_fin1 _ (mod8_odd hu2) _ (mod8_odd hv2) (by omega)
      · exact stein2_oe hu2 (by omega) hv he
    · by_cases hv2 : v % 2 = 1
      · rw [symV_comm hu hv plTwo]
        exact stein2_oe (z := z) hv2 (by omega) hu (by omega)
      · have hz : z % 2 = 0 := by
          by_cases h : z % 2 = 1
          · have := sq_odd h; omega
          · omega
        obtain ⟨z1, rfl⟩ : ∃ t, z = 2 * t := ⟨z / 2, by omega⟩
        obtain ⟨u1, rfl⟩ : ∃ t, u = 2 * t := ⟨u / 2, by omega⟩
        obtain ⟨v1, rfl⟩ : ∃ t, v = 2 * t := ⟨v / 2, by omega⟩
        have he1 : u1 + v1 = 2 * (z1 * z1) := by
          have : 2 * z1 * (2 * z1) = 4 * (z1 * z1) := by rw [Int.mul_assoc, Int.mul_left_comm z1, ← Int.mul_assoc]; rfl
          omega
        by_cases hu3 : u1 % 2 = 1
        · have hv3 : v1 % 2 = 1 := by omega
          have hs : (u1 + v1) % 8 = 0 ∨ (u1 + v1) % 8 = 2 := by
            rw [he1]
            by_cases h : z1 % 2 = 0
            · have := sq_even h; omega
            · have := sq_odd (show z1 % 2 = 1 by omega); omega
          unfold symV
          rw [cls2_two hu3, cls2_two hv3]
          exact sym2_fin4 _ (mod8_odd hu3) _ (mod8_odd hv3) (by omega)
        · obtain ⟨u2, rfl⟩ : ∃ t, u1 = 2 * t := ⟨u1 / 2, by omega⟩
          obtain ⟨v2, rfl⟩ : ∃ t, v1 = 2 * t := ⟨v1 / 2, by omega⟩
          have hu4 : u2 ≠ 0 := by omega
          have hv4 : v2 ≠ 0 := by omega
          rw [show 2 * (2 * u2) = 4 * u2 by omega, show 2 * (2 * v2) = 4 * v2 by omega, symV_congr (cls2_four hu4) (cls2_four hv4)]
          exact stein_two N u2 v2 z1 (by omega) hu4 hv4 (by omega)

/-- where two numbers add up to a square, their symbol is 1 at each place -/
theorem stein_sq {u v z q : Int} (hu : u ≠ 0) (hv : v ≠ 0) (he : u + v = z * z) (hq : plI q = true) : symV u v q = 1 := by
  rcases plI_cases hq with rfl | rfl | ⟨P, rfl, hP, h3, h5⟩
  · have hz : 0 ≤ z * z := by
      rcases Int.le_total 0 z with h | h
      · exact Int.mul_nonneg h h
      · exact Int.mul_nonneg_of_nonpos_of_nonpos h h
    unfold symV symC
    rw [cls_zero, cls_zero, if_pos rfl]
    by_cases h : 0 < u
    · rw [if_pos h]; simp
    · rw [if_neg h, if_pos (by omega : 0 < v)]; simp
  · exact stein_two _ u v z (Nat.le_refl _) hu hv he
  · exact stein_odd hq hP h3 _ u v z (Nat.le_refl _) hu hv he
/-- what is solved has the symbol 1 -/
theorem solved_one {a b x y z q : Int} (ha : a ≠ 0) (hb : b ≠ 0) (hn : ¬ (x = 0 ∧ y = 0 ∧ z = 0)) (he : z * z = a * x * x + b * y * y) (hq : plI q = true) : symV a b q = 1 := by
  rw [Int.mul_assoc, Int.mul_assoc] at he
  by_cases hx : x = 0
  · subst hx
    rw [Int.mul_zero, Int.mul_zero, Int.zero_add] at he
    have hz : z ≠ 0 := by
      rintro rfl
      rw [Int.mul_zero] at he
      have hy : y ≠ 0 := fun h => hn ⟨rfl, h, rfl⟩
      exact Int.mul_ne_zero hb (Int.mul_ne_zero hy hy) he.symm
    have hy : y ≠ 0 := by
      rintro rfl
      rw [Int.mul_zero, Int.mul_zero] at he
      exact Int.mul_ne_zero hz hz he
    refine symV_sq ha hq ?_
    unfold sqAt
    rw [← cls_sqI hb hy hq, ← he, cls_tt hz hq]
    rfl
  · by_cases hy : y = 0
    · subst hy
      rw [Int.mul_zero, Int.mul_zero, Int.add_zero] at he
      have hz : z ≠ 0 := by
        rintro rfl
        rw [Int.mul_zero] at he
        exact Int.mul_ne_zero ha (Int.mul_ne_zero hx hx) he.symm
      rw [symV_comm ha hb hq]
      refine symV_sq hb hq ?_
      unfold sqAt
      rw [← cls_sqI ha hx hq, ← he, cls_tt hz hq]
      rfl
    · have h1 := stein_sq (Int.mul_ne_zero ha (Int.mul_ne_zero hx hx)) (Int.mul_ne_zero hb (Int.mul_ne_zero hy hy)) he.symm hq
      rwa [symV_congr (cls_sqI ha hx hq) (cls_sqI hb hy hq)] at h1

end Go.Proofs.Ytdidmblkknnglaa
