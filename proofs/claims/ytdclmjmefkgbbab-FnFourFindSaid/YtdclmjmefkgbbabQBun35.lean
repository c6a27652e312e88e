/-
  Some texts in one file: LawKit Stein FmTh LawFm Pf.
-/
import Derived.Test.YtdclmjmefkgbbabQBun22
import Derived.Test.YtdclmjmefkgbbabQBun8
import Derived.Test.YtdclmjmefkgbbabQBun9
import Derived.Test.YtdclmjmefkgbbabQDraws13
import Derived.Test.YtdclmjmefkgbbabQFm2
import Derived.Handy
/-! LawKit -/
set_option linter.unusedVariables false
namespace Go.Proofs.Ytdclmjmefkgbbab
open Go.RowKit

end Go.Proofs.Ytdclmjmefkgbbab

/-! Stein -/
set_option linter.unusedVariables false
namespace Go.Proofs.Ytdclmjmefkgbbab
open Go.RowKit

theorem cls_tt {t q : Int} (ht : t ≠ 0) (hq : plI q = true) : cls (t * t) q = (0, 1) := by
  rw [cls_mul ht ht hq]
  exact (comb_one hq (cls_mem ht hq) (cls_mem ht hq)).2 rfl
theorem cls_sqI {n t q : Int} (hn : n ≠ 0) (ht : t ≠ 0) (hq : plI q = true) : cls (n * (t * t)) q = cls n q := by
  have h1 := cls_mul hn (show (1 : Int) ≠ 0 by decide) hq
  rw [Int.mul_one] at h1
  have h2 := cls_tt (show (1 : Int) ≠ 0 by decide) hq
  rw [Int.mul_one] at h2
  rw [h2] at h1
  rw [cls_mul hn (Int.mul_ne_zero ht ht) hq, cls_tt ht hq, ← h1]
theorem primeI_dvd_mul {P : Nat} (hP : primeN P = true) {a b : Int} (h : (P : Int) ∣ a * b) : (P : Int) ∣ a ∨ (P : Int) ∣ b := by
  rw [Int.ofNat_dvd_left, Int.natAbs_mul] at h
  rw [Int.ofNat_dvd_left, Int.ofNat_dvd_left]
  exact prime_mul hP h
/-- what a prime does not divide has its residue for its class -/
theorem cls_ndvd {P : Nat} (hP : primeN P = true) (h3 : 3 ≤ P) {n : Int} (hn : ¬ (P : Int) ∣ n) : cls n (P : Int) = (0, resN (n % (P : Int)).toNat P) := by
  have h0 : n ≠ 0 := by rintro rfl; exact hn (Int.dvd_zero _)
  rw [Int.ofNat_dvd_left] at hn
  obtain ⟨a, b⟩ := unit_self hP hn h0
  rw [cls_odd h3, a, b]
theorem cls_cong {P : Nat} (hP : primeN P = true) (h3 : 3 ≤ P) {n m : Int} (hn : ¬ (P : Int) ∣ n) (h : (P : Int) ∣ n - m) : cls n (P : Int) = cls m (P : Int) := by
  have hm : ¬ (P : Int) ∣ m := fun hd => hn (by have := Int.dvd_add h hd; rwa [Int.sub_add_cancel] at this)
  rw [cls_ndvd hP h3 hn, cls_ndvd hP h3 hm, Int.emod_eq_emod_iff_emod_sub_eq_zero.2 (Int.emod_eq_zero_of_dvd h)]
theorem sym_units {P : Nat} (hP : primeN P = true) (h3 : 3 ≤ P) {a b : Int} (ha : ¬ (P : Int) ∣ a) (hb : ¬ (P : Int) ∣ b) : symV a b (P : Int) = 1 := by
  unfold symV symC
  rw [cls_ndvd hP h3 ha, cls_ndvd hP h3 hb, if_neg (by omega), if_neg (by omega)]
  simp [halfI]

theorem stein_odd {P : Nat} (hq : plI (P : Int) = true) (hP : primeN P = true) (h3 : 3 ≤ P) : ∀ (N : Nat) (u v z : Int), u.natAbs ≤ N → u ≠ 0 → v ≠ 0 → u + v = z * z → symV u v (P : Int) = 1
  | 0, u, v, z, hN, hu, _, _ => absurd hN (by omega)
  | N + 1, u, v, z, hN, hu, hv, he => by
    have hP0 : (P : Int) ≠ 0 := by omega
    by_cases hd : (P : Int) * P ∣ u ∧ (P : Int) * P ∣ v
    · obtain ⟨⟨u1, rfl⟩, ⟨v1, rfl⟩⟩ := hd
      have hz : (P : Int) ∣ z := by
        have h1 : (P : Int) ∣ z * z := by
          rw [← he, ← Int.mul_add, Int.mul_assoc]; exact Int.dvd_mul_right _ _
        rcases primeI_dvd_mul hP h1 with h | h <;> exact h
      obtain ⟨z1, rfl⟩ := hz
      have hu1 : u1 ≠ 0 := by rintro rfl; exact hu (Int.mul_zero _)
      have hv1 : v1 ≠ 0 := by rintro rfl; exact hv (Int.mul_zero _)
      have he1 : u1 + v1 = z1 * z1 := by
        refine Int.eq_of_mul_eq_mul_left (Int.mul_ne_zero hP0 hP0) ?_
        rw [Int.mul_add, he, Int.mul_assoc, Int.mul_assoc, ← Int.mul_assoc z1, Int.mul_comm z1 (P : Int), Int.mul_assoc]
      have hlt : u1.natAbs ≤ N := by
        rw [Int.natAbs_mul, Int.natAbs_mul, Int.natAbs_natCast] at hN
        have h1 : 1 ≤ u1.natAbs := by omega
        have h2 := Nat.mul_le_mul (show 2 ≤ P * P from Nat.le_trans (show 2 ≤ 3 * 3 by decide) (Nat.mul_le_mul h3 h3)) (Nat.le_refl u1.natAbs)
        omega
      rw [Int.mul_comm _ u1, Int.mul_comm _ v1]
      rw [symV_congr (cls_sqI hu1 hP0 hq) (cls_sqI hv1 hP0 hq)]
      exact stein_odd hq hP h3 N u1 v1 z1 hlt hu1 hv1 he1
    · by_cases hpu : (P : Int) ∣ u
      · by_cases hpv : (P : Int) ∣ v
        · have hz : (P : Int) ∣ z := by
            have h1 : (P : Int) ∣ z * z := by rw [← he]; exact Int.dvd_add hpu hpv
            rcases primeI_dvd_mul hP h1 with h | h <;> exact h
          obtain ⟨z1, rfl⟩ := hz
          obtain ⟨u1, rfl⟩ := hpu
          obtain ⟨v1, rfl⟩ := hpv
          have hu1 : u1 ≠ 0 := by rintro rfl; exact hu (Int.mul_zero _)
          have hv1 : v1 ≠ 0 := by rintro rfl; exact hv (Int.mul_zero _)
          have he1 : u1 + v1 = (P : Int) * (z1 * z1) := by
            refine Int.eq_of_mul_eq_mul_left hP0 ?_
            rw [Int.mul_add, he, Int.mul_assoc, Int.mul_left_comm z1]
          have hnv : ¬ (P : Int) ∣ v1 := fun h => hd ⟨Int.mul_dvd_mul_left _ (by
            have h1 : (P : Int) ∣ u1 + v1 := by rw [he1]; exact Int.dvd_mul_right _ _
            have := Int.dvd_sub h1 h
            rwa [Int.add_sub_cancel] at this), Int.mul_dvd_mul_left _ h⟩
          have hc : cls v1 (P : Int) = cls (-u1) (P : Int) := cls_cong hP h3 hnv (by
            rw [Int.sub_neg, Int.add_comm, he1]; exact Int.dvd_mul_right _ _)
          have hc2 : cls ((P : Int) * v1) (P : Int) = cls (-((P : Int) * u1)) (P : Int) := by
            rw [← Int.mul_neg, cls_mul hP0 hv1 hq, cls_mul hP0 (by omega) hq, hc]
          rw [symV_congr (c := (P : Int) * u1) (d := -((P : Int) * u1)) rfl hc2]
          exact symV_minus hu hq
        · have hc : cls v (P : Int) = cls (z * z) (P : Int) := cls_cong hP h3 hpv (by
            rw [← he, show v - (u + v) = -u by omega]; exact Int.dvd_neg.2 hpu)
          have hz : z ≠ 0 := by
            rintro rfl
            exact hpv (by rw [show v = -u by omega]; exact Int.dvd_neg.2 hpu)
          exact symV_sq hu hq (by unfold sqAt; rw [hc, cls_tt hz hq]; rfl)
      · by_cases hpv : (P : Int) ∣ v
        · have hc : cls u (P : Int) = cls (z * z) (P : Int) := cls_cong hP h3 hpu (by
            rw [← he, show u - (u + v) = -v by omega]; exact Int.dvd_neg.2 hpv)
          have hz : z ≠ 0 := by
            rintro rfl
            exact hpu (by rw [show u = -v by omega]; exact Int.dvd_neg.2 hpv)
          rw [symV_comm hu hv hq]
          exact symV_sq hv hq (by unfold sqAt; rw [hc, cls_tt hz hq]; rfl)
        · exact sym_units hP h3 hpu hpv

theorem plTwo : plI 2 = true := by decide
theorem cls2_odd {n : Int} (h : n % 2 = 1) : cls n 2 = (0, n % 8) := by
  have h0 : n ≠ 0 := by omega
  obtain ⟨a, b⟩ := unit_self prime2 (n := n) (by omega) h0
  rw [show ((2 : Nat) : Int) = 2 from rfl] at b
  rw [cls_two, a, b]
theorem cls2_two {n : Int} (h : n % 2 = 1) : cls (2 * n) 2 = (1, n % 8) := by
  rw [cls_mul (by decide) (by omega) plTwo, cls2_odd h, show cls 2 2 = (1, 1) by decide]
  unfold comb
  rw [if_pos rfl]
  simp
theorem cls2_four {n : Int} (h : n ≠ 0) : cls (4 * n) 2 = cls n 2 := by
  rw [show 4 * n = n * (2 * 2) by omega]
  exact cls_sqI h (by decide) plTwo
theorem sym2_fin1 : ∀ u ∈ ([1, 3, 5, 7] : List Int), ∀ v ∈ ([1, 3, 5, 7] : List Int), (u + v) % 4 = 0 → symC 2 (0, u) (0, v) = 1 := by decide +kernel
theorem sym2_fin2 : ∀ u ∈ ([1, 3, 5, 7] : List Int), ∀ v ∈ ([1, 3, 5, 7] : List Int), (u + 2 * v) % 8 = 1 → symC 2 (0, u) (1, v) = 1 := by decide +kernel
theorem sym2_fin3 : ∀ v ∈ ([1, 3, 5, 7] : List Int), symC 2 (0, 5) (0, v) = 1 := by decide +kernel
theorem sym2_fin4 : ∀ u ∈ ([1, 3, 5, 7] : List Int), ∀ v ∈ ([1, 3, 5, 7] : List Int), (u + v) % 8 = 0 ∨ (u + v) % 8 = 2 → symC 2 (1, u) (1, v) = 1 := by decide +kernel
theorem mod8_odd {n : Int} (h : n % 2 = 1) : n % 8 ∈ ([1, 3, 5, 7] : List Int) := by
  have : n % 8 = 1 ∨ n % 8 = 3 ∨ n % 8 = 5 ∨ n % 8 = 7 := by omega
  rcases this with h | h | h | h <;> rw [h] <;> decide
theorem sq_even {z : Int} (h : z % 2 = 0) : z * z % 4 = 0 := by
  obtain ⟨t, rfl⟩ : ∃ t, z = 2 * t := ⟨z / 2, by omega⟩
  rw [show 2 * t * (2 * t) = 4 * (t * t) by rw [Int.mul_assoc, Int.mul_left_comm t, ← Int.mul_assoc]; rfl]
  exact Int.mul_emod_right _ _
theorem sq_odd {z : Int} (h : z % 2 = 1) : z * z % 8 = 1 := by
  have h8 : z % 8 = 1 ∨ z % 8 = 3 ∨ z % 8 = 5 ∨ z % 8 = 7 := by omega
  rw [Int.mul_emod]
  rcases h8 with h | h | h | h <;> rw [h] <;> rfl
/-- an odd number and an even one -/
theorem stein2_oe {u v z : Int} (hu : u % 2 = 1) (hv : v % 2 = 0) (v0 : v ≠ 0) (he : u + v = z * z) : symV u v 2 = 1 := by
  have hz : z % 2 = 1 := by
    by_cases h : z % 2 = 0
    · have := sq_even h; omega
    · omega
  have hz8 := sq_odd hz
  rw [← he] at hz8
  obtain ⟨w, rfl⟩ : ∃ w, v = 2 * w := ⟨v / 2, by omega⟩
  by_cases hw : w % 2 = 1
  · unfold symV
    rw [cls2_odd hu, cls2_two hw]
    exact sym2_fin2 _ (mod8_odd hu) _ (mod8_odd hw) (by omega)
  · obtain ⟨t, rfl⟩ : ∃ t, w = 2 * t := ⟨w / 2, by omega⟩
    have ht0 : t ≠ 0 := by omega
    by_cases ht : t % 2 = 1
    · unfold symV
      rw [show 2 * (2 * t) = 4 * t by omega, cls2_four ht0, cls2_odd hu, cls2_odd ht, show u % 8 = 5 by omega]
      exact sym2_fin3 _ (mod8_odd ht)
    · have h1 : u % 8 = 1 := by omega
      rw [symV_comm (by omega) v0 plTwo]
      exact symV_sq v0 plTwo (by unfold sqAt; rw [cls2_odd hu, h1]; rfl)
theorem stein_two : ∀ (N : Nat) (u v z : Int), u.natAbs ≤ N → u ≠ 0 → v ≠ 0 → u + v = z * z → symV u v 2 = 1
  | 0, u, v, z, hN, hu, _, _ => absurd hN (by omega)
  | N + 1, u, v, z, hN, hu, hv, he => by
    by_cases hu2 : u % 2 = 1
    · by_cases hv2 : v % 2 = 1
      · have hz : z % 2 = 0 := by
          by_cases h : z % 2 = 1
          · have := sq_odd h; omega
          · omega
        have h4 := sq_even hz
        rw [← he] at h4
        unfold symV
        rw [cls2_odd hu2, cls2_odd hv2]
        exact sym2_fin1 _ (mod8_odd hu2) _ (mod8_odd hv2) (by omega)
      · exact stein2_oe hu2 (by omega) hv he
    · by_cases hv2 : v % 2 = 1
      · rw [symV_comm hu hv plTwo]
        exact stein2_oe (z := z) hv2 (by omega) hu (by omega)
      · have hz : z % 2 = 0 := by
          by_cases h : z % 2 = 1
          · have := sq_odd h; omega
          · omega
        obtain ⟨z1, rfl⟩ : ∃ t, z = 2 * t := ⟨z / 2, by omega⟩
        obtain ⟨u1, rfl⟩ : ∃ t, u = 2 * t := ⟨u / 2, by omega⟩
        obtain ⟨v1, rfl⟩ : ∃ t, v = 2 * t := ⟨v / 2, by omega⟩
        have he1 : u1 + v1 = 2 * (z1 * z1) := by
          have : 2 * z1 * (2 * z1) = 4 * (z1 * z1) := by rw [Int.mul_assoc, Int.mul_left_comm z1, ← Int.mul_assoc]; rfl
          omega
        by_cases hu3 : u1 % 2 = 1
        · have hv3 : v1 % 2 = 1 := by omega
          have hs : (u1 + v1) % 8 = 0 ∨ (u1 + v1) % 8 = 2 := by
            rw [he1]
            by_cases h : z1 % 2 = 0
            · have := sq_even h; omega
            · have := sq_odd (show z1 % 2 = 1 by omega); omega
          unfold symV
          rw [cls2_two hu3, cls2_two hv3]
          exact sym2_fin4 _ (mod8_odd hu3) _ (mod8_odd hv3) (by omega)
        · obtain ⟨u2, rfl⟩ : ∃ t, u1 = 2 * t := ⟨u1 / 2, by omega⟩
          obtain ⟨v2, rfl⟩ : ∃ t, v1 = 2 * t := ⟨v1 / 2, by omega⟩
          have hu4 : u2 ≠ 0 := by omega
          have hv4 : v2 ≠ 0 := by omega
          rw [show 2 * (2 * u2) = 4 * u2 by omega, show 2 * (2 * v2) = 4 * v2 by omega, symV_congr (cls2_four hu4) (cls2_four hv4)]
          exact stein_two N u2 v2 z1 (by omega) hu4 hv4 (by omega)

/-- where two numbers add up to a square, their symbol is 1 at each place -/
theorem stein_sq {u v z q : Int} (hu : u ≠ 0) (hv : v ≠ 0) (he : u + v = z * z) (hq : plI q = true) : symV u v q = 1 := by
  rcases plI_cases hq with rfl | rfl | ⟨P, rfl, hP, h3, h5⟩
  · have hz : 0 ≤ z * z := by
      rcases Int.le_total 0 z with h | h
      · exact Int.mul_nonneg h h
      · exact Int.mul_nonneg_of_nonpos_of_nonpos h h
    unfold symV symC
    rw [cls_zero, cls_zero, if_pos rfl]
    by_cases h : 0 < u
    · rw [if_pos h]; simp
    · rw [if_neg h, if_pos (by omega : 0 < v)]; simp
  · exact stein_two _ u v z (Nat.le_refl _) hu hv he
  · exact stein_odd hq hP h3 _ u v z (Nat.le_refl _) hu hv he
/-- what is solved has the symbol 1 -/
theorem solved_one {a b x y z q : Int} (ha : a ≠ 0) (hb : b ≠ 0) (hn : ¬ (x = 0 ∧ y = 0 ∧ z = 0)) (he : z * z = a * x * x + b * y * y) (hq : plI q = true) : symV a b q = 1 := by
  rw [Int.mul_assoc, Int.mul_assoc] at he
  by_cases hx : x = 0
  · subst hx
    rw [Int.mul_zero, Int.mul_zero, Int.zero_add] at he
    have hz : z ≠ 0 := by
      rintro rfl
      rw [Int.mul_zero] at he
      have hy : y ≠ 0 := fun h => hn ⟨rfl, h, rfl⟩
      exact Int.mul_ne_zero hb (Int.mul_ne_zero hy hy) he.symm
    have hy : y ≠ 0 := by
      rintro rfl
      rw [Int.mul_zero, Int.mul_zero] at he
      exact Int.mul_ne_zero hz hz he
    refine symV_sq ha hq ?_
    unfold sqAt
    rw [← cls_sqI hb hy hq, ← he, cls_tt hz hq]
    rfl
  · by_cases hy : y = 0
    · subst hy
      rw [Int.mul_zero, Int.mul_zero, Int.add_zero] at he
      have hz : z ≠ 0 := by
        rintro rfl
        rw [Int.mul_zero] at he
        exact Int.mul_ne_zero ha (Int.mul_ne_zero hx hx) he.symm
      rw [symV_comm ha hb hq]
      refine symV_sq hb hq ?_
      unfold sqAt
      rw [← cls_sqI ha hx hq, ← he, cls_tt hz hq]
      rfl
    · have h1 := stein_sq (Int.mul_ne_zero ha (Int.mul_ne_zero hx hx)) (Int.mul_ne_zero hb (Int.mul_ne_zero hy hy)) he.symm hq
      rwa [symV_congr (cls_sqI ha hx hq) (cls_sqI hb hy hq)] at h1

end Go.Proofs.Ytdclmjmefkgbbab

/-! FmTh -/
set_option linter.unusedVariables false
namespace Go.Proofs.Ytdclmjmefkgbbab
open Go.RowKit

def NZ (xs : List Int) : Prop := ∀ x ∈ xs, x ≠ 0
theorem NZ.tail {x : Int} {xs : List Int} (h : NZ (x :: xs)) : NZ xs := fun y hy => h y (List.mem_cons_of_mem _ hy)
theorem NZ.head {x : Int} {xs : List Int} (h : NZ (x :: xs)) : x ≠ 0 := h x (List.mem_cons_self ..)
theorem NZ.prod {xs : List Int} (h : NZ xs) : prodI xs ≠ 0 := prodI_ne h
theorem NZ.app {xs ys : List Int} (h : NZ xs) (k : NZ ys) : NZ (xs ++ ys) := fun x hx => by
  rcases List.mem_append.1 hx with h1 | h1
  · exact h x h1
  · exact k x h1
theorem NZ.left {xs ys : List Int} (h : NZ (xs ++ ys)) : NZ xs := fun x hx => h x (List.mem_append_left _ hx)
theorem NZ.right {xs ys : List Int} (h : NZ (xs ++ ys)) : NZ ys := fun x hx => h x (List.mem_append_right _ hx)
theorem fv_nz {xs : List Int} (h : fvB xs = true) : NZ xs := fun x hx => ((fvB_iff.1 h).1 x hx).1

theorem symV_one {a q : Int} (ha : a ≠ 0) (hq : plI q = true) : symV a 1 q = 1 := by
  refine symV_sq ha hq ?_
  unfold sqAt
  have := cls_tt (show (1 : Int) ≠ 0 by decide) hq
  rw [Int.mul_one] at this
  rw [this]; rfl
theorem symV_mul_left {a b c q : Int} (ha : a ≠ 0) (hb : b ≠ 0) (hc : c ≠ 0) (hq : plI q = true) : symV (a * b) c q = symV a c q * symV b c q := by
  rw [symV_comm (Int.mul_ne_zero ha hb) hc hq, symV_mul hc ha hb hq, symV_comm hc ha hq, symV_comm hc hb hq]

/-- the invariant, term by term -/
def hasC (q : Int) : List Int → Int
  | [] => 1
  | x :: xs => symV x (prodI xs) q * hasC q xs
theorem hasC_pm {q : Int} (hq : plI q = true) : ∀ {xs : List Int}, NZ xs → hasC q xs = 1 ∨ hasC q xs = -1
  | [], _ => .inl rfl
  | x :: xs, h => pm_mul (symV_val h.head h.tail.prod hq) (hasC_pm hq h.tail)
theorem hasC_app {q : Int} (hq : plI q = true) : ∀ {xs ys : List Int}, NZ xs → NZ ys → hasC q (xs ++ ys) = hasC q xs * hasC q ys * symV (prodI xs) (prodI ys) q
  | [], ys, _, hy => by
    show hasC q ys = 1 * hasC q ys * symV 1 (prodI ys) q
    rw [symV_comm (by decide) hy.prod hq, symV_one hy.prod hq, Int.one_mul, Int.mul_one]
  | x :: xs, ys, hx, hy => by
    show symV x (prodI (xs ++ ys)) q * hasC q (xs ++ ys) = symV x (prodI xs) q * hasC q xs * hasC q ys * symV (x * prodI xs) (prodI ys) q
    rw [prodI_app, symV_mul hx.head hx.tail.prod hy.prod hq, hasC_app hq hx.tail hy, symV_mul_left hx.head hx.tail.prod hy.prod hq]
    simp only [Int.mul_assoc, Int.mul_comm, Int.mul_left_comm]
theorem hasC_one (q : Int) (hq : plI q = true) {x : Int} (hx : x ≠ 0) : hasC q [x] = 1 := by
  show symV x 1 q * 1 = 1
  rw [symV_one hx hq]; rfl
theorem hasR_prod {xs : List Int} {q : Int} (hq : plI q = true) (h : NZ xs) {i : Nat} (hi : i < xs.length) : ∀ k, k ≤ xs.length → hasR xs q i k = symV (prodI (xs.take k)) (xs.getD i 0) q
  | 0, _ => by
    have hx : xs.getD i 0 ≠ 0 := by rw [getD_at _ _ hi]; exact h _ (List.getElem_mem _)
    show 1 = symV 1 (xs.getD i 0) q
    rw [symV_comm (by decide) hx hq, symV_one hx hq]
  | k + 1, hk => by
    have hx : xs.getD i 0 ≠ 0 := by rw [getD_at _ _ hi]; exact h _ (List.getElem_mem _)
    have hy : xs.getD k 0 ≠ 0 := by rw [getD_at _ _ (by omega)]; exact h _ (List.getElem_mem _)
    have hp : prodI (xs.take k) ≠ 0 := prodI_ne fun x hx => h x (List.mem_of_mem_take hx)
    show hasR xs q i k * symV (xs.getD k 0) (xs.getD i 0) q = _
    rw [hasR_prod hq h hi k (by omega), prodI_take (by omega), symV_mul_left hp hy hx hq]
theorem hasP_eq {xs : List Int} {q : Int} (hq : plI q = true) (h : NZ xs) : ∀ i, i ≤ xs.length → hasP xs q i = hasC q (xs.take i)
  | 0, _ => by rw [List.take_zero]; rfl
  | i + 1, hi => by
    have hx : xs.getD i 0 ≠ 0 := by rw [getD_at _ _ (by omega)]; exact h _ (List.getElem_mem _)
    have ht : NZ (xs.take i) := fun x hx => h x (List.mem_of_mem_take hx)
    show hasP xs q i * hasR xs q i i = _
    rw [hasP_eq hq h i (by omega), hasR_prod hq h (by omega) i (by omega), take_snoc _ _ (show i < xs.length by omega), hasC_app hq ht (fun y hy => by
      rw [List.mem_singleton] at hy; rw [hy]; exact h _ (List.getElem_mem _)), hasC_one q hq (h _ (List.getElem_mem _)), getD_at _ _ (show i < xs.length by omega)]
    show _ = hasC q (xs.take i) * 1 * symV (prodI (xs.take i)) (xs[i] * 1) q
    rw [Int.mul_one, Int.mul_one]
theorem hasF_eq {xs : List Int} {q : Int} (hq : plI q = true) (h : NZ xs) : hasF xs q = hasC q xs := by
  unfold hasF
  rw [hasP_eq hq h _ (Nat.le_refl _), List.take_length]

theorem prodI_perm {xs ys : List Int} (h : xs.Perm ys) : prodI xs = prodI ys := by
  induction h with
  | nil => rfl
  | cons x _ ih => show x * _ = x * _; rw [ih]
  | swap x y l => show y * (x * prodI l) = x * (y * prodI l); exact Int.mul_left_comm ..
  | trans _ _ ih1 ih2 => rw [ih1, ih2]
theorem NZ.perm {xs ys : List Int} (h : xs.Perm ys) (hx : NZ xs) : NZ ys := fun y hy => hx y (h.mem_iff.2 hy)
theorem hasC_perm {q : Int} (hq : plI q = true) {xs ys : List Int} (h : xs.Perm ys) : NZ xs → hasC q xs = hasC q ys := by
  induction h with
  | nil => intro _; rfl
  | cons x hp ih =>
    intro hx
    show symV x _ q * hasC q _ = symV x _ q * hasC q _
    rw [ih hx.tail, prodI_perm hp]
  | swap x y l =>
    intro hx
    have hy0 := hx.head
    have hx0 := hx.tail.head
    have hl := hx.tail.tail.prod
    show symV y (x * prodI l) q * (symV x (prodI l) q * hasC q l) = symV x (y * prodI l) q * (symV y (prodI l) q * hasC q l)
    rw [symV_mul hy0 hx0 hl hq, symV_mul hx0 hy0 hl hq, symV_comm hy0 hx0 hq]
    simp only [Int.mul_assoc, Int.mul_comm, Int.mul_left_comm]
  | trans h1 _ ih1 ih2 => intro hx; rw [ih1 hx, ih2 (NZ.perm h1 hx)]
theorem less_perm {xs ys : List Int} (h : xs.Perm ys) : lessN xs = lessN ys := (h.filter _).length_eq
theorem less_app (xs ys : List Int) : lessN (xs ++ ys) = lessN xs + lessN ys := by unfold lessN; rw [List.filter_append, List.length_append]

/-- terms of the same classes -/
theorem prod_cls {q : Int} (hq : plI q = true) {f : Int → Int} (hf : ∀ x, x ≠ 0 → f x ≠ 0 ∧ cls (f x) q = cls x q) : ∀ {xs : List Int}, NZ xs → NZ (xs.map f) ∧ cls (prodI (xs.map f)) q = cls (prodI xs) q
  | [], _ => ⟨fun x hx => by simp at hx, rfl⟩
  | x :: xs, h => by
    obtain ⟨h1, h2⟩ := prod_cls hq hf h.tail
    obtain ⟨f1, f2⟩ := hf x h.head
    refine ⟨fun y hy => ?_, ?_⟩
    · rw [List.map_cons, List.mem_cons] at hy
      rcases hy with rfl | hy
      · exact f1
      · exact h1 y hy
    · show cls (f x * prodI (xs.map f)) q = cls (x * prodI xs) q
      rw [cls_mul f1 h1.prod hq, cls_mul h.head h.tail.prod hq, f2, h2]
theorem hasC_cls {q : Int} (hq : plI q = true) {f : Int → Int} (hf : ∀ x, x ≠ 0 → f x ≠ 0 ∧ cls (f x) q = cls x q) : ∀ {xs : List Int}, NZ xs → hasC q (xs.map f) = hasC q xs
  | [], _ => rfl
  | x :: xs, h => by
    show symV (f x) (prodI (xs.map f)) q * hasC q (xs.map f) = symV x (prodI xs) q * hasC q xs
    rw [hasC_cls hq hf h.tail, symV_congr (hf x h.head).2 (prod_cls hq hf h.tail).2]
theorem core_cls {n q : Int} (hn : n ≠ 0) (hq : plI q = true) : coreG n ≠ 0 ∧ cls (coreG n) q = cls n q := by
  have h := core_is hn
  have hc := h.ne hn
  refine ⟨hc, ?_⟩
  conv => rhs; rw [← h.eq]
  exact (cls_sqI hc (by have := h.pos; omega) hq).symm
theorem core_sign {n : Int} (hn : n ≠ 0) : (coreG n < 0 ↔ n < 0) := by
  have h := core_is hn
  have hr : (0 : Int) < (rootG n : Int) * rootG n := Int.mul_pos (by have := h.pos; omega) (by have := h.pos; omega)
  constructor
  · intro hc
    rw [← h.eq]
    exact Int.mul_neg_of_neg_of_pos hc hr
  · intro hc
    rcases Int.lt_or_le (coreG n) 0 with h1 | h1
    · exact h1
    · exfalso
      have h2 := Int.mul_nonneg h1 (Int.le_of_lt hr)
      rw [h.eq] at h2
      omega

/-- scaled by n: the invariant -/
theorem hasC_scale {q n : Int} (hq : plI q = true) (hn : n ≠ 0) : ∀ {xs : List Int}, NZ xs → NZ (xs.map (n * ·)) ∧
    (xs.length % 2 = 0 → cls (prodI (xs.map (n * ·))) q = cls (prodI xs) q) ∧ (xs.length % 2 = 1 → cls (prodI (xs.map (n * ·))) q = cls (n * prodI xs) q)
  | [], _ => ⟨fun x hx => by simp at hx, fun _ => rfl, fun h => by simp at h⟩
  | x :: xs, h => by
    obtain ⟨h1, h2, h3⟩ := hasC_scale hq hn h.tail
    have hx := h.head
    have hp := h.tail.prod
    refine ⟨fun y hy => ?_, fun hl => ?_, fun hl => ?_⟩
    · rw [List.map_cons, List.mem_cons] at hy
      rcases hy with rfl | hy
      · exact Int.mul_ne_zero hn hx
      · exact h1 y hy
    · show cls (n * x * prodI (xs.map (n * ·))) q = cls (x * prodI xs) q
      rw [List.length_cons] at hl
      rw [cls_mul (Int.mul_ne_zero hn hx) h1.prod hq, h3 (by omega), ← cls_mul (Int.mul_ne_zero hn hx) (Int.mul_ne_zero hn hp) hq,
        show n * x * (n * prodI xs) = x * prodI xs * (n * n) by simp only [Int.mul_assoc, Int.mul_comm, Int.mul_left_comm]]
      exact cls_sqI (Int.mul_ne_zero hx hp) hn hq
    · show cls (n * x * prodI (xs.map (n * ·))) q = cls (n * (x * prodI xs)) q
      rw [List.length_cons] at hl
      rw [cls_mul (Int.mul_ne_zero hn hx) h1.prod hq, h2 (by omega), ← cls_mul (Int.mul_ne_zero hn hx) hp hq, Int.mul_assoc]

/-- equal forms: the same at all places -/
theorem sq_cls {a b q : Int} (ha : a ≠ 0) (hb : b ≠ 0) (hq : plI q = true) : sqAt (a * b) q = true ↔ cls a q = cls b q := by
  rw [sq_mul ha hb hq, decide_eq_true_eq]

end Go.Proofs.Ytdclmjmefkgbbab

/-! LawFm -/
set_option linter.unusedVariables false
namespace Go.Proofs.Ytdclmjmefkgbbab
open Go.RowKit

def MildT (xs : List Int) : Prop := xs.length ≤ 1000 ∧ ∀ x ∈ xs, -1000000 ≤ x ∧ x ≤ 1000000
theorem TermsOk.mild {xs : List Int} (h : TermsOk xs) : MildT xs := ⟨by have := h.1; omega, fun x hx => by have := h.2 x hx; omega⟩
theorem VecGood.mild {m : Nat} {xs : List Int} (h : VecGood m xs) (hm : m ≤ 10) : MildT xs := ⟨by have := h.1; omega, fun x hx => by have := h.2 x hx; omega⟩
theorem MildT.at {xs : List Int} (h : MildT xs) {i : Nat} (hi : i < xs.length) : -1000000 ≤ xs.getD i 0 ∧ xs.getD i 0 ≤ 1000000 := by
  rw [getD_at _ _ hi]; exact h.2 _ (List.getElem_mem _)

set_option maxRecDepth 100000 in
set_option maxHeartbeats 2000000 in
theorem minusOf_any (v : Value) (xs : List Int) (w : World) (h : Rd w v xs) (hf : MildT xs) :
    Calls Try.prog 57 #[v] w fun e w' => ∃ u, e = .returned u ∧ Owns w' w.heap.size u (xs.map (fun x => -x)) ∧ Below w.heap.size w w' := by
  obtain ⟨i0, hi, hz0, hz1, hz2⟩ := info_parts infoInt
  have HB0 := hid ((Below.refl w.heap.size w).alloc (Nat.le_refl _) (.cells #[] 3))
  have HO0 : Hid (Owns (w.alloc (.cells #[] 3)) w.heap.size (.slice (some ⟨w.heap.size, 0, none⟩) 0 0) []) := hid (World.ownsRow_made (size := 1) w #[] 0 (Nat.le_refl _) (by unfold maxLen; omega) rfl)
  have HH := hid h
  obtain ⟨ad, cap, rfl, _⟩ := h.form
  have HF := hid hf
  have hl4 := hf.1
  clear h hf
  go_enter Try.func57, Try.ntmps57
  go_wp2_with fail
  go_loopw [3, 4] (fun so si wr => ∃ K : Nat, si = .int .i64 K ∧ K ≤ xs.length ∧ Hid (Owns wr w.heap.size so ((xs.take K).map (fun x => -x))) ∧ Hid (Below w.heap.size w wr)) (fun _ si _ => xs.length - (intOf si).toNat)
  case atStart => exact ⟨0, rfl, by omega, hid (by simpa using HO0.out), HB0⟩
  case round =>
    obtain ⟨K, rfl, hK, HO, HB⟩ := hrel
    rename World => wr
    by_cases hlt : K < xs.length
    · obtain ⟨a2, cap2, e2, hform⟩ := (HH.out.keep HB.out).form
      cases e2
      obtain ⟨bb, o, rfl, hml, hc⟩ := hform (by omega)
      have hcell := hc K hlt
      have ht := HF.out.at hlt
      obtain ⟨x, hx⟩ : ∃ x, x = xs.getD K 0 := ⟨_, rfl⟩
      rw [← hx] at hcell ht
      have HS : Hid ((xs.take (K + 1)).map (fun x => -x) = (xs.take K).map (fun x => -x) ++ [-x]) := hid (by rw [map_take hlt, hx])
      have hi0 : (K : Int) < (xs.length : Int) := by omega
      have HLT := hid hlt
      obtain ⟨pre, hpre⟩ : ∃ pre, pre = (xs.take K).map (fun x => -x) := ⟨_, rfl⟩
      have hprel : pre.length ≤ 1000 := by rw [hpre, List.length_map, List.length_take]; omega
      rw [← hpre] at HO HS
      have hbs : w.heap.size ≤ wr.heap.size := HB.out.size
      unfold maxLen at hml
      clear hform hc hx hlt hpre
      go_wp2_with (at_builtin; refine wpList_append_own_at _ rfl _ _ 27 rfl w.heap.size 3 i0 (.int .i64 0) 1 8 Try.underlying27 hi hz0 hz1 hz2 rfl (by decide) _ _ _ rfl ((show World.ownsRow _ _ _ _ _ _ _ from HO.out).alloc _) ⟨wr.heap.size, 0, none⟩ 1 1 [.int .i64 (-x)] rfl rfl (cell_one_new _ _ _) (by simp [Value.oneCell']) (by unfold maxLen; omega) (by omega) (by simp; omega) ?_; intro v' w3 hown' hgrow _ hat)
      have hsg := hgrow.size
      simp only [World.size_alloc] at hsg
      go_roundw
      case measure => simp only [intOf]; have := HLT.out; omega
      case rel =>
        refine ⟨K + 1, by go_num, by have := HLT.out; omega, hid ?_, hid (HB.out.alloc hbs _ |>.grown hgrow (by simp; omega) (fun k e => (HO.out.ge k e)))⟩
        rw [HS.out]
        unfold Owns
        simpa using hown'
    · obtain rfl : K = xs.length := by omega
      have HE : Hid (xs.map (fun x => -x) = (xs.take xs.length).map (fun x => -x)) := hid (by rw [List.take_length])
      clear hlt
      go_wp2_with fail
      go_ret
      exact ⟨_, rfl, by rw [HE.out]; exact HO.out, HB.out⟩


end Go.Proofs.Ytdclmjmefkgbbab

/-! Pf -/
set_option linter.unusedVariables false
namespace Go.Proofs.Ytdclmjmefkgbbab
open Go.RowKit

set_option maxRecDepth 100000 in
set_option maxHeartbeats 1000000 in
theorem formValidP_any (v : Value) (xs : List Int) (w : World) (h : Rd w v xs) : Calls Try.prog 21 #[v] w fun e w' => e = .returned (.bool (fvB xs)) ∧ w = w' := by
  obtain ⟨a, cap, rfl, hform⟩ := h.form
  have HFM := hid hform
  have hmx : xs.length ≤ maxLen := by
    rcases Nat.eq_zero_or_pos xs.length with e | e
    · rw [e]; exact Nat.zero_le _
    · obtain ⟨_, _, _, hm, _⟩ := hform e; exact hm
  unfold maxLen at hmx
  clear hform h
  go_enter Try.func21, Try.ntmps21
  go_wp2_with fail
  go_loop [7] (fun si => ∃ K : Nat, si = .int .i64 K ∧ K ≤ xs.length ∧ Hid (∀ i, i < K → termB (xs.getD i 0) = true)) (fun si => xs.length - (intOf si).toNat)
  case atStart => exact ⟨0, rfl, by omega, hid (fun i hi => by omega)⟩
  case round =>
    obtain ⟨K, rfl, hK, HE⟩ := hrel
    by_cases hlt : K < xs.length
    · obtain ⟨b, o, rfl, hml, hc⟩ := HFM.out (by omega)
      have hcell := hc K hlt
      obtain ⟨x, hx⟩ : ∃ x, x = xs.getD K 0 := ⟨_, rfl⟩
      rw [← hx] at hcell
      have HX := hid hx
      have HLT := hid hlt
      have hKi : (K : Int) < (xs.length : Int) := by omega
      have HNO : Hid (termB x = false → fvB xs = false) := hid (fun e => by
        cases hf : fvB xs with
        | false => rfl
        | true =>
          have := termB_iff.2 (fv_at hf hlt)
          rw [← hx, e] at this
          cases this)
      have HTB : Hid (termB x = true ↔ x ≠ 0 ∧ -30 ≤ x ∧ x ≤ 30) := hid termB_iff
      clear hx hc hml hlt
      by_cases x0 : x = 0
      · have T : (x == 0) = true := by rw [beq_iff_eq]; exact x0
        have HR := hid (HNO.out (by rw [x0]; rfl))
        clear x0
        go_wp2_with fail
        go_ret
        exact ⟨retB HR.out.symm, rfl⟩
      · have T : (x == 0) = false := by rw [beq_eq_false_iff_ne]; exact x0
        by_cases x1 : x < -30
        · have HR := hid (HNO.out (by
            cases ht : termB x with
            | false => rfl
            | true => have := HTB.out.1 ht; omega))
          clear x0
          go_wp2_with fail
          go_ret
          exact ⟨retB HR.out.symm, rfl⟩
        · by_cases x2 : x > 30
          · have HR := hid (HNO.out (by
              cases ht : termB x with
              | false => rfl
              | true => have := HTB.out.1 ht; omega))
            clear x0
            go_wp2_with fail
            go_ret
            exact ⟨retB HR.out.symm, rfl⟩
          · have HT : Hid (termB x = true) := hid (HTB.out.2 ⟨x0, by omega, by omega⟩)
            clear x0
            go_wp2_with fail
            go_round
            case measure => simp only [intOf]; have := HLT.out; omega
            case rel => exact ⟨K + 1, by go_num, by have := HLT.out; omega, hid (fun i hi => by
              by_cases e : i = K
              · rw [e, ← HX.out]; exact HT.out
              · exact HE.out i (by omega))⟩
    · obtain rfl : K = xs.length := by omega
      have HR : Hid (fvB xs = inR (xs.length : Nat) 1 4) := hid (by
        unfold fvB
        rw [show xs.all termB = true from List.all_eq_true.2 fun x hx => by
          obtain ⟨i, hi, rfl⟩ := List.getElem_of_mem hx
          have := HE.out i hi
          rwa [getD_at _ _ hi] at this, Bool.true_and])
      clear hlt
      by_cases l1 : (1 : Int) ≤ (xs.length : Int)
      · by_cases l2 : (xs.length : Int) ≤ 4
        · have HV : Hid (fvB xs = true) := hid (by rw [HR.out]; unfold inR; rw [decide_eq_true l1, decide_eq_true l2]; rfl)
          go_wp2_with fail
          go_ret
          exact ⟨retB HV.out.symm, rfl⟩
        · have HV : Hid (fvB xs = false) := hid (by rw [HR.out]; unfold inR; rw [decide_eq_true l1, decide_eq_false l2]; rfl)
          go_wp2_with fail
          go_ret
          exact ⟨retB HV.out.symm, rfl⟩
      · have HV : Hid (fvB xs = false) := hid (by rw [HR.out]; unfold inR; rw [decide_eq_false l1]; rfl)
        go_wp2_with fail
        go_ret
        exact ⟨retB HV.out.symm, rfl⟩

end Go.Proofs.Ytdclmjmefkgbbab
