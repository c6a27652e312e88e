/-
  Some texts in one file: Fm6 Stein FmTh FmSame.
-/
import Derived.Test.YtenibnblibnocaaFm5
import Derived.Test.YtenibnblibnocaaBun10
import Derived.Test.YtenibnblibnocaaBun11
/-! Fm6 -/
set_option linter.unusedVariables false
namespace Go.Proofs.Ytenibnblibnocaa
open Go.RowKit

/-- a slice with an address, or nil -/
def Firm (v : Value) : Prop := v = .slice none 0 0 ∨ ∃ ad n c, v = .slice (some ad) n c
theorem Owns.firm {W : World} {B : Nat} {v : Value} {xs : List Int} (h : Owns W B v xs) : Firm v := by
  rcases h.2 with ⟨rfl, _⟩ | ⟨g, cap, cur, rfl, _⟩
  · exact .inl rfl
  · exact .inr ⟨_, _, _, rfl⟩
theorem grownBy_refl (w : World) (r : Option Nat) : w.grownBy w r := ⟨rfl, rfl, rfl, Nat.le_refl _, fun _ _ _ => rfl⟩
/-- append(s, xs...) where s is the call's own and xs is any slice that reads as numbers -/
theorem append_rd {w : World} {ops : Array Oper} {rest : List Oper} {o : Oper} {a : Act} {Q : Exit → Act → World → Prop} (hgd : o.guard = none) (s x : Operand)
    (ho : o.op = .call { callee := .builtin .append, args := #[s, x], argTypes := #[22, 22] })
    (base : Nat) (v : Value) (xs : List Int) (hs : a.eval s = v) (hown : Owns w base v xs) (u : Value) (ys : List Int) (hx : a.eval x = u) (hrd : Rd w u ys) (hf : Firm u)
    (h63 : xs.length + ys.length ≤ 10000000) (hbase : base ≤ w.heap.size)
    (h : ∀ v' w', Owns w' base v' (xs ++ ys) → w.grownBy w' v.ownBlock → wpList Try.prog ops Q rest (a.put o.dst v') w') :
    wpList Try.prog ops Q (o :: rest) a w := by
  obtain ⟨i0, hi, hz0, hz1, hz2⟩ := info_parts infoInt
  rcases hf with rfl | ⟨ad, n, c, rfl⟩
  · have hy : ys = [] := by
      rcases hrd with ⟨_, _, _, hy⟩ | ⟨_, _, _, e, _⟩
      · exact hy
      · cases e
    subst hy
    exact wpList_append_own_none hgd s x 22 ho base 3 i0 1 Try.underlying22 hi v _ _ hs hown hx (h v w (by rw [List.append_nil]; exact hown) (grownBy_refl w _))
  · have hn : n = ys.length := by
      rcases hrd with ⟨_, _, e, hy⟩ | ⟨_, _, _, e, _⟩
      · cases e; rw [hy]; rfl
      · cases e; rfl
    have hnews : ∀ j z, (ys.map (Value.int .i64))[j]? = some z → w.cell? (ad.add j) = some z := fun j z hz => by
      rcases hrd with ⟨_, _, _, hy⟩ | ⟨b, off, cap, e, _, _, hc⟩
      · rw [hy] at hz; simp at hz
      · cases e
        rw [List.getElem?_map] at hz
        by_cases hj : j < ys.length
        · rw [List.getElem?_eq_getElem hj] at hz
          simp only [Option.map_some, Option.some.injEq] at hz
          rw [← hz, show (⟨b, off, none⟩ : Addr).add j = ⟨b, off + j, none⟩ by
            by_cases e : j = 0
            · subst e; simp [Addr.add]
            · simp [Addr.add, e], hc j hj, getD_at _ _ hj]
        · rw [List.getElem?_eq_none (by omega)] at hz; cases hz
    refine wpList_append_own_at w hgd s x 22 ho base 3 i0 (.int .i64 0) 1 8 Try.underlying22 hi hz0 hz1 hz2 rfl (by decide) v _ _ hs hown ad n c (ys.map (Value.int .i64)) hx (by rw [List.length_map, hn, Nat.mul_one]) hnews
      (fun z hz => by rw [List.mem_map] at hz; obtain ⟨y, _, rfl⟩ := hz; rfl) (by unfold maxLen; omega) (by omega) hbase ?_
    intro v' w' hown' hgrow _ _
    refine h v' w' ?_ hgrow
    unfold Owns
    rw [List.length_append, List.map_append, ← hn]
    exact hown'


end Go.Proofs.Ytenibnblibnocaa

/-! Stein -/
set_option linter.unusedVariables false
namespace Go.Proofs.Ytenibnblibnocaa
open Go.RowKit

theorem cls_tt {t q : Int} (ht : t ≠ 0) (hq : plI q = true) : cls (t * t) q = (0, 1) := by
  rw [cls_mul ht ht hq]
  exact (comb_one hq (cls_mem ht hq) (cls_mem ht hq)).2 rfl
theorem cls_sqI {n t q : Int} (hn : n ≠ 0) (ht : t ≠ 0) (hq : plI q = true) : cls (n * (t * t)) q = cls n q := by
  have h1 := cls_mul hn (show (1 : Int) ≠ 0 by decide) hq
  rw [Int.mul_one] at h1
  have h2 := cls_tt (show (1 : Int) ≠ 0 by decide) hq
  rw [Int.mul_one] at h2
  rw [h2] at h1
  rw [cls_mul hn (Int.mul_ne_zero ht ht) hq, cls_tt ht hq, ← h1]
theorem primeI_dvd_mul {P : Nat} (hP : primeN P = true) {a b : Int} (h : (P : Int) ∣ a * b) : (P : Int) ∣ a ∨ (P : Int) ∣ b := by
  rw [Int.ofNat_dvd_left, Int.natAbs_mul] at h
  rw [Int.ofNat_dvd_left, Int.ofNat_dvd_left]
  exact prime_mul hP h
/-- what a prime does not divide has its residue for its class -/
theorem cls_ndvd {P : Nat} (hP : primeN P = true) (h3 : 3 ≤ P) {n : Int} (hn : ¬ (P : Int) ∣ n) : cls n (P : Int) = (0, resN (n % (P : Int)).toNat P) := by
  have h0 : n ≠ 0 := by rintro rfl; exact hn (Int.dvd_zero _)
  rw [Int.ofNat_dvd_left] at hn
  obtain ⟨a, b⟩ := unit_self hP hn h0
  rw [cls_odd h3, a, b]
theorem cls_cong {P : Nat} (hP : primeN P = true) (h3 : 3 ≤ P) {n m : Int} (hn : ¬ (P : Int) ∣ n) (h : (P : Int) ∣ n - m) : cls n (P : Int) = cls m (P : Int) := by
  have hm : ¬ (P : Int) ∣ m := fun hd => hn (by have := Int.dvd_add h hd; rwa [Int.sub_add_cancel] at this)
  rw [cls_ndvd hP h3 hn, cls_ndvd hP h3 hm, Int.emod_eq_emod_iff_emod_sub_eq_zero.2 (Int.emod_eq_zero_of_dvd h)]
theorem sym_units {P : Nat} (hP : primeN P = true) (h3 : 3 ≤ P) {a b : Int} (ha : ¬ (P : Int) ∣ a) (hb : ¬ (P : Int) ∣ b) : symV a b (P : Int) = 1 := by
  unfold symV symC
  rw [cls_ndvd hP h3 ha, cls_ndvd hP h3 hb, if_neg (by omega), if_neg (by omega)]
  simp [halfI]

theorem stein_odd {P : Nat} (hq : plI (P : Int) = true) (hP : primeN P = true) (h3 : 3 ≤ P) : ∀ (N : Nat) (u v z : Int), u.natAbs ≤ N → u ≠ 0 → v ≠ 0 → u + v = z * z → symV u v (P : Int) = 1
  | 0, u, v, z, hN, hu, _, _ => absurd hN (by omega)
  | N + 1, u, v, z, hN, hu, hv, he => by
    have hP0 : (P : Int) ≠ 0 := by omega
    by_cases hd : (P : Int) * P ∣ u ∧ (P : Int) * P ∣ v
    · obtain ⟨⟨u1, rfl⟩, ⟨v1, rfl⟩⟩ := hd
      have hz : (P : Int) ∣ z := by
        have h1 : (P : Int) ∣ z * z := by
          rw [← he, ← Int.mul_add, Int.mul_assoc]; exact Int.dvd_mul_right _ _
        rcases primeI_dvd_mul hP h1 with h | h <;> exact h
      obtain ⟨z1, rfl⟩ := hz
      have hu1 : u1 ≠ 0 := by rintro rfl; exact hu (Int.mul_zero _)
      have hv1 : v1 ≠ 0 := by rintro rfl; exact hv (Int.mul_zero _)
      have he1 : u1 + v1 = z1 * z1 := by
        refine Int.eq_of_mul_eq_mul_left (Int.mul_ne_zero hP0 hP0) ?_
        rw [Int.mul_add, he, Int.mul_assoc, Int.mul_assoc, ← Int.mul_assoc z1, Int.mul_comm z1 (P : Int), Int.mul_assoc]
      have hlt : u1.natAbs ≤ N := by
        rw [Int.natAbs_mul, Int.natAbs_mul, Int.natAbs_natCast] at hN
        have h1 : 1 ≤ u1.natAbs := by omega
        have h2 := Nat.mul_le_mul (show 2 ≤ P * P from Nat.le_trans (show 2 ≤ 3 * 3 by decide) (Nat.mul_le_mul h3 h3)) (Nat.le_refl u1.natAbs)
        omega
      rw [Int.mul_comm _ u1, Int.mul_comm _ v1]
      rw [symV_congr (cls_sqI hu1 hP0 hq) (cls_sqI hv1 hP0 hq)]
      exact stein_odd hq hP h3 N u1 v1 z1 hlt hu1 hv1 he1
    · by_cases hpu : (P : Int) ∣ u
      · by_cases hpv : (P : Int) ∣ v
        · have hz : (P : Int) ∣ z := by
            have h1 : (P : Int) ∣ z * z := by rw [← he]; exact Int.dvd_add hpu hpv
            rcases primeI_dvd_mul hP h1 with h | h <;> exact h
          obtain ⟨z1, rfl⟩ := hz
          obtain ⟨u1, rfl⟩ := hpu
          obtain ⟨v1, rfl⟩ := hpv
          have hu1 : u1 ≠ 0 := by rintro rfl; exact hu (Int.mul_zero _)
          have hv1 : v1 ≠ 0 := by rintro rfl; exact hv (Int.mul_zero _)
          have he1 : u1 + v1 = (P : Int) * (z1 * z1) := by
            refine Int.eq_of_mul_eq_mul_left hP0 ?_
            rw [Int.mul_add, he, Int.mul_assoc, Int.mul_left_comm z1]
          have hnv : ¬ (P : Int) ∣ v1 := fun h => hd ⟨Int.mul_dvd_mul_left _ (by
            have h1 : (P : Int) ∣ u1 + v1 := by rw [he1]; exact Int.dvd_mul_right _ _
            have := Int.dvd_sub h1 h
            rwa [Int.add_sub_cancel] at this), Int.mul_dvd_mul_left _ h⟩
          have hc : cls v1 (P : Int) = cls (-u1) (P : Int) := cls_cong hP h3 hnv (by
            rw [Int.sub_neg, Int.add_comm, he1]; exact Int.dvd_mul_right _ _)
          have hc2 : cls ((P : Int) * v1) (P : Int) = cls (-((P : Int) * u1)) (P : Int) := by
            rw [← Int.mul_neg, cls_mul hP0 hv1 hq, cls_mul hP0 (by omega) hq, hc]
          rw [symV_congr (c := (P : Int) * u1) (d := -((P : Int) * u1)) rfl hc2]
          exact symV_minus hu hq
        · have hc : cls v (P : Int) = cls (z * z) (P : Int) := cls_cong hP h3 hpv (by
            rw [← he, show v - (u + v) = -u by omega]; exact Int.dvd_neg.2 hpu)
          have hz : z ≠ 0 := by
            rintro rfl
            exact hpv (by rw [show v = -u by omega]; exact Int.dvd_neg.2 hpu)
          exact symV_sq hu hq (by unfold sqAt; rw [hc, cls_tt hz hq]; rfl)
      · by_cases hpv : (P : Int) ∣ v
        · have hc : cls u (P : Int) = cls (z * z) (P : Int) := cls_cong hP h3 hpu (by
            rw [← he, show u - (u + v) = -v by omega]; exact Int.dvd_neg.2 hpv)
          have hz : z ≠ 0 := by
            rintro rfl
            exact hpu (by rw [show u = -v by omega]; exact Int.dvd_neg.2 hpv)
          rw [symV_comm hu hv hq]
          exact symV_sq hv hq (by unfold sqAt; rw [hc, cls_tt hz hq]; rfl)
        · exact sym_units hP h3 hpu hpv

theorem plTwo : plI 2 = true := by decide
theorem cls2_odd {n : Int} (h : n % 2 = 1) : cls n 2 = (0, n % 8) := by
  have h0 : n ≠ 0 := by omega
  obtain ⟨a, b⟩ := unit_self prime2 (n := n) (by omega) h0
  rw [show ((2 : Nat) : Int) = 2 from rfl] at b
  rw [cls_two, a, b]
theorem cls2_two {n : Int} (h : n % 2 = 1) : cls (2 * n) 2 = (1, n % 8) := by
  rw [cls_mul (by decide) (by omega) plTwo, cls2_odd h, show cls 2 2 = (1, 1) by decide]
  unfold comb
  rw [if_pos rfl]
  simp
theorem cls2_four {n : Int} (h : n ≠ 0) : cls (4 * n) 2 = cls n 2 := by
  rw [show 4 * n = n * (2 * 2) by omega]
  exact cls_sqI h (by decide) plTwo
theorem sym2_fin1 : ∀ u ∈ ([1, 3, 5, 7] : List Int), ∀ v ∈ ([1, 3, 5, 7] : List Int), (u + v) % 4 = 0 → symC 2 (0, u) (0, v) = 1 := by decide +kernel
theorem sym2_fin2 : ∀ u ∈ ([1, 3, 5, 7] : List Int), ∀ v ∈ ([1, 3, 5, 7] : List Int), (u + 2 * v) % 8 = 1 → symC 2 (0, u) (1, v) = 1 := by decide +kernel
theorem sym2_fin3 : ∀ v ∈ ([1, 3, 5, 7] : List Int), symC 2 (0, 5) (0, v) = 1 := by decide +kernel
theorem sym2_fin4 : ∀ u ∈ ([1, 3, 5, 7] : List Int), ∀ v ∈ ([1, 3, 5, 7] : List Int), (u + v) % 8 = 0 ∨ (u + v) % 8 = 2 → symC 2 (1, u) (1, v) = 1 := by decide +kernel
theorem mod8_odd {n : Int} (h : n % 2 = 1) : n % 8 ∈ ([1, 3, 5, 7] : List Int) := by
  have : n % 8 = 1 ∨ n % 8 = 3 ∨ n % 8 = 5 ∨ n % 8 = 7 := by omega
  rcases this with h | h | h | h <;> rw [h] <;> decide
theorem sq_even {z : Int} (h : z % 2 = 0) : z * z % 4 = 0 := by
  obtain ⟨t, rfl⟩ : ∃ t, z = 2 * t := ⟨z / 2, by omega⟩
  rw [show 2 * t * (2 * t) = 4 * (t * t) by rw [Int.mul_assoc, Int.mul_left_comm t, ← Int.mul_assoc]; rfl]
  exact Int.mul_emod_right _ _
theorem sq_odd {z : Int} (h : z % 2 = 1) : z * z % 8 = 1 := by
  have h8 : z % 8 = 1 ∨ z % 8 = 3 ∨ z % 8 = 5 ∨ z % 8 = 7 := by omega
  rw [Int.mul_emod]
  rcases h8 with h | h | h | h <;> rw [h] <;> rfl
/-- an odd number and an even one -/
theorem stein2_oe {u v z : Int} (hu : u % 2 = 1) (hv : v % 2 = 0) (v0 : v ≠ 0) (he : u + v = z * z) : symV u v 2 = 1 := by
  have hz : z % 2 = 1 := by
    by_cases h : z % 2 = 0
    · have := sq_even h; omega
    · omega
  have hz8 := sq_odd hz
  rw [← he] at hz8
  obtain ⟨w, rfl⟩ : ∃ w, v = 2 * w := ⟨v / 2, by omega⟩
  by_cases hw : w % 2 = 1
  · unfold symV
    rw [cls2_odd hu, cls2_two hw]
    exact sym2_fin2 _ (mod8_odd hu) _ (mod8_odd hw) (by omega)
  · obtain ⟨t, rfl⟩ : ∃ t, w = 2 * t := ⟨w / 2, by omega⟩
    have ht0 : t ≠ 0 := by omega
    by_cases ht : t % 2 = 1
    · unfold symV
      rw [show 2 * (2 * t) = 4 * t by omega, cls2_four ht0, cls2_odd hu, cls2_odd ht, show u % 8 = 5 by omega]
      exact sym2_fin3 _ (mod8_odd ht)
    · have h1 : u % 8 = 1 := by omega
      rw [symV_comm (by omega) v0 plTwo]
      exact symV_sq v0 plTwo (by unfold sqAt; rw [cls2_odd hu, h1]; rfl)
theorem stein_two : ∀ (N : Nat) (u v z : Int), u.natAbs ≤ N → u ≠ 0 → v ≠ 0 → u + v = z * z → symV u v 2 = 1
  | 0, u, v, z, hN, hu, _, _ => absurd hN (by omega)
  | N + 1, u, v, z, hN, hu, hv, he => by
    by_cases hu2 : u % 2 = 1
    · by_cases hv2 : v % 2 = 1
      · have hz : z % 2 = 0 := by
          by_cases h : z % 2 = 1
          · have := sq_odd h; omega
          · omega
        have h4 := sq_even hz
        rw [← he] at h4
        unfold symV
        rw [cls2_odd hu2, cls2_odd hv2]
        exact sym2_fin1 _ (mod8_odd hu2) _ (mod8_odd hv2) (by omega)
      · exact stein2_oe hu2 (by omega) hv he
    · by_cases hv2 : v % 2 = 1
      · rw [symV_comm hu hv plTwo]
        exact stein2_oe (z := z) hv2 (by omega) hu (by omega)
      · have hz : z % 2 = 0 := by
          by_cases h : z % 2 = 1
          · have := sq_odd h; omega
          · omega
        obtain ⟨z1, rfl⟩ : ∃ t, z = 2 * t := ⟨z / 2, by omega⟩
        obtain ⟨u1, rfl⟩ : ∃ t, u = 2 * t := ⟨u / 2, by omega⟩
        obtain ⟨v1, rfl⟩ : ∃ t, v = 2 * t := ⟨v / 2, by omega⟩
        have he1 : u1 + v1 = 2 * (z1 * z1) := by
          have : 2 * z1 * (2 * z1) = 4 * (z1 * z1) := by rw [Int.mul_assoc, Int.mul_left_comm z1, ← Int.mul_assoc]; rfl
          omega
        by_cases hu3 : u1 % 2 = 1
        · have hv3 : v1 % 2 = 1 := by omega
          have hs : (u1 + v1) % 8 = 0 ∨ (u1 + v1) % 8 = 2 := by
            rw [he1]
            by_cases h : z1 % 2 = 0
            · have := sq_even h; omega
            · have := sq_odd (show z1 % 2 = 1 by omega); omega
          unfold symV
          rw [cls2_two hu3, cls2_two hv3]
          exact sym2_fin4 _ (mod8_odd hu3) _ (mod8_odd hv3) (by omega)
        · obtain ⟨u2, rfl⟩ : ∃ t, u1 = 2 * t := ⟨u1 / 2, by omega⟩
          obtain ⟨v2, rfl⟩ : ∃ t, v1 = 2 * t := ⟨v1 / 2, by omega⟩
          have hu4 : u2 ≠ 0 := by omega
          have hv4 : v2 ≠ 0 := by omega
          rw [show 2 * (2 * u2) = 4 * u2 by omega, show 2 * (2 * v2) = 4 * v2 by omega, symV_congr (cls2_four hu4) (cls2_four hv4)]
          exact stein_two N u2 v2 z1 (by omega) hu4 hv4 (by omega)

/-- where two numbers add up to a square, their symbol is 1 at each place -/
theorem stein_sq {u v z q : Int} (hu : u ≠ 0) (hv : v ≠ 0) (he : u + v = z * z) (hq : plI q = true) : symV u v q = 1 := by
  rcases plI_cases hq with rfl | rfl | ⟨P, rfl, hP, h3, h5⟩
  · have hz : 0 ≤ z * z := by
      rcases Int.le_total 0 z with h | h
      · exact Int.mul_nonneg h h
      · exact Int.mul_nonneg_of_nonpos_of_nonpos h h
    unfold symV symC
    rw [cls_zero, cls_zero, if_pos rfl]
    by_cases h : 0 < u
    · rw [if_pos h]; simp
    · rw [if_neg h, if_pos (by omega : 0 < v)]; simp
  · exact stein_two _ u v z (Nat.le_refl _) hu hv he
  · exact stein_odd hq hP h3 _ u v z (Nat.le_refl _) hu hv he
/-- what is solved has the symbol 1 -/
theorem solved_one {a b x y z q : Int} (ha : a ≠ 0) (hb : b ≠ 0) (hn : ¬ (x = 0 ∧ y = 0 ∧ z = 0)) (he : z * z = a * x * x + b * y * y) (hq : plI q = true) : symV a b q = 1 := by
  rw [Int.mul_assoc, Int.mul_assoc] at he
  by_cases hx : x = 0
  · subst hx
    rw [Int.mul_zero, Int.mul_zero, Int.zero_add] at he
    have hz : z ≠ 0 := by
      rintro rfl
      rw [Int.mul_zero] at he
      have hy : y ≠ 0 := fun h => hn ⟨rfl, h, rfl⟩
      exact Int.mul_ne_zero hb (Int.mul_ne_zero hy hy) he.symm
    have hy : y ≠ 0 := by
      rintro rfl
      rw [Int.mul_zero, Int.mul_zero] at he
      exact Int.mul_ne_zero hz hz he
    refine symV_sq ha hq ?_
    unfold sqAt
    rw [← cls_sqI hb hy hq, ← he, cls_tt hz hq]
    rfl
  · by_cases hy : y = 0
    · subst hy
      rw [Int.mul_zero, Int.mul_zero, Int.add_zero] at he
      have hz : z ≠ 0 := by
        rintro rfl
        rw [Int.mul_zero] at he
        exact Int.mul_ne_zero ha (Int.mul_ne_zero hx hx) he.symm
      rw [symV_comm ha hb hq]
      refine symV_sq hb hq ?_
      unfold sqAt
      rw [← cls_sqI ha hx hq, ← he, cls_tt hz hq]
      rfl
    · have h1 := stein_sq (Int.mul_ne_zero ha (Int.mul_ne_zero hx hx)) (Int.mul_ne_zero hb (Int.mul_ne_zero hy hy)) he.symm hq
      rwa [symV_congr (cls_sqI ha hx hq) (cls_sqI hb hy hq)] at h1

end Go.Proofs.Ytenibnblibnocaa

/-! FmTh -/
set_option linter.unusedVariables false
namespace Go.Proofs.Ytenibnblibnocaa
open Go.RowKit

def NZ (xs : List Int) : Prop := ∀ x ∈ xs, x ≠ 0
theorem NZ.tail {x : Int} {xs : List Int} (h : NZ (x :: xs)) : NZ xs := fun y hy => h y (List.mem_cons_of_mem _ hy)
theorem NZ.head {x : Int} {xs : List Int} (h : NZ (x :: xs)) : x ≠ 0 := h x (List.mem_cons_self ..)
theorem NZ.prod {xs : List Int} (h : NZ xs) : prodI xs ≠ 0 := prodI_ne h
theorem NZ.app {xs ys : List Int} (h : NZ xs) (k : NZ ys) : NZ (xs ++ ys) := fun x hx => by
  rcases List.mem_append.1 hx with h1 | h1
  · exact h x h1
  · exact k x h1
theorem NZ.left {xs ys : List Int} (h : NZ (xs ++ ys)) : NZ xs := fun x hx => h x (List.mem_append_left _ hx)
theorem NZ.right {xs ys : List Int} (h : NZ (xs ++ ys)) : NZ ys := fun x hx => h x (List.mem_append_right _ hx)
theorem fv_nz {xs : List Int} (h : fvB xs = true) : NZ xs := fun x hx => ((fvB_iff.1 h).1 x hx).1

theorem symV_one {a q : Int} (ha : a ≠ 0) (hq : plI q = true) : symV a 1 q = 1 := by
  refine symV_sq ha hq ?_
  unfold sqAt
  have := cls_tt (show (1 : Int) ≠ 0 by decide) hq
  rw [Int.mul_one] at this
  rw [this]; rfl
theorem symV_mul_left {a b c q : Int} (ha : a ≠ 0) (hb : b ≠ 0) (hc : c ≠ 0) (hq : plI q = true) : symV (a * b) c q = symV a c q * symV b c q := by
  rw [symV_comm (Int.mul_ne_zero ha hb) hc hq, symV_mul hc ha hb hq, symV_comm hc ha hq, symV_comm hc hb hq]

/-- the invariant, term by term -/
def hasC (q : Int) : List Int → Int
  | [] => 1
  | x :: xs => symV x (prodI xs) q * hasC q xs
theorem hasC_pm {q : Int} (hq : plI q = true) : ∀ {xs : List Int}, NZ xs → hasC q xs = 1 ∨ hasC q xs = -1
  | [], _ => .inl rfl
  | x :: xs, h => pm_mul (symV_val h.head h.tail.prod hq) (hasC_pm hq h.tail)
theorem hasC_app {q : Int} (hq : plI q = true) : ∀ {xs ys : List Int}, NZ xs → NZ ys → hasC q (xs ++ ys) = hasC q xs * hasC q ys * symV (prodI xs) (prodI ys) q
  | [], ys, _, hy => by
    show hasC q ys = 1 * hasC q ys * symV 1 (prodI ys) q
    rw [symV_comm (by decide) hy.prod hq, symV_one hy.prod hq, Int.one_mul, Int.mul_one]
  | x :: xs, ys, hx, hy => by
    show symV x (prodI (xs ++ ys)) q * hasC q (xs ++ ys) = symV x (prodI xs) q * hasC q xs * hasC q ys * symV (x * prodI xs) (prodI ys) q
    rw [prodI_app, symV_mul hx.head hx.tail.prod hy.prod hq, hasC_app hq hx.tail hy, symV_mul_left hx.head hx.tail.prod hy.prod hq]
    simp only [Int.mul_assoc, Int.mul_comm, Int.mul_left_comm]
theorem hasC_one (q : Int) (hq : plI q = true) {x : Int} (hx : x ≠ 0) : hasC q [x] = 1 := by
  show symV x 1 q * 1 = 1
  rw [symV_one hx hq]; rfl
theorem hasR_prod {xs : List Int} {q : Int} (hq : plI q = true) (h : NZ xs) {i : Nat} (hi : i < xs.length) : ∀ k, k ≤ xs.length → hasR xs q i k = symV (prodI (xs.take k)) (xs.getD i 0) q
  | 0, _ => by
    have hx : xs.getD i 0 ≠ 0 := by rw [getD_at _ _ hi]; exact h _ (List.getElem_mem _)
    show 1 = symV 1 (xs.getD i 0) q
    rw [symV_comm (by decide) hx hq, symV_one hx hq]
  | k + 1, hk => by
    have hx : xs.getD i 0 ≠ 0 := by rw [getD_at _ _ hi]; exact h _ (List.getElem_mem _)
    have hy : xs.getD k 0 ≠ 0 := by rw [getD_at _ _ (by omega)]; exact h _ (List.getElem_mem _)
    have hp : prodI (xs.take k) ≠ 0 := prodI_ne fun x hx => h x (List.mem_of_mem_take hx)
    show hasR xs q i k * symV (xs.getD k 0) (xs.getD i 0) q = _
    rw [hasR_prod hq h hi k (by omega), prodI_take (by omega), symV_mul_left hp hy hx hq]
theorem hasP_eq {xs : List Int} {q : Int} (hq : plI q = true) (h : NZ xs) : ∀ i, i ≤ xs.length → hasP xs q i = hasC q (xs.take i)
  | 0, _ => by rw [List.take_zero]; rfl
  | i + 1, hi => by
    have hx : xs.getD i 0 ≠ 0 := by rw [getD_at _ _ (by omega)]; exact h _ (List.getElem_mem _)
    have ht : NZ (xs.take i) := fun x hx => h x (List.mem_of_mem_take hx)
    show hasP xs q i * hasR xs q i i = _
    rw [hasP_eq hq h i (by omega), hasR_prod hq h (by omega) i (by omega), take_snoc _ _ (show i < xs.length by omega), hasC_app hq ht (fun y hy => by
      rw [List.mem_singleton] at hy; rw [hy]; exact h _ (List.getElem_mem _)), hasC_one q hq (h _ (List.getElem_mem _)), getD_at _ _ (show i < xs.length by omega)]
    show _ = hasC q (xs.take i) * 1 * symV (prodI (xs.take i)) (xs[i] * 1) q
    rw [Int.mul_one, Int.mul_one]
theorem hasF_eq {xs : List Int} {q : Int} (hq : plI q = true) (h : NZ xs) : hasF xs q = hasC q xs := by
  unfold hasF
  rw [hasP_eq hq h _ (Nat.le_refl _), List.take_length]

theorem prodI_perm {xs ys : List Int} (h : xs.Perm ys) : prodI xs = prodI ys := by
  induction h with
  | nil => rfl
  | cons x _ ih => show x * _ = x * _; rw [ih]
  | swap x y l => show y * (x * prodI l) = x * (y * prodI l); exact Int.mul_left_comm ..
  | trans _ _ ih1 ih2 => rw [ih1, ih2]
theorem NZ.perm {xs ys : List Int} (h : xs.Perm ys) (hx : NZ xs) : NZ ys := fun y hy => hx y (h.mem_iff.2 hy)
theorem hasC_perm {q : Int} (hq : plI q = true) {xs ys : List Int} (h : xs.Perm ys) : NZ xs → hasC q xs = hasC q ys := by
  induction h with
  | nil => intro _; rfl
  | cons x hp ih =>
    intro hx
    show symV x _ q * hasC q _ = symV x _ q * hasC q _
    rw [ih hx.tail, prodI_perm hp]
  | swap x y l =>
    intro hx
    have hy0 := hx.head
    have hx0 := hx.tail.head
    have hl := hx.tail.tail.prod
    show symV y (x * prodI l) q * (symV x (prodI l) q * hasC q l) = symV x (y * prodI l) q * (symV y (prodI l) q * hasC q l)
    rw [symV_mul hy0 hx0 hl hq, symV_mul hx0 hy0 hl hq, symV_comm hy0 hx0 hq]
    simp only [Int.mul_assoc, Int.mul_comm, Int.mul_left_comm]
  | trans h1 _ ih1 ih2 => intro hx; rw [ih1 hx, ih2 (NZ.perm h1 hx)]
theorem less_perm {xs ys : List Int} (h : xs.Perm ys) : lessN xs = lessN ys := (h.filter _).length_eq
theorem less_app (xs ys : List Int) : lessN (xs ++ ys) = lessN xs + lessN ys := by unfold lessN; rw [List.filter_append, List.length_append]

/-- terms of the same classes -/
theorem prod_cls {q : Int} (hq : plI q = true) {f : Int → Int} (hf : ∀ x, x ≠ 0 → f x ≠ 0 ∧ cls (f x) q = cls x q) : ∀ {xs : List Int}, NZ xs → NZ (xs.map f) ∧ cls (prodI (xs.map f)) q = cls (prodI xs) q
  | [], _ => ⟨fun x hx => by simp at hx, rfl⟩
  | x :: xs, h => by
    obtain ⟨h1, h2⟩ := prod_cls hq hf h.tail
    obtain ⟨f1, f2⟩ := hf x h.head
    refine ⟨fun y hy => ?_, ?_⟩
    · rw [List.map_cons, List.mem_cons] at hy
      rcases hy with rfl | hy
      · exact f1
      · exact h1 y hy
    · show cls (f x * prodI (xs.map f)) q = cls (x * prodI xs) q
      rw [cls_mul f1 h1.prod hq, cls_mul h.head h.tail.prod hq, f2, h2]
theorem hasC_cls {q : Int} (hq : plI q = true) {f : Int → Int} (hf : ∀ x, x ≠ 0 → f x ≠ 0 ∧ cls (f x) q = cls x q) : ∀ {xs : List Int}, NZ xs → hasC q (xs.map f) = hasC q xs
  | [], _ => rfl
  | x :: xs, h => by
    show symV (f x) (prodI (xs.map f)) q * hasC q (xs.map f) = symV x (prodI xs) q * hasC q xs
    rw [hasC_cls hq hf h.tail, symV_congr (hf x h.head).2 (prod_cls hq hf h.tail).2]
theorem core_cls {n q : Int} (hn : n ≠ 0) (hq : plI q = true) : coreG n ≠ 0 ∧ cls (coreG n) q = cls n q := by
  have h := core_is hn
  have hc := h.ne hn
  refine ⟨hc, ?_⟩
  conv => rhs; rw [← h.eq]
  exact (cls_sqI hc (by have := h.pos; omega) hq).symm
theorem core_sign {n : Int} (hn : n ≠ 0) : (coreG n < 0 ↔ n < 0) := by
  have h := core_is hn
  have hr : (0 : Int) < (rootG n : Int) * rootG n := Int.mul_pos (by have := h.pos; omega) (by have := h.pos; omega)
  constructor
  · intro hc
    rw [← h.eq]
    exact Int.mul_neg_of_neg_of_pos hc hr
  · intro hc
    rcases Int.lt_or_le (coreG n) 0 with h1 | h1
    · exact h1
    · exfalso
      have h2 := Int.mul_nonneg h1 (Int.le_of_lt hr)
      rw [h.eq] at h2
      omega

/-- scaled by n: the invariant -/
theorem hasC_scale {q n : Int} (hq : plI q = true) (hn : n ≠ 0) : ∀ {xs : List Int}, NZ xs → NZ (xs.map (n * ·)) ∧
    (xs.length % 2 = 0 → cls (prodI (xs.map (n * ·))) q = cls (prodI xs) q) ∧ (xs.length % 2 = 1 → cls (prodI (xs.map (n * ·))) q = cls (n * prodI xs) q)
  | [], _ => ⟨fun x hx => by simp at hx, fun _ => rfl, fun h => by simp at h⟩
  | x :: xs, h => by
    obtain ⟨h1, h2, h3⟩ := hasC_scale hq hn h.tail
    have hx := h.head
    have hp := h.tail.prod
    refine ⟨fun y hy => ?_, fun hl => ?_, fun hl => ?_⟩
    · rw [List.map_cons, List.mem_cons] at hy
      rcases hy with rfl | hy
      · exact Int.mul_ne_zero hn hx
      · exact h1 y hy
    · show cls (n * x * prodI (xs.map (n * ·))) q = cls (x * prodI xs) q
      rw [List.length_cons] at hl
      rw [cls_mul (Int.mul_ne_zero hn hx) h1.prod hq, h3 (by omega), ← cls_mul (Int.mul_ne_zero hn hx) (Int.mul_ne_zero hn hp) hq,
        show n * x * (n * prodI xs) = x * prodI xs * (n * n) by simp only [Int.mul_assoc, Int.mul_comm, Int.mul_left_comm]]
      exact cls_sqI (Int.mul_ne_zero hx hp) hn hq
    · show cls (n * x * prodI (xs.map (n * ·))) q = cls (n * (x * prodI xs)) q
      rw [List.length_cons] at hl
      rw [cls_mul (Int.mul_ne_zero hn hx) h1.prod hq, h2 (by omega), ← cls_mul (Int.mul_ne_zero hn hx) hp hq, Int.mul_assoc]

/-- equal forms: the same at all places -/
theorem sq_cls {a b q : Int} (ha : a ≠ 0) (hb : b ≠ 0) (hq : plI q = true) : sqAt (a * b) q = true ↔ cls a q = cls b q := by
  rw [sq_mul ha hb hq, decide_eq_true_eq]

end Go.Proofs.Ytenibnblibnocaa

/-! FmSame -/
set_option linter.unusedVariables false
namespace Go.Proofs.Ytenibnblibnocaa
open Go.RowKit

theorem core_sq {a t : Int} (ha : a ≠ 0) (ht : t ≠ 0) : coreG (a * (t * t)) = coreG a := by
  have h := core_is ha
  refine (core_eq (r := rootG a * t.natAbs) (Int.mul_ne_zero ha (Int.mul_ne_zero ht ht)) ⟨?_, Nat.mul_pos h.pos (by omega), h.free⟩).1
  have e : ((t.natAbs : Int)) * (t.natAbs : Int) = t * t := by
    rw [← Int.natCast_mul, Int.natAbs_mul_self]
  conv => rhs; rw [← h.eq]
  push_cast
  rw [show (rootG a : Int) * (t.natAbs : Int) * ((rootG a : Int) * (t.natAbs : Int)) = (rootG a : Int) * (rootG a : Int) * ((t.natAbs : Int) * (t.natAbs : Int)) by simp only [Int.mul_assoc, Int.mul_comm, Int.mul_left_comm], e, ← Int.mul_assoc]
theorem core_of_sq {a b s : Int} (ha : a ≠ 0) (hb : b ≠ 0) (hs : s ≠ 0) (h : a * b = s * s) : coreG a = coreG b := by
  rw [← core_sq ha hb, ← core_sq hb hs, ← h]
  congr 1
  simp only [Int.mul_left_comm]
theorem core_t {a b t : Int} (ha : a ≠ 0) (hb : b ≠ 0) (ht : t ≠ 0) : coreG (a * t) = coreG (b * t) ↔ coreG a = coreG b := by
  constructor
  · intro h
    obtain ⟨s, hs, e⟩ := core_same (Int.mul_ne_zero ha ht) (Int.mul_ne_zero hb ht) h
    rw [← core_sq ha ht]
    refine core_of_sq (Int.mul_ne_zero ha (Int.mul_ne_zero ht ht)) hb hs ?_
    rw [← e]
    simp only [Int.mul_comm, Int.mul_left_comm]
  · intro h
    obtain ⟨s, hs, e⟩ := core_same ha hb h
    refine core_of_sq (Int.mul_ne_zero ha ht) (Int.mul_ne_zero hb ht) (Int.mul_ne_zero hs ht) ?_
    rw [show a * t * (b * t) = a * b * (t * t) by simp only [Int.mul_comm, Int.mul_left_comm], e]
    simp only [Int.mul_comm, Int.mul_left_comm]
theorem sq_of_core {a b q : Int} (ha : a ≠ 0) (hb : b ≠ 0) (hq : plI q = true) (h : coreG a = coreG b) : sqAt (a * b) q = true := by
  obtain ⟨s, hs, e⟩ := core_same ha hb h
  unfold sqAt
  rw [e, cls_tt hs hq]
  rfl

theorem ndvd_prod {P : Nat} (hP : primeN P = true) : ∀ {xs : List Int}, (∀ x ∈ xs, ¬ (P : Int) ∣ x) → ¬ (P : Int) ∣ prodI xs
  | [], _ => fun h => by
    have h2 := (primeN_bd hP).1
    have := Int.le_of_dvd (by decide) h
    rw [show prodI [] = 1 from rfl] at this
    omega
  | x :: xs, h => fun hd => by
    rcases primeI_dvd_mul hP (show (P : Int) ∣ x * prodI xs from hd) with h1 | h1
    · exact h x (List.mem_cons_self ..) h1
    · exact ndvd_prod hP (fun y hy => h y (List.mem_cons_of_mem _ hy)) h1
theorem hasC_units {P : Nat} (hP : primeN P = true) (h3 : 3 ≤ P) : ∀ {xs : List Int}, (∀ x ∈ xs, ¬ (P : Int) ∣ x) → hasC (P : Int) xs = 1
  | [], _ => rfl
  | x :: xs, h => by
    show symV x (prodI xs) (P : Int) * hasC (P : Int) xs = 1
    rw [sym_units hP h3 (h x (List.mem_cons_self ..)) (ndvd_prod hP fun y hy => h y (List.mem_cons_of_mem _ hy)), hasC_units hP h3 fun y hy => h y (List.mem_cons_of_mem _ hy)]
    rfl
theorem dvd_term {P : Int} : ∀ {xs : List Int} {x : Int}, x ∈ xs → P ∣ x → P ∣ prodI xs
  | y :: xs, x, hx, hd => by
    rcases List.mem_cons.1 hx with rfl | hx
    · exact Int.dvd_mul_of_dvd_left hd
    · exact Int.dvd_mul_of_dvd_right (dvd_term hx hd)
theorem alike_def {a b : List Int} {q : Int} (hq : plI q = true) (ha : NZ a) (hb : NZ b) (h0 : q ≠ 0) : alikeB a b q = (sqAt (prodI a * prodI b) q && (hasC q a == hasC q b)) := by
  unfold alikeB
  rw [if_neg h0, hasF_eq hq ha, hasF_eq hq hb]
/-- away from the places of both products, forms of one discriminant are alike -/
theorem alike_away {a b : List Int} {q : Int} (hq : plI q = true) (ha : NZ a) (hb : NZ b) (hc : coreG (prodI a) = coreG (prodI b)) (hn : q ∉ placesG (prodI a * prodI b)) : alikeB a b q = true := by
  have hab := Int.mul_ne_zero ha.prod hb.prod
  rcases plI_cases hq with rfl | rfl | ⟨P, rfl, hP, h3, h5⟩
  · exact absurd (by unfold placesG; simp) hn
  · exact absurd (by unfold placesG; simp) hn
  · have hnd : ¬ (P : Int) ∣ prodI a * prodI b := fun hd => hn (by
      obtain ⟨_, _, s3⟩ := plistG_spec (show 0 < (prodI a * prodI b).natAbs by omega)
      unfold placesG
      simp only [List.cons_append, List.nil_append, List.mem_cons]
      right; right
      refine List.mem_filter.2 ⟨?_, decide_eq_true (by omega)⟩
      unfold natsI
      exact List.mem_map.2 ⟨P, s3 P (primeN_prG hP) (Int.ofNat_dvd_left.1 hd), rfl⟩)
    rw [alike_def hq ha hb (by omega), sq_of_core ha.prod hb.prod hq hc, Bool.true_and,
      hasC_units hP h3 (fun x hx hd => hnd (Int.dvd_mul_of_dvd_left (dvd_term hx hd))), hasC_units hP h3 (fun x hx hd => hnd (Int.dvd_mul_of_dvd_right (dvd_term hx hd)))]
    rfl
/-- EQUAL FORMS: as many terms, one discriminant, alike at all places -/
theorem same_iff {a b : List Int} (hf : fvB a = true) (hg : fvB b = true) : fsameV a b = true ↔ a.length = b.length ∧ coreG (prodI a) = coreG (prodI b) ∧ ∀ q, plI q = true → alikeB a b q = true := by
  unfold fsameV bothB
  rw [hf, hg, Bool.true_and, Bool.true_and, Bool.and_eq_true, Bool.and_eq_true, beq_iff_eq, decide_eq_true_eq, List.all_eq_true]
  constructor
  · rintro ⟨h1, h2, h3⟩
    refine ⟨h1, h2, fun q hq => ?_⟩
    by_cases hm : q ∈ placesG (prodI a * prodI b)
    · exact h3 q hm
    · exact alike_away hq (fv_nz hf) (fv_nz hg) h2 hm
  · rintro ⟨h1, h2, h3⟩
    exact ⟨h1, h2, fun q hm => h3 q ((prod_join hf hg).2.2.2 q hm)⟩
theorem same_valid {a b : List Int} (h : fsameV a b = true) : fvB a = true ∧ fvB b = true := by
  unfold fsameV bothB at h
  rw [Bool.and_eq_true, Bool.and_eq_true, Bool.and_eq_true] at h
  exact ⟨h.1.1, h.1.2.1⟩
theorem alike_symm {a b : List Int} {q : Int} : alikeB a b q = alikeB b a q := by
  unfold alikeB
  by_cases h : q = 0
  · rw [if_pos h, if_pos h, Bool.eq_iff_iff, beq_iff_eq, beq_iff_eq, eq_comm]
  · rw [if_neg h, if_neg h, Int.mul_comm]
    congr 1
    rw [Bool.eq_iff_iff, beq_iff_eq, beq_iff_eq, eq_comm]
theorem same_symm {a b : List Int} (h : fsameV a b = true) : fsameV b a = true := by
  obtain ⟨hf, hg⟩ := same_valid h
  obtain ⟨h1, h2, h3⟩ := (same_iff hf hg).1 h
  exact (same_iff hg hf).2 ⟨h1.symm, h2.symm, fun q hq => by rw [alike_symm]; exact h3 q hq⟩
theorem same_perm {a b : List Int} (hf : fvB a = true) (hp : a.Perm b) : fsameV a b = true := by
  have hg : fvB b = true := by
    obtain ⟨h1, h2, h3⟩ := fvB_iff.1 hf
    exact fvB_iff.2 ⟨fun x hx => h1 x (hp.mem_iff.2 hx), by rw [← hp.length_eq]; exact h2, by rw [← hp.length_eq]; exact h3⟩
  have hz := fv_nz hf
  refine (same_iff hf hg).2 ⟨hp.length_eq, by rw [prodI_perm hp], fun q hq => ?_⟩
  by_cases h0 : q = 0
  · unfold alikeB; rw [if_pos h0, beq_iff_eq]; exact less_perm hp
  · rw [alike_def hq hz (fv_nz hg) h0, hasC_perm hq hp hz, ← prodI_perm hp]
    rw [show sqAt (prodI a * prodI a) q = true by unfold sqAt; rw [cls_tt hz.prod hq]; rfl]
    simp
/-- one term more on both sides changes nothing -/
theorem alike_join {a b : List Int} {q t : Int} (hq : plI q = true) (ha : NZ a) (hb : NZ b) (ht : t ≠ 0) (hc : coreG (prodI a) = coreG (prodI b)) : alikeB (a ++ [t]) (b ++ [t]) q = alikeB a b q := by
  have hz : ∀ {l : List Int}, NZ l → NZ (l ++ [t]) := fun h => h.app fun x hx => by rw [List.mem_singleton] at hx; rw [hx]; exact ht
  have hpt : ∀ l : List Int, prodI (l ++ [t]) = prodI l * t := fun l => by rw [prodI_app]; show prodI l * (t * 1) = _; rw [Int.mul_one]
  by_cases h0 : q = 0
  · unfold alikeB
    rw [if_pos h0, if_pos h0, less_app, less_app, Bool.eq_iff_iff, beq_iff_eq, beq_iff_eq]
    omega
  · have hcl : cls (prodI a) q = cls (prodI b) q := (sq_cls ha.prod hb.prod hq).1 (sq_of_core ha.prod hb.prod hq hc)
    have ht1 : NZ [t] := fun x hx => by rw [List.mem_singleton] at hx; rw [hx]; exact ht
    have hsa : symV (prodI a) t q = symV (prodI b) t q := symV_congr hcl rfl
    rw [alike_def hq (hz ha) (hz hb) h0, alike_def hq ha hb h0, hpt, hpt,
      sq_of_core (Int.mul_ne_zero ha.prod ht) (Int.mul_ne_zero hb.prod ht) hq ((core_t ha.prod hb.prod ht).2 hc), sq_of_core ha.prod hb.prod hq hc,
      hasC_app hq ha ht1, hasC_app hq hb ht1, hasC_one q hq ht, Int.mul_one, Int.mul_one, show prodI [t] = t from Int.mul_one t, hsa]
    congr 1
    rcases hasC_pm hq ha with e1 | e1 <;> rcases hasC_pm hq hb with e2 | e2 <;> rcases symV_val hb.prod ht hq with e3 | e3 <;> rw [e1, e2, e3] <;> rfl
theorem cancel {a b : List Int} {t : Int} (hf : fvB a = true) (hg : fvB b = true) (hj : fvB (a ++ [t]) = true) (hk : fvB (b ++ [t]) = true) : fsameV (a ++ [t]) (b ++ [t]) = fsameV a b := by
  have ha := fv_nz hf
  have hb := fv_nz hg
  have ht : t ≠ 0 := fv_nz hj t (List.mem_append_right _ (List.mem_singleton.2 rfl))
  have hpt : ∀ l : List Int, prodI (l ++ [t]) = prodI l * t := fun l => by rw [prodI_app]; show prodI l * (t * 1) = _; rw [Int.mul_one]
  rw [Bool.eq_iff_iff, same_iff hj hk, same_iff hf hg, hpt, hpt, core_t ha.prod hb.prod ht]
  constructor
  · rintro ⟨h1, h2, h3⟩
    refine ⟨by simpa using h1, h2, fun q hq => ?_⟩
    rw [← alike_join hq ha hb ht h2]
    exact h3 q hq
  · rintro ⟨h1, h2, h3⟩
    refine ⟨by simp [h1], h2, fun q hq => ?_⟩
    rw [alike_join hq ha hb ht h2]
    exact h3 q hq
theorem same_less {a b : List Int} (h : fsameV a b = true) : lessN a = lessN b ∧ a.length = b.length := by
  obtain ⟨hf, hg⟩ := same_valid h
  obtain ⟨h1, _, h3⟩ := (same_iff hf hg).1 h
  have := h3 0 rfl
  unfold alikeB at this
  rw [if_pos rfl, beq_iff_eq] at this
  exact ⟨this, h1⟩

/-- two terms are worth what they represent -/
theorem replace_sym {a b v x y q : Int} (ha : a ≠ 0) (hb : b ≠ 0) (hv : v ≠ 0) (he : v = a * x * x + b * y * y) (hq : plI q = true) : symV v (a * b * v) q = symV a b q := by
  have hab := Int.mul_ne_zero ha hb
  have h1 : symV (a * v) (-(a * b)) q = 1 := by
    refine solved_one (x := 1) (y := y) (z := a * x) (Int.mul_ne_zero ha hv) (by omega) (fun h => by omega) ?_ hq
    rw [Int.mul_one, Int.mul_one, he, Int.mul_add]
    have e : a * (b * y * y) = a * b * y * y := by simp only [Int.mul_assoc]
    rw [e, Int.neg_mul, Int.neg_mul]
    have e2 : a * x * (a * x) = a * (a * x * x) := by simp only [Int.mul_comm, Int.mul_left_comm]
    omega
  have hm : symV v (-v) q = 1 := symV_minus hv hq
  have hn : symV a (-a) q = 1 := symV_minus ha hq
  have e1 : symV v (a * b * v) q = symV v (-(a * b)) q := by
    rw [show a * b * v = (-(a * b)) * (-v) by rw [Int.neg_mul_neg], symV_mul hv (by omega) (by omega) hq, hm, Int.mul_one]
  have e2 : symV a b q = symV a (-(a * b)) q := by
    rw [show -(a * b) = (-a) * b by rw [Int.neg_mul], symV_mul ha (by omega) hb hq, hn, Int.one_mul]
  rw [symV_mul_left ha hv (by omega) hq] at h1
  rw [e1, e2]
  rcases symV_val ha (b := -(a * b)) (by omega) hq with f | f <;> rcases symV_val hv (b := -(a * b)) (by omega) hq with g | g <;> rw [f, g] at h1 ⊢
  · cases h1
  · cases h1

end Go.Proofs.Ytenibnblibnocaa
