/-
  Plain arithmetic of chapter 5: three terms of size at most 30 that vanish everywhere have a small zero when they are made normal.
-/
import Derived.Test.YtfjbdbfeolfcfaaQZLegK
import Derived.Test.YtfjbdbfeolfcfaaQZLegK2
import Derived.Test.YtfjbdbfeolfcfaaQZLegK3
import Derived.Test.YtfjbdbfeolfcfaaQZLegK4
set_option linter.unusedVariables false
namespace Go.Proofs.Ytfjbdbfeolfcfaa
open Go.RowKit

def T3.neg (t : T3) : T3 := ⟨-t.a, -t.b, -t.c⟩
theorem twoD_neg (a b c : Int) : twoD (-a) (-b) (-c) = twoD a b c ∧ twoK (-a) (-b) (-c) = twoK a b c := by
  unfold twoD twoK
  simp only [Int.gcd_neg, Int.neg_gcd, and_self]
theorem third_neg (c : Int) (p : Nat) : thirdI (-c) p = -thirdI c p := by
  unfold thirdI
  by_cases h : c % (p : Int) = 0
  · rw [if_pos h, if_pos (Int.emod_eq_zero_of_dvd (Int.dvd_neg.2 (Int.dvd_of_emod_eq_zero h))), Int.neg_tdiv]
  · rw [if_neg h, if_neg (fun e => h (Int.emod_eq_zero_of_dvd (Int.dvd_neg.1 (Int.dvd_of_emod_eq_zero e)))), Int.neg_mul]
theorem step_neg (t : T3) : stepI t.neg = (stepI t).neg := by
  obtain ⟨a, b, c⟩ := t
  unfold stepI T3.neg
  dsimp only
  rw [(twoD_neg a b c).1, (twoD_neg a b c).2]
  by_cases h2 : twoK a b c = 2
  · simp only [if_pos h2, third_neg, Int.neg_tdiv]
  · by_cases h1 : twoK a b c = 1
    · simp only [if_neg h2, if_pos h1, third_neg, Int.neg_tdiv]
    · simp only [if_neg h2, if_neg h1, third_neg, Int.neg_tdiv]
theorem norm_neg : ∀ (f : Nat) (t : T3), normT f t.neg = (normT f t).neg
  | 0, _ => rfl
  | f + 1, t => by
    unfold normT
    rw [show twoD t.neg.a t.neg.b t.neg.c = twoD t.a t.b t.c from (twoD_neg t.a t.b t.c).1]
    by_cases h : twoD t.a t.b t.c = 1
    · rw [if_pos h, if_pos h]
    · rw [if_neg h, if_neg h, step_neg, norm_neg f]

/-- a small zero -/
def Wit (t : T3) : Prop := ∃ x y z : Nat, t.a * x * x + t.b * y * y + t.c * z * z = 0 ∧ (x : Int) * x ≤ ((t.b * t.c).natAbs : Int) ∧ (y : Int) * y ≤ ((t.a * t.c).natAbs : Int) ∧ ¬ (x = 0 ∧ y = 0)
theorem wit_neg {t : T3} (h : Wit t.neg) : Wit t := by
  obtain ⟨x, y, z, h1, h2, h3, h4⟩ := h
  unfold T3.neg at h1 h2 h3
  dsimp only at h1 h2 h3
  refine ⟨x, y, z, ?_, by rwa [Int.neg_mul_neg] at h2, by rwa [Int.neg_mul_neg] at h3, h4⟩
  simp only [Int.neg_mul] at h1
  omega
theorem hitZ_wit {t : T3} {x y : Int} (h : hitZ t x y = true) : Wit t := by
  unfold hitZ at h
  simp only [Bool.and_eq_true, beq_iff_eq, decide_eq_true_eq, Bool.not_eq_true', Bool.and_eq_false_iff, beq_eq_false_iff_ne] at h
  obtain ⟨_, _, h1, h2, h3, h4⟩ := h
  have e : ∀ k v : Int, k * (v.natAbs : Int) * (v.natAbs : Int) = k * v * v := fun k v => by
    rw [Int.mul_assoc, Int.mul_assoc, ← Int.natCast_mul, Int.natAbs_mul_self]
  refine ⟨x.natAbs, y.natAbs, sqrtK ((-(t.a * x * x) - t.b * y * y).tdiv t.c).toNat, ?_, ?_, ?_, ?_⟩
  · rw [e, e]; exact h1
  · rw [← Int.natCast_mul, Int.natAbs_mul_self]; exact h2
  · rw [← Int.natCast_mul, Int.natAbs_mul_self]; exact h3
  · rintro ⟨a, b⟩
    rcases h4 with h | h <;> omega
theorem hitYs_wit {t : T3} {x : Int} : ∀ {k : Nat} {y : Int}, hitYs t x k y = true → Wit t
  | 0, _, h => by cases h
  | k + 1, y, h => by
    unfold hitYs at h
    rcases Bool.or_eq_true _ _ ▸ h with h | h
    · exact hitZ_wit h
    · exact hitYs_wit h
theorem hitXs_wit {t : T3} {ny : Nat} : ∀ {k : Nat} {x : Int}, hitXs t ny k x = true → Wit t
  | 0, _, h => by cases h
  | k + 1, x, h => by
    unfold hitXs at h
    rcases Bool.or_eq_true _ _ ▸ h with h | h
    · exact hitYs_wit h
    · exact hitXs_wit h

theorem van_real3 {t : T3} (h : (0 < t.a ∧ 0 < t.b ∧ 0 < t.c) ∨ (t.a < 0 ∧ t.b < 0 ∧ t.c < 0)) : vanT t 0 = false := by
  unfold vanT vanB
  rw [if_pos rfl]
  unfold lessN
  rcases h with ⟨h1, h2, h3⟩ | ⟨h1, h2, h3⟩
  · simp [show ¬ t.a < 0 by omega, show ¬ t.b < 0 by omega, show ¬ t.c < 0 by omega]
  · simp [h1, h2, h3]
theorem odd_pl : oddL.all (fun p => primeN p && decide (3 ≤ p)) = true := by decide +kernel
theorem lgT_ok {t : T3} (h : t.nz) (hk : lgT t = true) : (∃ q, plI q = true ∧ vanT t q = false) ∨ Wit t := by
  unfold lgT at hk
  simp only [Bool.or_eq_true, Bool.and_eq_true, decide_eq_true_eq] at hk
  rcases hk with ⟨h1, h2, h3⟩ | ⟨h1, h2, h3⟩ | hk | hk
  · exact .inl ⟨0, rfl, van_real3 (.inl ⟨h1, h2, h3⟩)⟩
  · exact .inl ⟨0, rfl, van_real3 (.inr ⟨h1, h2, h3⟩)⟩
  · obtain ⟨p, hp, hb⟩ := List.any_eq_true.1 hk
    have := List.all_eq_true.1 odd_pl p hp
    rw [Bool.and_eq_true, decide_eq_true_eq] at this
    exact .inl ⟨(p : Int), by unfold plI primeI; rw [Int.toNat_natCast, this.1, Bool.or_true], badP_van this.1 this.2 h hb⟩
  · exact .inr (hitXs_wit hk)

theorem free_tab : (List.range 31).all (fun k => decide (k = 0) || (decide (k % 4 = 0) || (decide (k % 9 = 0) || (decide (k % 25 = 0) || freeL.contains (k : Int))))) = true := by decide +kernel
theorem free_in {n : Nat} (h0 : n ≠ 0) (hb : n ≤ 30) (hf : SqFree n) : (n : Int) ∈ freeL := by
  have := List.all_eq_true.1 free_tab n (List.mem_range.2 (by omega))
  simp only [Bool.or_eq_true, decide_eq_true_eq] at this
  rcases this with h | h | h | h | h
  · exact absurd h h0
  · exact absurd (Nat.dvd_of_mod_eq_zero h) (hf 2 (by decide))
  · exact absurd (Nat.dvd_of_mod_eq_zero h) (hf 3 (by decide))
  · exact absurd (Nat.dvd_of_mod_eq_zero h) (hf 5 (by decide))
  · exact List.contains_iff_mem.1 h
theorem free2_in {n : Int} (h0 : n ≠ 0) (h1 : -30 ≤ n) (h2 : n ≤ 30) (hf : SqFree n.natAbs) : n ∈ free2 := by
  have h := free_in (n := n.natAbs) (by omega) (by omega) hf
  unfold free2
  rw [List.mem_append]
  rcases Int.le_total 0 n with hn | hn
  · left; rwa [Int.natAbs_of_nonneg hn] at h
  · right; exact List.mem_map.2 ⟨_, h, by rw [Int.ofNat_natAbs_of_nonpos hn, Int.neg_neg]⟩
theorem lgA_at {l : List Int} (h : lgA l = true) {a b c : Int} (ha : a ∈ l) (hb : b ∈ free2) (hc : c ∈ free2) : lgN ⟨a, b, c⟩ = true :=
  List.all_eq_true.1 (List.all_eq_true.1 (List.all_eq_true.1 h a ha) b hb) c hc
theorem lgN_pos {a b c : Int} (ha : a ∈ freeL) (hb : b ∈ free2) (hc : c ∈ free2) : lgN ⟨a, b, c⟩ = true := by
  have hm : a ∈ [1, 2, 3, 5, 6] ++ ([7, 10, 11, 13, 14] ++ ([15, 17, 19, 21, 22] ++ [23, 26, 29, 30])) := ha
  rcases List.mem_append.1 hm with h | h
  · exact lgA_at lgA_1 h hb hc
  · rcases List.mem_append.1 h with h | h
    · exact lgA_at lgA_2 h hb hc
    · rcases List.mem_append.1 h with h | h
      · exact lgA_at lgA_3 h hb hc
      · exact lgA_at lgA_4 h hb hc
def T3.small (t : T3) : Prop := ∀ x ∈ [t.a, t.b, t.c], x ≠ 0 ∧ -30 ≤ x ∧ x ≤ 30 ∧ SqFree x.natAbs
theorem T3.small.nz {t : T3} (h : t.small) : t.nz := ⟨(h _ (by simp)).1, (h _ (by simp)).1, (h _ (by simp)).1⟩
theorem leg_pos {t : T3} (h : t.small) (ha : 0 < t.a) : twoD (normT 20 t).a (normT 20 t).b (normT 20 t).c = 1 ∧ ((∃ q, plI q = true ∧ vanT t q = false) ∨ Wit (normT 20 t)) := by
  obtain ⟨a, b, c⟩ := t
  have h1 := h a (by simp)
  have h2 := h b (by simp)
  have h3 := h c (by simp)
  dsimp only at ha
  have hf := free_in (n := a.natAbs) (by omega) (by omega) h1.2.2.2
  rw [Int.natAbs_of_nonneg (by omega)] at hf
  have hk := lgN_pos hf (free2_in h2.1 h2.2.1 h2.2.2.1 h2.2.2.2) (free2_in h3.1 h3.2.1 h3.2.2.1 h3.2.2.2)
  unfold lgN at hk
  rw [Bool.and_eq_true, beq_iff_eq] at hk
  obtain ⟨n1, n2⟩ := norm_ok 20 h.nz
  refine ⟨hk.1, ?_⟩
  rcases lgT_ok n1 hk.2 with ⟨q, hq, hv⟩ | hw
  · exact .inl ⟨q, hq, by rw [← n2 q hq]; exact hv⟩
  · exact .inr hw
/-- THREE TERMS THAT VANISH EVERYWHERE HAVE A SMALL ZERO -/
theorem leg {t : T3} (h : t.small) : twoD (normT 20 t).a (normT 20 t).b (normT 20 t).c = 1 ∧ ((∃ q, plI q = true ∧ vanT t q = false) ∨ Wit (normT 20 t)) := by
  rcases Int.lt_or_gt_of_ne h.nz.1 with ha | ha
  · have hs : t.neg.small := fun x hx => by
      unfold T3.neg at hx
      simp only [List.mem_cons, List.not_mem_nil, or_false] at hx
      have g : ∀ y ∈ [t.a, t.b, t.c], -y ≠ 0 ∧ -30 ≤ -y ∧ -y ≤ 30 ∧ SqFree (-y).natAbs := fun y hy => by
        have := h y hy
        rw [Int.natAbs_neg]
        exact ⟨by omega, by omega, by omega, this.2.2.2⟩
      rcases hx with rfl | rfl | rfl <;> exact g _ (by simp)
    obtain ⟨h1, h2⟩ := leg_pos hs (show 0 < -t.a by omega)
    rw [norm_neg] at h1 h2
    refine ⟨by rw [← h1]; exact (twoD_neg _ _ _).1.symm, ?_⟩
    rcases h2 with ⟨q, hq, hv⟩ | hw
    · refine .inl ⟨q, hq, ?_⟩
      rw [← hv]
      obtain ⟨n1, n2, n3⟩ := h.nz
      have := van_scale hq (n := -1) (by decide) (nz3 n1 n2 n3) (by simp) (by simp)
      unfold vanT T3.neg
      rw [← this]
      show vanB [-1 * t.a, -1 * t.b, -1 * t.c] q = _
      rw [Int.neg_one_mul, Int.neg_one_mul, Int.neg_one_mul]
    · exact .inr (wit_neg hw)
  · exact leg_pos h ha

end Go.Proofs.Ytfjbdbfeolfcfaa
