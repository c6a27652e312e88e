/-
  Some texts in one file: ZLeg Vals6 Vals7 Zlen.
-/
import Derived.Test.YtbhlgdleklfonabZLegK
import Derived.Test.YtbhlgdleklfonabZLegK2
import Derived.Test.YtbhlgdleklfonabZLegK3
import Derived.Test.YtbhlgdleklfonabZLegK4
import Derived.Test.YtbhlgdleklfonabBun14
/-! ZLeg -/
set_option linter.unusedVariables false
namespace Go.Proofs.Ytbhlgdleklfonab
open Go.RowKit

def T3.neg (t : T3) : T3 := ⟨-t.a, -t.b, -t.c⟩
theorem twoD_neg (a b c : Int) : twoD (-a) (-b) (-c) = twoD a b c ∧ twoK (-a) (-b) (-c) = twoK a b c := by
  unfold twoD twoK
  simp only [Int.gcd_neg, Int.neg_gcd, and_self]
theorem third_neg (c : Int) (p : Nat) : thirdI (-c) p = -thirdI c p := by
  unfold thirdI
  by_cases h : c % (p : Int) = 0
  · rw [if_pos h, if_pos (Int.emod_eq_zero_of_dvd (Int.dvd_neg.2 (Int.dvd_of_emod_eq_zero h))), Int.neg_tdiv]
  · rw [if_neg h, if_neg (fun e => h (Int.emod_eq_zero_of_dvd (Int.dvd_neg.1 (Int.dvd_of_emod_eq_zero e)))), Int.neg_mul]
theorem step_neg (t : T3) : stepI t.neg = (stepI t).neg := by
  obtain ⟨a, b, c⟩ := t
  unfold stepI T3.neg
  dsimp only
  rw [(twoD_neg a b c).1, (twoD_neg a b c).2]
  by_cases h2 : twoK a b c = 2
  · simp only [if_pos h2, third_neg, Int.neg_tdiv]
  · by_cases h1 : twoK a b c = 1
    · simp only [if_neg h2, if_pos h1, third_neg, Int.neg_tdiv]
    · simp only [if_neg h2, if_neg h1, third_neg, Int.neg_tdiv]
theorem norm_neg : ∀ (f : Nat) (t : T3), normT f t.neg = (normT f t).neg
  | 0, _ => rfl
  | f + 1, t => by
    unfold normT
    rw [show twoD t.neg.a t.neg.b t.neg.c = twoD t.a t.b t.c from (twoD_neg t.a t.b t.c).1]
    by_cases h : twoD t.a t.b t.c = 1
    · rw [if_pos h, if_pos h]
    · rw [if_neg h, if_neg h, step_neg, norm_neg f]

/-- a small zero -/
def Wit (t : T3) : Prop := ∃ x y z : Nat, t.a * x * x + t.b * y * y + t.c * z * z = 0 ∧ (x : Int) * x ≤ ((t.b * t.c).natAbs : Int) ∧ (y : Int) * y ≤ ((t.a * t.c).natAbs : Int) ∧ ¬ (x = 0 ∧ y = 0)
theorem wit_neg {t : T3} (h : Wit t.neg) : Wit t := by
  obtain ⟨x, y, z, h1, h2, h3, h4⟩ := h
  unfold T3.neg at h1 h2 h3
  dsimp only at h1 h2 h3
  refine ⟨x, y, z, ?_, by rwa [Int.neg_mul_neg] at h2, by rwa [Int.neg_mul_neg] at h3, h4⟩
  simp only [Int.neg_mul] at h1
  omega
theorem hitZ_wit {t : T3} {x y : Int} (h : hitZ t x y = true) : Wit t := by
  unfold hitZ at h
  simp only [Bool.and_eq_true, beq_iff_eq, decide_eq_true_eq, Bool.not_eq_true', Bool.and_eq_false_iff, beq_eq_false_iff_ne] at h
  obtain ⟨_, _, h1, h2, h3, h4⟩ := h
  have e : ∀ k v : Int, k * (v.natAbs : Int) * (v.natAbs : Int) = k * v * v := fun k v => by
    rw [Int.mul_assoc, Int.mul_assoc, ← Int.natCast_mul, Int.natAbs_mul_self]
  refine ⟨x.natAbs, y.natAbs, sqrtK ((-(t.a * x * x) - t.b * y * y).tdiv t.c).toNat, ?_, ?_, ?_, ?_⟩
  · rw [e, e]; exact h1
  · rw [← Int.natCast_mul, Int.natAbs_mul_self]; exact h2
  · rw [← Int.natCast_mul, Int.natAbs_mul_self]; exact h3
  · rintro ⟨a, b⟩
    rcases h4 with h | h <;> omega
theorem hitYs_wit {t : T3} {x : Int} : ∀ {k : Nat} {y : Int}, hitYs t x k y = true → Wit t
  | 0, _, h => by cases h
  | k + 1, y, h => by
    unfold hitYs at h
    rcases Bool.or_eq_true _ _ ▸ h with h | h
    · exact hitZ_wit h
    · exact hitYs_wit h
theorem hitXs_wit {t : T3} {ny : Nat} : ∀ {k : Nat} {x : Int}, hitXs t ny k x = true → Wit t
  | 0, _, h => by cases h
  | k + 1, x, h => by
    unfold hitXs at h
    rcases Bool.or_eq_true _ _ ▸ h with h | h
    · exact hitYs_wit h
    · exact hitXs_wit h

theorem van_real3 {t : T3} (h : (0 < t.a ∧ 0 < t.b ∧ 0 < t.c) ∨ (t.a < 0 ∧ t.b < 0 ∧ t.c < 0)) : vanT t 0 = false := by
  unfold vanT vanB
  rw [if_pos rfl]
  unfold lessN
  rcases h with ⟨h1, h2, h3⟩ | ⟨h1, h2, h3⟩
  · simp [show ¬ t.a < 0 by omega, show ¬ t.b < 0 by omega, show ¬ t.c < 0 by omega]
  · simp [h1, h2, h3]
theorem odd_pl : oddL.all (fun p => primeN p && decide (3 ≤ p)) = true := by decide +kernel
theorem lgT_ok {t : T3} (h : t.nz) (hk : lgT t = true) : (∃ q, plI q = true ∧ vanT t q = false) ∨ Wit t := by
  unfold lgT at hk
  simp only [Bool.or_eq_true, Bool.and_eq_true, decide_eq_true_eq] at hk
  rcases hk with ⟨h1, h2, h3⟩ | ⟨h1, h2, h3⟩ | hk | hk
  · exact .inl ⟨0, rfl, van_real3 (.inl ⟨h1, h2, h3⟩)⟩
  · exact .inl ⟨0, rfl, van_real3 (.inr ⟨h1, h2, h3⟩)⟩
  · obtain ⟨p, hp, hb⟩ := List.any_eq_true.1 hk
    have := List.all_eq_true.1 odd_pl p hp
    rw [Bool.and_eq_true, decide_eq_true_eq] at this
    exact .inl ⟨(p : Int), by unfold plI primeI; rw [Int.toNat_natCast, this.1, Bool.or_true], badP_van this.1 this.2 h hb⟩
  · exact .inr (hitXs_wit hk)

theorem free_tab : (List.range 31).all (fun k => decide (k = 0) || (decide (k % 4 = 0) || (decide (k % 9 = 0) || (decide (k % 25 = 0) || freeL.contains (k : Int))))) = true := by decide +kernel
theorem free_in {n : Nat} (h0 : n ≠ 0) (hb : n ≤ 30) (hf : SqFree n) : (n : Int) ∈ freeL := by
  have := List.all_eq_true.1 free_tab n (List.mem_range.2 (by omega))
  simp only [Bool.or_eq_true, decide_eq_true_eq] at this
  rcases this with h | h | h | h | h
  · exact absurd h h0
  · exact absurd (Nat.dvd_of_mod_eq_zero h) (hf 2 (by decide))
  · exact absurd (Nat.dvd_of_mod_eq_zero h) (hf 3 (by decide))
  · exact absurd (Nat.dvd_of_mod_eq_zero h) (hf 5 (by decide))
  · exact List.contains_iff_mem.1 h
theorem free2_in {n : Int} (h0 : n ≠ 0) (h1 : -30 ≤ n) (h2 : n ≤ 30) (hf : SqFree n.natAbs) : n ∈ free2 := by
  have h := free_in (n := n.natAbs) (by omega) (by omega) hf
  unfold free2
  rw [List.mem_append]
  rcases Int.le_total 0 n with hn | hn
  · left; rwa [Int.natAbs_of_nonneg hn] at h
  · right; exact List.mem_map.2 ⟨_, h, by rw [Int.ofNat_natAbs_of_nonpos hn, Int.neg_neg]⟩
theorem lgA_at {l : List Int} (h : lgA l = true) {a b c : Int} (ha : a ∈ l) (hb : b ∈ free2) (hc : c ∈ free2) : lgN ⟨a, b, c⟩ = true :=
  List.all_eq_true.1 (List.all_eq_true.1 (List.all_eq_true.1 h a ha) b hb) c hc
theorem lgN_pos {a b c : Int} (ha : a ∈ freeL) (hb : b ∈ free2) (hc : c ∈ free2) : lgN ⟨a, b, c⟩ = true := by
  have hm : a ∈ [1, 2, 3, 5, 6] ++ ([7, 10, 11, 13, 14] ++ ([15, 17, 19, 21, 22] ++ [23, 26, 29, 30])) := ha
  rcases List.mem_append.1 hm with h | h
  · exact lgA_at lgA_1 h hb hc
  · rcases List.mem_append.1 h with h | h
    · exact lgA_at lgA_2 h hb hc
    · rcases List.mem_append.1 h with h | h
      · exact lgA_at lgA_3 h hb hc
      · exact lgA_at lgA_4 h hb hc
def T3.small (t : T3) : Prop := ∀ x ∈ [t.a, t.b, t.c], x ≠ 0 ∧ -30 ≤ x ∧ x ≤ 30 ∧ SqFree x.natAbs
theorem T3.small.nz {t : T3} (h : t.small) : t.nz := ⟨(h _ (by simp)).1, (h _ (by simp)).1, (h _ (by simp)).1⟩
theorem leg_pos {t : T3} (h : t.small) (ha : 0 < t.a) : twoD (normT 20 t).a (normT 20 t).b (normT 20 t).c = 1 ∧ ((∃ q, plI q = true ∧ vanT t q = false) ∨ Wit (normT 20 t)) := by
  obtain ⟨a, b, c⟩ := t
  have h1 := h a (by simp)
  have h2 := h b (by simp)
  have h3 := h c (by simp)
  dsimp only at ha
  have hf := free_in (n := a.natAbs) (by omega) (by omega) h1.2.2.2
  rw [Int.natAbs_of_nonneg (by omega)] at hf
  have hk := lgN_pos hf (free2_in h2.1 h2.2.1 h2.2.2.1 h2.2.2.2) (free2_in h3.1 h3.2.1 h3.2.2.1 h3.2.2.2)
  unfold lgN at hk
  rw [Bool.and_eq_true, beq_iff_eq] at hk
  obtain ⟨n1, n2⟩ := norm_ok 20 h.nz
  refine ⟨hk.1, ?_⟩
  rcases lgT_ok n1 hk.2 with ⟨q, hq, hv⟩ | hw
  · exact .inl ⟨q, hq, by rw [← n2 q hq]; exact hv⟩
  · exact .inr hw
/-- THREE TERMS THAT VANISH EVERYWHERE HAVE A SMALL ZERO -/
theorem leg {t : T3} (h : t.small) : twoD (normT 20 t).a (normT 20 t).b (normT 20 t).c = 1 ∧ ((∃ q, plI q = true ∧ vanT t q = false) ∨ Wit (normT 20 t)) := by
  rcases Int.lt_or_gt_of_ne h.nz.1 with ha | ha
  · have hs : t.neg.small := fun x hx => by
      unfold T3.neg at hx
      simp only [List.mem_cons, List.not_mem_nil, or_false] at hx
      have g : ∀ y ∈ [t.a, t.b, t.c], -y ≠ 0 ∧ -30 ≤ -y ∧ -y ≤ 30 ∧ SqFree (-y).natAbs := fun y hy => by
        have := h y hy
        rw [Int.natAbs_neg]
        exact ⟨by omega, by omega, by omega, this.2.2.2⟩
      rcases hx with rfl | rfl | rfl <;> exact g _ (by simp)
    obtain ⟨h1, h2⟩ := leg_pos hs (show 0 < -t.a by omega)
    rw [norm_neg] at h1 h2
    refine ⟨by rw [← h1]; exact (twoD_neg _ _ _).1.symm, ?_⟩
    rcases h2 with ⟨q, hq, hv⟩ | hw
    · refine .inl ⟨q, hq, ?_⟩
      rw [← hv]
      obtain ⟨n1, n2, n3⟩ := h.nz
      have := van_scale hq (n := -1) (by decide) (nz3 n1 n2 n3) (by simp) (by simp)
      unfold vanT T3.neg
      rw [← this]
      show vanB [-1 * t.a, -1 * t.b, -1 * t.c] q = _
      rw [Int.neg_one_mul, Int.neg_one_mul, Int.neg_one_mul]
    · exact .inr (wit_neg hw)
  · exact leg_pos h ha

end Go.Proofs.Ytbhlgdleklfonab

/-! Vals6 -/
set_option linter.unusedVariables false
namespace Go.Proofs.Ytbhlgdleklfonab
open Go.RowKit

theorem core_small {x : Int} (h0 : x ≠ 0) : coreG x ≠ 0 ∧ (coreG x).natAbs * (rootG x * rootG x) = x.natAbs ∧ (coreG x).natAbs ≤ x.natAbs ∧ SqFree (coreG x).natAbs ∧ 1 ≤ rootG x := by
  have h := core_is h0
  have e : (coreG x).natAbs * (rootG x * rootG x) = x.natAbs := by
    conv => rhs; rw [← h.eq]
    rw [Int.natAbs_mul, Int.natAbs_mul, Int.natAbs_natCast]
  refine ⟨h.ne h0, e, ?_, h.free, h.pos⟩
  rw [← e]
  exact Nat.le_mul_of_pos_right _ (Nat.mul_pos h.pos h.pos)
theorem root_free {c : Int} (h0 : c ≠ 0) (h : SqFree c.natAbs) : rootG c = 1 ∧ coreG c = c := by
  have hi : IsCore c 1 c := ⟨by rw [Int.natCast_one, Int.mul_one, Int.mul_one], Nat.le_refl _, h⟩
  have := core_eq h0 hi
  exact ⟨this.2, this.1⟩
theorem free_root {c : Int} (h0 : c ≠ 0) (h : rootG c = 1) : SqFree c.natAbs := by
  have h1 := core_is h0
  have e := h1.eq
  rw [h] at e
  have e2 : coreG c = c := by simpa using e
  have := h1.free
  rwa [e2] at this

/-- three terms and three factors, as the first step leaves them -/
def coreT (a b c : Int) : T3 := ⟨coreG a, coreG b, coreG c⟩
def rootM (a b c : Int) : T3 := ⟨(rootG b : Int) * rootG c, (rootG a : Int) * rootG c, (rootG a : Int) * rootG b⟩
def nT (a b c : Int) : T3 := normT 20 (coreT a b c)
def nM (a b c : Int) : T3 := normM 20 (coreT a b c) (rootM a b c)
def T3.toL (t : T3) : List Int := [t.a, t.b, t.c]
structure Ok3 (a b c : Int) : Prop where
  a0 : a ≠ 0
  b0 : b ≠ 0
  c0 : c ≠ 0
  a1 : -30 ≤ a
  a2 : a ≤ 30
  b1 : -30 ≤ b
  b2 : b ≤ 30
  c1 : -30 ≤ c
  c2 : c ≤ 30
theorem ok3_of {a b c : Int} (h : fvB [a, b, c] = true) : Ok3 a b c := by
  have h1 := (fvB_iff.1 h).1
  have ha := h1 a (by simp)
  have hb := h1 b (by simp)
  have hc := h1 c (by simp)
  exact ⟨ha.1, hb.1, hc.1, ha.2.1, ha.2.2, hb.2.1, hb.2.2, hc.2.1, hc.2.2⟩
theorem ok3_fv {a b c : Int} (h : Ok3 a b c) : fvB [a, b, c] = true := by
  refine fvB_iff.2 ⟨fun x hx => ?_, by simp, by simp⟩
  simp only [List.mem_cons, List.not_mem_nil, or_false] at hx
  rcases hx with rfl | rfl | rfl
  · exact ⟨h.a0, h.a1, h.a2⟩
  · exact ⟨h.b0, h.b1, h.b2⟩
  · exact ⟨h.c0, h.c1, h.c2⟩
theorem Ok3.small {a b c : Int} (h : Ok3 a b c) : (coreT a b c).small := by
  have S : ∀ x : Int, x ≠ 0 → -30 ≤ x → x ≤ 30 → coreG x ≠ 0 ∧ -30 ≤ coreG x ∧ coreG x ≤ 30 ∧ SqFree (coreG x).natAbs := fun x h0 h1 h2 => by
    obtain ⟨k0, _, k2, k3, _⟩ := core_small h0
    exact ⟨k0, by omega, by omega, k3⟩
  intro x hx
  unfold coreT at hx
  simp only [List.mem_cons, List.not_mem_nil, or_false] at hx
  rcases hx with rfl | rfl | rfl
  · exact S _ h.a0 h.a1 h.a2
  · exact S _ h.b0 h.b1 h.b2
  · exact S _ h.c0 h.c1 h.c2
theorem Ok3.free {a b c : Int} (h : Ok3 a b c) : (coreT a b c).free := ⟨(core_small h.a0).2.2.2.1, (core_small h.b0).2.2.2.1, (core_small h.c0).2.2.2.1⟩
theorem prod3_le {a b c n : Nat} (ha : a ≤ n) (hb : b ≤ n) (hc : c ≤ n) : a * b * c ≤ n * n * n := Nat.mul_le_mul (Nat.mul_le_mul ha hb) hc
theorem Ok3.prod {a b c : Int} (h : Ok3 a b c) : (coreT a b c).prod ≤ a.natAbs * b.natAbs * c.natAbs ∧ a.natAbs * b.natAbs * c.natAbs ≤ 27000 := by
  refine ⟨?_, ?_⟩
  · exact Nat.mul_le_mul (Nat.mul_le_mul (core_small h.a0).2.2.1 (core_small h.b0).2.2.1) (core_small h.c0).2.2.1
  · have := h.a1; have := h.a2; have := h.b1; have := h.b2; have := h.c1; have := h.c2
    exact prod3_le (n := 30) (by omega) (by omega) (by omega)
theorem mm_id (x y u v : Nat) : x * y * (x * y) * (u * v) = (u * (x * x)) * (v * (y * y)) := by
  simp only [Nat.mul_comm, Nat.mul_left_comm]
theorem Ok3.minv {a b c : Int} (h : Ok3 a b c) : MInv 900 (coreT a b c) (rootM a b c) := by
  obtain ⟨_, ea, _, _, pa⟩ := core_small h.a0
  obtain ⟨_, eb, _, _, pb⟩ := core_small h.b0
  obtain ⟨_, ec, _, _, pc⟩ := core_small h.c0
  have := h.a1; have := h.a2; have := h.b1; have := h.b2; have := h.c1; have := h.c2
  have one : ∀ m n : Nat, 1 ≤ m → 1 ≤ n → 1 ≤ (m : Int) * n := fun m n hm hn => by
    have := Nat.mul_le_mul hm hn
    have e : (m : Int) * n = ((m * n : Nat) : Int) := by push_cast; rfl
    rw [e]; omega
  have K : ∀ (m n u v x y : Nat), u * (m * m) = x → v * (n * n) = y → x ≤ 30 → y ≤ 30 → ((m : Int) * n).natAbs * ((m : Int) * n).natAbs * (u * v) ≤ 900 := fun m n u v x y hx hy h1 h2 => by
    rw [Int.natAbs_mul, Int.natAbs_natCast, Int.natAbs_natCast, mm_id, hx, hy]
    exact Nat.mul_le_mul h1 h2
  refine ⟨one _ _ pb pc, one _ _ pa pc, one _ _ pa pb, K _ _ _ _ _ _ eb ec (by omega) (by omega), K _ _ _ _ _ _ ea ec (by omega) (by omega), K _ _ _ _ _ _ ea eb (by omega) (by omega)⟩
theorem Ok3.carry {a b c : Int} (h : Ok3 a b c) : Carry ⟨a, b, c⟩ (coreT a b c) (rootM a b c) := fun x y z hz => by
  have ea := (core_is h.a0).eq
  have eb := (core_is h.b0).eq
  have ec := (core_is h.c0).eq
  unfold Zero3 at hz ⊢
  unfold coreT at hz
  unfold rootM
  obtain ⟨A, hA⟩ : ∃ A, A = coreG a := ⟨_, rfl⟩
  obtain ⟨B, hB⟩ : ∃ B, B = coreG b := ⟨_, rfl⟩
  obtain ⟨C, hC⟩ : ∃ C, C = coreG c := ⟨_, rfl⟩
  obtain ⟨r, hr⟩ : ∃ r : Int, r = rootG a := ⟨_, rfl⟩
  obtain ⟨s, hs⟩ : ∃ s : Int, s = rootG b := ⟨_, rfl⟩
  obtain ⟨t, ht⟩ : ∃ t : Int, t = rootG c := ⟨_, rfl⟩
  dsimp only at hz ⊢
  rw [← hA] at ea hz
  rw [← hB] at eb hz
  rw [← hC] at ec hz
  rw [← hr] at ea ⊢
  rw [← hs] at eb ⊢
  rw [← ht] at ec ⊢
  rw [← ea, ← eb, ← ec]
  have e : A * (r * r) * (s * t * x) * (s * t * x) + B * (s * s) * (r * t * y) * (r * t * y) + C * (t * t) * (r * s * z) * (r * s * z) = (r * r * (s * s) * (t * t)) * (A * x * x + B * y * y + C * z * z) := by
    simp only [Int.mul_add, Int.mul_comm, Int.mul_left_comm]
  rw [e, hz, Int.mul_zero]

/-- what normal terms are -/
structure Nrm (a b c : Int) : Prop where
  nz : (nT a b c).nz
  two : twoD (nT a b c).a (nT a b c).b (nT a b c).c = 1
  free : (nT a b c).free
  prod : (nT a b c).prod ≤ a.natAbs * b.natAbs * c.natAbs
  lim : (nT a b c).prod ≤ 27000
  minv : MInv 900 (nT a b c) (nM a b c)
  carry : Carry ⟨a, b, c⟩ (nT a b c) (nM a b c)
theorem Ok3.nrm {a b c : Int} (h : Ok3 a b c) : Nrm a b c := by
  have hp := norm_prod 20 (coreT a b c)
  have h1 := h.prod
  exact ⟨(norm_ok 20 h.small.nz).1, (leg h.small).1, norm_free 20 h.free, Nat.le_trans hp h1.1, Nat.le_trans hp (Nat.le_trans h1.1 h1.2), norm_minv 20 h.minv, norm_carry 20 h.carry⟩

/-- a root, if there is one -/
def rootO (n : Int) : Option Nat := if n < 0 then none else (List.range (n.toNat + 1)).find? (fun z : Nat => decide ((z : Int) * z = n))
theorem sq_inj {x y : Nat} (h : (x : Int) * x = (y : Int) * y) : x = y := by
  have h2 : x * x = y * y := by exact_mod_cast h
  rcases Nat.lt_trichotomy x y with h1 | h1 | h1
  · have := Nat.mul_lt_mul_of_lt_of_le h1 (Nat.le_of_lt h1) (by omega); omega
  · exact h1
  · have := Nat.mul_lt_mul_of_lt_of_le h1 (Nat.le_of_lt h1) (by omega); omega
theorem rootO_of {n : Int} {z : Nat} (h : (z : Int) * z = n) : rootO n = some z := by
  have hn : ¬ n < 0 := by have := Int.mul_nonneg (Int.natCast_nonneg z) (Int.natCast_nonneg z); omega
  unfold rootO
  rw [if_neg hn]
  have hz : z < n.toNat + 1 := by
    have h1 : z ≤ z * z := by
      rcases Nat.eq_zero_or_pos z with e | e
      · rw [e]; exact Nat.zero_le _
      · exact Nat.le_mul_of_pos_left _ e
    have h2 : ((z * z : Nat) : Int) = n := by push_cast; exact h
    omega
  cases hf : (List.range (n.toNat + 1)).find? (fun z : Nat => decide ((z : Int) * z = n)) with
  | none =>
    have := List.find?_eq_none.1 hf z (List.mem_range.2 hz)
    rw [decide_eq_true h] at this
    exact absurd rfl this
  | some y =>
    have := List.find?_some hf
    rw [decide_eq_true_eq] at this
    rw [sq_inj (this.trans h.symm)]
theorem rootO_some {n : Int} {z : Nat} (h : rootO n = some z) : (z : Int) * z = n := by
  unfold rootO at h
  by_cases hn : n < 0
  · rw [if_pos hn] at h; cases h
  · rw [if_neg hn] at h
    have := List.find?_some h
    rwa [decide_eq_true_eq] at this
theorem rootO_none {n : Int} (h : ∀ z : Nat, (z : Int) * z ≠ n) : rootO n = none := by
  cases hr : rootO n with
  | none => rfl
  | some z => exact absurd (rootO_some hr) (h z)

/-- the search -/
def topI (t : T3) (x y : Nat) : Int := 0 - t.a * x * x - t.b * y * y
def hitO (t : T3) (x y : Nat) : Option (List Int) := if x = 0 ∧ y = 0 then none else if topI t x y % t.c = 0 then (rootO ((topI t x y).tdiv t.c)).map (fun z => [(x : Int), (y : Int), (z : Int)]) else none
def firstO {α : Type} (f : Nat → Option α) (N : Nat) : Option α := (List.range (N + 1)).findSome? (fun i => if i * i ≤ N then f i else none)
theorem first_none {α : Type} {f : Nat → Option α} {N k : Nat} (h : ∀ i, i < k → f i = none) (hk : ¬ k * k ≤ N) : firstO f N = none := by
  unfold firstO
  rw [List.findSome?_eq_none_iff]
  intro i _
  by_cases hi : i * i ≤ N
  · rw [if_pos hi]
    refine h i ?_
    rcases Nat.lt_or_ge i k with h1 | h1
    · exact h1
    · have := Nat.mul_le_mul h1 h1; omega
  · rw [if_neg hi]
theorem first_some {α : Type} {f : Nat → Option α} {N k : Nat} {a : α} (h : ∀ i, i < k → f i = none) (hk : k * k ≤ N) (ha : f k = some a) : firstO f N = some a := by
  have hkN : k ≤ N := by
    rcases Nat.eq_zero_or_pos k with e | e
    · omega
    · have := Nat.le_mul_of_pos_left k e; omega
  unfold firstO
  rw [show N + 1 = k + (1 + (N - k)) by omega, List.range_add, List.findSome?_append, List.findSome?_eq_none_iff.2 (fun i hi => by rw [h i (List.mem_range.1 hi), ite_self]), Option.none_or, List.range_add, List.map_append, List.findSome?_append]
  simp [hk, ha]
theorem first_mem {α : Type} {f : Nat → Option α} {N : Nat} {a : α} (h : firstO f N = some a) : ∃ k, k * k ≤ N ∧ f k = some a := by
  unfold firstO at h
  obtain ⟨k, _, hk⟩ := List.exists_of_findSome?_eq_some h
  by_cases h1 : k * k ≤ N
  · rw [if_pos h1] at hk; exact ⟨k, h1, hk⟩
  · rw [if_neg h1] at hk; cases hk
theorem first_there {α : Type} {f : Nat → Option α} {N k : Nat} {a : α} (hk : k * k ≤ N) (ha : f k = some a) : ∃ b, firstO f N = some b := by
  cases hf : firstO f N with
  | some b => exact ⟨b, rfl⟩
  | none =>
    unfold firstO at hf
    have hkN : k ≤ N := by
      rcases Nat.eq_zero_or_pos k with e | e
      · omega
      · have := Nat.le_mul_of_pos_left k e; omega
    have := List.findSome?_eq_none_iff.1 hf k (List.mem_range.2 (by omega))
    rw [if_pos hk, ha] at this
    cases this
def rowO (t : T3) (x : Nat) : Option (List Int) := firstO (hitO t x) (t.a * t.c).natAbs
def searchO (t : T3) : Option (List Int) := firstO (rowO t) (t.b * t.c).natAbs
/-- what it finds -/
structure Found (t : T3) (x y z : Nat) : Prop where
  zero : t.a * x * x + t.b * y * y + t.c * z * z = 0
  xle : x * x ≤ (t.b * t.c).natAbs
  yle : y * y ≤ (t.a * t.c).natAbs
  some : ¬ (x = 0 ∧ y = 0)
theorem hit_found {t : T3} {x y : Nat} {l : List Int} (h : hitO t x y = some l) : ∃ z : Nat, l = [(x : Int), (y : Int), (z : Int)] ∧ t.a * x * x + t.b * y * y + t.c * z * z = 0 ∧ ¬ (x = 0 ∧ y = 0) := by
  unfold hitO at h
  by_cases h0 : x = 0 ∧ y = 0
  · rw [if_pos h0] at h; cases h
  · rw [if_neg h0] at h
    by_cases hd : topI t x y % t.c = 0
    · rw [if_pos hd] at h
      cases hr : rootO ((topI t x y).tdiv t.c) with
      | none => rw [hr] at h; cases h
      | some z =>
        rw [hr] at h
        cases h
        refine ⟨z, rfl, ?_, h0⟩
        have h1 := rootO_some hr
        have h2 := Int.mul_tdiv_cancel' (Int.dvd_of_emod_eq_zero hd)
        rw [← h1] at h2
        unfold topI at h2
        rw [← Int.mul_assoc] at h2
        omega
    · rw [if_neg hd] at h; cases h
theorem search_found {t : T3} {l : List Int} (h : searchO t = some l) : ∃ x y z : Nat, l = [(x : Int), (y : Int), (z : Int)] ∧ Found t x y z := by
  obtain ⟨x, hx, h1⟩ := first_mem h
  obtain ⟨y, hy, h2⟩ := first_mem h1
  obtain ⟨z, hl, h3, h4⟩ := hit_found h2
  exact ⟨x, y, z, hl, h3, hx, hy, h4⟩
theorem found_search {t : T3} {x y z : Nat} (hc : t.c ≠ 0) (h : Found t x y z) : ∃ l, searchO t = some l := by
  have e : topI t x y = t.c * ((z : Int) * z) := by unfold topI; have := h.zero; rw [← Int.mul_assoc]; omega
  have hh : hitO t x y = some [(x : Int), (y : Int), (z : Int)] := by
    unfold hitO
    rw [if_neg h.some, if_pos (by rw [e]; exact Int.mul_emod_right _ _), e, Int.mul_tdiv_cancel_left _ hc, rootO_of rfl]
    rfl
  obtain ⟨l1, h1⟩ := first_there (f := hitO t x) h.yle hh
  exact first_there (f := rowO t) h.xle h1
theorem wit_search {t : T3} (hc : t.c ≠ 0) (h : Wit t) : ∃ l, searchO t = some l := by
  obtain ⟨x, y, z, h1, h2, h3, h4⟩ := h
  exact found_search hc ⟨h1, by exact_mod_cast h2, by exact_mod_cast h3, h4⟩

/-- are three terms normal and small? -/
def nrmB (xs : List Int) : Bool := decide (xs.length = 3) && (xs.all (fun x => !(x == 0) && (inR x (-30000) 30000 && decide (rootG x = 1))) && (decide ((prodI xs).natAbs ≤ 30000) && decide (twoD (xs.getD 0 0) (xs.getD 1 0) (xs.getD 2 0) = 1)))
def T3.of (xs : List Int) : T3 := ⟨xs.getD 0 0, xs.getD 1 0, xs.getD 2 0⟩
def zsearchO (xs : List Int) : Option (List Int) := if nrmB xs then searchO (T3.of xs) else none
theorem nrmB_iff {a b c : Int} : nrmB [a, b, c] = true ↔ (a ≠ 0 ∧ b ≠ 0 ∧ c ≠ 0) ∧ ((-30000 ≤ a ∧ a ≤ 30000) ∧ (-30000 ≤ b ∧ b ≤ 30000) ∧ (-30000 ≤ c ∧ c ≤ 30000)) ∧ (rootG a = 1 ∧ rootG b = 1 ∧ rootG c = 1) ∧ (a * b * c).natAbs ≤ 30000 ∧ twoD a b c = 1 := by
  have e : prodI [a, b, c] = a * b * c := by show a * (b * (c * 1)) = _; rw [Int.mul_one, Int.mul_assoc]
  unfold nrmB inR
  rw [e]
  simp only [List.length_cons, List.length_nil, List.all_cons, List.all_nil, Bool.and_true, List.getD_cons_zero, List.getD_cons_succ, Bool.and_eq_true, Bool.not_eq_true', beq_eq_false_iff_ne, decide_eq_true_eq]
  constructor
  · rintro ⟨_, ⟨⟨a0, ⟨a1, a2⟩, a3⟩, ⟨b0, ⟨b1, b2⟩, b3⟩, c0, ⟨c1, c2⟩, c3⟩, h1, h2⟩
    exact ⟨⟨a0, b0, c0⟩, ⟨⟨a1, a2⟩, ⟨b1, b2⟩, c1, c2⟩, ⟨a3, b3, c3⟩, h1, h2⟩
  · rintro ⟨⟨a0, b0, c0⟩, ⟨⟨a1, a2⟩, ⟨b1, b2⟩, c1, c2⟩, ⟨a3, b3, c3⟩, h1, h2⟩
    exact ⟨trivial, ⟨⟨a0, ⟨a1, a2⟩, a3⟩, ⟨b0, ⟨b1, b2⟩, b3⟩, c0, ⟨c1, c2⟩, c3⟩, h1, h2⟩
theorem nrm_len {xs : List Int} (h : xs.length ≠ 3) : nrmB xs = false := by unfold nrmB; rw [decide_eq_false h]; rfl
theorem T3.bd {t : T3} (h : t.nz) {N : Nat} (hp : t.prod ≤ N) : t.a.natAbs ≤ N ∧ t.b.natAbs ≤ N ∧ t.c.natAbs ≤ N ∧ (t.b * t.c).natAbs ≤ N ∧ (t.a * t.c).natAbs ≤ N ∧ (t.a * t.b).natAbs ≤ N := by
  obtain ⟨ha, hb, hc⟩ := h
  unfold T3.prod at hp
  have a1 : 1 ≤ t.a.natAbs := by omega
  have b1 : 1 ≤ t.b.natAbs := by omega
  have c1 : 1 ≤ t.c.natAbs := by omega
  rw [Int.natAbs_mul, Int.natAbs_mul, Int.natAbs_mul]
  have e1 : t.a.natAbs * t.b.natAbs * t.c.natAbs = t.a.natAbs * (t.b.natAbs * t.c.natAbs) := Nat.mul_assoc ..
  have e2 : t.a.natAbs * t.b.natAbs * t.c.natAbs = t.b.natAbs * (t.a.natAbs * t.c.natAbs) := by rw [Nat.mul_assoc, Nat.mul_left_comm]
  have m1 := Nat.le_mul_of_pos_left (t.b.natAbs * t.c.natAbs) a1
  have m2 := Nat.le_mul_of_pos_left (t.a.natAbs * t.c.natAbs) b1
  have m3 := Nat.le_mul_of_pos_right (t.a.natAbs * t.b.natAbs) c1
  have m4 := Nat.le_mul_of_pos_right t.b.natAbs c1
  have m5 := Nat.le_mul_of_pos_right t.a.natAbs c1
  have m6 := Nat.le_mul_of_pos_left t.c.natAbs b1
  omega
theorem Nrm.is {a b c : Int} (h : Nrm a b c) : nrmB (nT a b c).toL = true := by
  obtain ⟨ha, hb, hc⟩ := h.nz
  have hbd := T3.bd h.nz h.lim
  unfold T3.toL
  rw [nrmB_iff]
  refine ⟨⟨ha, hb, hc⟩, by omega, ⟨(root_free ha h.free.1).1, (root_free hb h.free.2.1).1, (root_free hc h.free.2.2).1⟩, ?_, h.two⟩
  rw [Int.natAbs_mul, Int.natAbs_mul]
  have := h.lim
  unfold T3.prod at this
  omega

end Go.Proofs.Ytbhlgdleklfonab

/-! Vals7 -/
set_option linter.unusedVariables false
namespace Go.Proofs.Ytbhlgdleklfonab
open Go.RowKit

theorem sq_small {u n N : Nat} (h : u * u ≤ N) (hn : N < (n + 1) * (n + 1)) : u ≤ n := by
  refine Classical.byContradiction fun hc => ?_
  have := Nat.mul_le_mul (show n + 1 ≤ u by omega) (show n + 1 ≤ u by omega)
  omega
theorem mx_sq {m x B K : Nat} (hx : x * x ≤ B) (h : m * m * B ≤ K) : m * x * (m * x) ≤ K := by
  have e : m * x * (m * x) = m * m * (x * x) := by simp only [Nat.mul_comm, Nat.mul_left_comm]
  rw [e]
  exact Nat.le_trans (Nat.mul_le_mul_left _ hx) h
theorem z_sq {A B C x y z : Nat} (hC : 0 < C) (h : C * (z * z) ≤ A * (x * x) + B * (y * y)) (hx : x * x ≤ B * C) (hy : y * y ≤ A * C) : z * z ≤ 2 * (A * B) := by
  have h1 := Nat.mul_le_mul_left A hx
  have h2 := Nat.mul_le_mul_left B hy
  have e1 : A * (B * C) = C * (A * B) := by simp only [Nat.mul_comm, Nat.mul_left_comm]
  have e2 : B * (A * C) = C * (A * B) := by simp only [Nat.mul_comm, Nat.mul_left_comm]
  rw [e1] at h1
  rw [e2] at h2
  refine Nat.le_of_mul_le_mul_left ?_ hC
  have e3 : C * (2 * (A * B)) = C * (A * B) + C * (A * B) := by rw [Nat.mul_left_comm]; omega
  rw [e3]
  omega
theorem abs3 {P Q R : Int} (h : P + Q + R = 0) : R.natAbs ≤ P.natAbs + Q.natAbs := by omega
theorem abs_sq (a : Int) (x : Nat) : (a * (x : Int) * (x : Int)).natAbs = a.natAbs * (x * x) := by rw [Int.natAbs_mul, Int.natAbs_mul, Int.natAbs_natCast, Nat.mul_assoc]

/-- what is found of three normal terms, multiplied -/
def vec3 (a b c : Int) (l : List Int) : List Int := [(nM a b c).a * l.getD 0 0, (nM a b c).b * l.getD 1 0, (nM a b c).c * l.getD 2 0]
structure Three (a b c : Int) (v : List Int) : Prop where
  three : ∃ x y z, v = [x, y, z]
  zero : valI [a, b, c] v 3 = 0
  small : ∀ u ∈ v, -60 ≤ u ∧ u ≤ 60
  some : ∃ u ∈ v, u ≠ 0
theorem vec3_ok {a b c : Int} (h : Ok3 a b c) {l : List Int} (hl : searchO (nT a b c) = some l) : Three a b c (vec3 a b c l) := by
  obtain ⟨x, y, z, rfl, hf⟩ := search_found hl
  have hn := h.nrm
  obtain ⟨m1, m2, m3, k1, k2, k3⟩ := hn.minv
  obtain ⟨ta, tb, tc⟩ := hn.nz
  have hz := hn.carry x y z hf.zero
  obtain ⟨t, ht⟩ : ∃ t, t = nT a b c := ⟨_, rfl⟩
  obtain ⟨m, hm⟩ : ∃ m, m = nM a b c := ⟨_, rfl⟩
  unfold vec3
  rw [← ht] at k1 k2 k3 ta tb tc hf
  rw [← hm] at m1 m2 m3 k1 k2 k3 hz ⊢
  have hx := hf.xle
  have hy := hf.yle
  rw [Int.natAbs_mul] at hx hy
  have hzz : z * z ≤ 2 * (t.a.natAbs * t.b.natAbs) := by
    refine z_sq (show 0 < t.c.natAbs by omega) ?_ hx hy
    have := abs3 hf.zero
    rwa [abs_sq, abs_sq, abs_sq] at this
  have ux := sq_small (n := 30) (mx_sq hx k1) (by decide)
  have uy := sq_small (n := 30) (mx_sq hy k2) (by decide)
  have uz : m.c.natAbs * z ≤ 42 := by
    have h1 : m.c.natAbs * m.c.natAbs * (2 * (t.a.natAbs * t.b.natAbs)) ≤ 1800 := by rw [Nat.mul_left_comm]; omega
    exact sq_small (n := 42) (mx_sq hzz h1) (by decide)
  have B : ∀ (k : Int) (u n : Nat), k.natAbs * u ≤ n → -(n : Int) ≤ k * (u : Int) ∧ k * (u : Int) ≤ (n : Int) := fun k u n hu => by
    have e : (k * (u : Int)).natAbs = k.natAbs * u := by rw [Int.natAbs_mul, Int.natAbs_natCast]
    omega
  have bx := B _ _ _ ux
  have by' := B _ _ _ uy
  have bz := B _ _ _ uz
  refine ⟨⟨_, _, _, rfl⟩, ?_, ?_, ?_⟩
  · rw [val3]; exact hz
  · intro u hu
    simp only [List.getD_cons_zero, List.getD_cons_succ, List.mem_cons, List.not_mem_nil, or_false] at hu
    rcases hu with rfl | rfl | rfl <;> omega
  · have hs := hf.some
    by_cases hx0 : x = 0
    · have hy0 : y ≠ 0 := fun e => hs ⟨hx0, e⟩
      exact ⟨m.b * (y : Int), by simp, Int.mul_ne_zero (by omega) (by omega)⟩
    · exact ⟨m.a * (x : Int), by simp, Int.mul_ne_zero (by omega) (by omega)⟩
theorem plain_small {n : Int} {vs : List Int} (hn : 0 ≤ n) (h : ∀ u ∈ vs, -n ≤ u ∧ u ≤ n) : ∀ u ∈ plainL vs, -n ≤ u ∧ u ≤ n := fun u hu => by
  unfold plainL at hu
  obtain ⟨v, hv, rfl⟩ := List.mem_map.1 hu
  have hb := h v hv
  have h1 : ((signL vs * v).tdiv (gcdL vs : Int)).natAbs ≤ v.natAbs := by
    rw [Int.natAbs_tdiv]
    refine Nat.le_trans (Nat.div_le_self _ _) ?_
    rcases signL_pm vs with e | e <;> rw [e] <;> omega
  omega
theorem plain_three {a b c : Int} {v : List Int} (h : Three a b c v) : Three a b c (plainL v) := by
  obtain ⟨⟨x, y, z, rfl⟩, h2, h3, h4⟩ := h
  refine ⟨⟨_, _, _, rfl⟩, ?_, plain_small (by decide) h3, plain_some h4⟩
  have e := plain_back [x, y, z]
  have h5 := val_scale [a, b, c] (signL [x, y, z] * (gcdL [x, y, z] : Int)) (plainL [x, y, z]) 3
  rw [e, h2] at h5
  have hs := sg_ne h4
  rcases Int.mul_eq_zero.1 h5.symm with h6 | h6
  · exact absurd h6 (Int.mul_ne_zero hs hs)
  · exact h6
def threeO (a b c : Int) : Option (List Int) := (searchO (nT a b c)).map (fun l => plainL (vec3 a b c l))
theorem threeO_ok {a b c : Int} (h : Ok3 a b c) {v : List Int} (hv : threeO a b c = some v) : Three a b c v ∧ plainL v = v := by
  unfold threeO at hv
  cases hs : searchO (nT a b c) with
  | none => rw [hs] at hv; cases hv
  | some l =>
    rw [hs] at hv
    cases hv
    have h1 := vec3_ok h hs
    exact ⟨plain_three h1, plain_plain h1.some⟩

/-- four terms: the value at two small integers -/
def vec4 (r x y : Int) (v : List Int) : List Int := [x * v.getD 2 0, y * v.getD 2 0, r * v.getD 0 0, r * v.getD 1 0]
def splitV (a b : Int) (x y : Nat) : Int := a * x * x + b * y * y
def splitO (a b c d : Int) (x y : Nat) : Option (List Int) :=
  if x = 0 ∧ y = 0 then none
  else if splitV a b x y = 0 then some (plainL [(x : Int), (y : Int), 0, 0])
  else if (coreG (splitV a b x y)).natAbs ≤ 30 then (threeO c d (coreG (splitV a b x y))).map (fun v => plainL (vec4 (rootG (splitV a b x y)) x y v))
  else none
def firstR {α : Type} (f : Nat → Option α) (N : Nat) : Option α := (List.range N).findSome? f
theorem firstR_none {α : Type} {f : Nat → Option α} {N : Nat} (h : ∀ i, i < N → f i = none) : firstR f N = none := by
  unfold firstR
  rw [List.findSome?_eq_none_iff]
  exact fun i hi => h i (List.mem_range.1 hi)
theorem firstR_some {α : Type} {f : Nat → Option α} {N k : Nat} {a : α} (h : ∀ i, i < k → f i = none) (hk : k < N) (ha : f k = some a) : firstR f N = some a := by
  unfold firstR
  rw [show N = k + (1 + (N - k - 1)) by omega, List.range_add, List.findSome?_append, List.findSome?_eq_none_iff.2 (fun i hi => h i (List.mem_range.1 hi)), Option.none_or, List.range_add, List.map_append, List.findSome?_append]
  simp [ha]
theorem firstR_mem {α : Type} {f : Nat → Option α} {N : Nat} {a : α} (h : firstR f N = some a) : ∃ k, k < N ∧ f k = some a := by
  unfold firstR at h
  obtain ⟨k, h1, hk⟩ := List.exists_of_findSome?_eq_some h
  exact ⟨k, List.mem_range.1 h1, hk⟩
def rowF (a b c d : Int) (x : Nat) : Option (List Int) := firstR (splitO a b c d x) 4
def fourO (a b c d : Int) : Option (List Int) := firstR (rowF a b c d) 4
theorem splitV_bd {a b : Int} {x y : Nat} (a1 : -30 ≤ a) (a2 : a ≤ 30) (b1 : -30 ≤ b) (b2 : b ≤ 30) (hx : x ≤ 3) (hy : y ≤ 3) : (-90 ≤ a * x ∧ a * x ≤ 90) ∧ (-270 ≤ a * x * x ∧ a * x * x ≤ 270) ∧ (-90 ≤ b * y ∧ b * y ≤ 90) ∧ (-270 ≤ b * y * y ∧ b * y * y ≤ 270) := by
  have B : ∀ (k : Int) (u : Nat), -30 ≤ k → k ≤ 30 → u ≤ 3 → (-90 ≤ k * (u : Int) ∧ k * (u : Int) ≤ 90) ∧ (-270 ≤ k * (u : Int) * (u : Int) ∧ k * (u : Int) * (u : Int) ≤ 270) := fun k u h1 h2 h3 => by
    have e1 : (k * (u : Int)).natAbs ≤ 30 * 3 := by rw [Int.natAbs_mul, Int.natAbs_natCast]; exact Nat.mul_le_mul (by omega) h3
    have e2 : (k * (u : Int) * (u : Int)).natAbs ≤ 30 * 3 * 3 := by rw [Int.natAbs_mul, Int.natAbs_natCast]; exact Nat.mul_le_mul e1 h3
    omega
  have h1 := B a x a1 a2 hx
  have h2 := B b y b1 b2 hy
  exact ⟨h1.1, h1.2, h2.1, h2.2⟩
theorem root_24 {t : Int} (h0 : t ≠ 0) (h1 : -540 ≤ t) (h2 : t ≤ 540) : 1 ≤ rootG t ∧ rootG t ≤ 23 := by
  obtain ⟨c0, e, _, _, r1⟩ := core_small h0
  refine ⟨r1, sq_small (n := 23) (N := 540) ?_ (by decide)⟩
  have := Nat.le_mul_of_pos_left (rootG t * rootG t) (show 0 < (coreG t).natAbs by omega)
  omega
/-- what a zero of four terms keeps -/
structure Four (a b c d : Int) (v : List Int) : Prop where
  four : ∃ x y z u, v = [x, y, z, u]
  zero : valI [a, b, c, d] v 4 = 0
  small : ∀ u ∈ v, -2000 ≤ u ∧ u ≤ 2000
  some : ∃ u ∈ v, u ≠ 0
theorem plain_four {a b c d : Int} {v : List Int} (h : Four a b c d v) : Four a b c d (plainL v) := by
  obtain ⟨⟨x, y, z, u, rfl⟩, h2, h3, h4⟩ := h
  refine ⟨⟨_, _, _, _, rfl⟩, ?_, plain_small (by decide) h3, plain_some h4⟩
  have e := plain_back [x, y, z, u]
  have h5 := val_scale [a, b, c, d] (signL [x, y, z, u] * (gcdL [x, y, z, u] : Int)) (plainL [x, y, z, u]) 4
  rw [e, h2] at h5
  have hs := sg_ne h4
  rcases Int.mul_eq_zero.1 h5.symm with h6 | h6
  · exact absurd h6 (Int.mul_ne_zero hs hs)
  · exact h6
theorem axis_four {a b c d : Int} {x y : Nat} (hx : x ≤ 3) (hy : y ≤ 3) (h0 : ¬ (x = 0 ∧ y = 0)) (hz : splitV a b x y = 0) : Four a b c d [(x : Int), (y : Int), 0, 0] := by
  refine ⟨⟨_, _, _, _, rfl⟩, ?_, ?_, ?_⟩
  · rw [val4]; unfold splitV at hz; rw [hz]; simp
  · intro u hu
    simp only [List.mem_cons, List.not_mem_nil, or_false] at hu
    omega
  · by_cases hx0 : x = 0
    · exact ⟨(y : Int), by simp, fun e => h0 ⟨hx0, by omega⟩⟩
    · exact ⟨(x : Int), by simp, by omega⟩
theorem vec4_ok {a b c d : Int} {x y : Nat} {v : List Int} (hx : x ≤ 3) (hy : y ≤ 3) (h0 : ¬ (x = 0 ∧ y = 0)) (ht0 : splitV a b x y ≠ 0) (ht1 : -540 ≤ splitV a b x y) (ht2 : splitV a b x y ≤ 540) (h : Three c d (coreG (splitV a b x y)) v) : Four a b c d (vec4 (rootG (splitV a b x y)) x y v) := by
  obtain ⟨⟨p, q, s, rfl⟩, h2, h3, h4⟩ := h
  obtain ⟨r1, r2⟩ := root_24 ht0 ht1 ht2
  have ec := (core_is ht0).eq
  obtain ⟨r, hr⟩ : ∃ r, r = rootG (splitV a b x y) := ⟨_, rfl⟩
  obtain ⟨k, hk⟩ : ∃ k, k = coreG (splitV a b x y) := ⟨_, rfl⟩
  rw [← hr] at r1 r2 ec ⊢
  rw [← hk] at ec h2
  have hp := h3 p (by simp)
  have hq := h3 q (by simp)
  have hs := h3 s (by simp)
  have B : ∀ (u : Nat) (n : Int), u ≤ 23 → -60 ≤ n → n ≤ 60 → -2000 ≤ (u : Int) * n ∧ (u : Int) * n ≤ 2000 := fun u n hu h1 h2 => by
    have : ((u : Int) * n).natAbs ≤ 23 * 60 := by rw [Int.natAbs_mul, Int.natAbs_natCast]; exact Nat.mul_le_mul hu (by omega)
    omega
  refine ⟨⟨_, _, _, _, rfl⟩, ?_, ?_, ?_⟩
  · rw [val3] at h2
    show valI [a, b, c, d] [(x : Int) * s, (y : Int) * s, (r : Int) * p, (r : Int) * q] 4 = 0
    rw [val4]
    unfold splitV at ec
    have e : a * ((x : Int) * s) * ((x : Int) * s) + b * ((y : Int) * s) * ((y : Int) * s) + c * ((r : Int) * p) * ((r : Int) * p) + d * ((r : Int) * q) * ((r : Int) * q) = (a * x * x + b * y * y) * (s * s) + (r : Int) * r * (c * p * p + d * q * q) := by
      simp only [Int.mul_add, Int.add_mul, Int.mul_assoc, Int.mul_comm, Int.mul_left_comm]
      omega
    rw [e, ← ec]
    have e3 : k * ((r : Int) * r) * (s * s) = (r : Int) * r * (k * s * s) := by simp only [Int.mul_assoc, Int.mul_comm, Int.mul_left_comm]
    have e2 : k * ((r : Int) * r) * (s * s) + (r : Int) * r * (c * p * p + d * q * q) = (r : Int) * r * (c * p * p + d * q * q + k * s * s) := by
      rw [e3, Int.mul_add _ _ (k * s * s), Int.add_comm]
    rw [e2, h2, Int.mul_zero]
  · intro u hu
    have g1 := B x s (by omega) hs.1 hs.2
    have g2 := B y s (by omega) hs.1 hs.2
    have g3 := B r p r2 hp.1 hp.2
    have g4 := B r q r2 hq.1 hq.2
    have hu : u ∈ [(x : Int) * s, (y : Int) * s, (r : Int) * p, (r : Int) * q] := hu
    simp only [List.mem_cons, List.not_mem_nil, or_false] at hu
    rcases hu with rfl | rfl | rfl | rfl
    · exact g1
    · exact g2
    · exact g3
    · exact g4
  · show ∃ u ∈ [(x : Int) * s, (y : Int) * s, (r : Int) * p, (r : Int) * q], u ≠ 0
    by_cases hs0 : s = 0
    · obtain ⟨u, hu, hu0⟩ := h4
      simp only [List.mem_cons, List.not_mem_nil, or_false] at hu
      rcases hu with rfl | rfl | rfl
      · exact ⟨(r : Int) * u, by simp, Int.mul_ne_zero (by omega) hu0⟩
      · exact ⟨(r : Int) * u, by simp, Int.mul_ne_zero (by omega) hu0⟩
      · exact absurd hs0 hu0
    · by_cases hx0 : x = 0
      · exact ⟨(y : Int) * s, by simp, Int.mul_ne_zero (fun e => h0 ⟨hx0, by omega⟩) hs0⟩
      · exact ⟨(x : Int) * s, by simp, Int.mul_ne_zero (by omega) hs0⟩
structure Ok4 (a b c d : Int) : Prop where
  a0 : a ≠ 0
  b0 : b ≠ 0
  c0 : c ≠ 0
  d0 : d ≠ 0
  a1 : -30 ≤ a
  a2 : a ≤ 30
  b1 : -30 ≤ b
  b2 : b ≤ 30
  c1 : -30 ≤ c
  c2 : c ≤ 30
  d1 : -30 ≤ d
  d2 : d ≤ 30
theorem ok4_of {a b c d : Int} (h : fvB [a, b, c, d] = true) : Ok4 a b c d := by
  have h1 := (fvB_iff.1 h).1
  have ha := h1 a (by simp)
  have hb := h1 b (by simp)
  have hc := h1 c (by simp)
  have hd := h1 d (by simp)
  exact ⟨ha.1, hb.1, hc.1, hd.1, ha.2.1, ha.2.2, hb.2.1, hb.2.2, hc.2.1, hc.2.2, hd.2.1, hd.2.2⟩
theorem Ok4.ok3 {a b c d t : Int} (h : Ok4 a b c d) (h0 : t ≠ 0) (ht : (coreG t).natAbs ≤ 30) : Ok3 c d (coreG t) :=
  ⟨h.c0, h.d0, (core_small h0).1, h.c1, h.c2, h.d1, h.d2, by omega, by omega⟩
theorem splitO_ok {a b c d : Int} {x y : Nat} (h : Ok4 a b c d) (hx : x ≤ 3) (hy : y ≤ 3) {v : List Int} (hv : splitO a b c d x y = some v) : Four a b c d v ∧ plainL v = v := by
  unfold splitO at hv
  by_cases h0 : x = 0 ∧ y = 0
  · rw [if_pos h0] at hv; cases hv
  · rw [if_neg h0] at hv
    have hb := splitV_bd h.a1 h.a2 h.b1 h.b2 hx hy
    have t1 : -540 ≤ splitV a b x y := by unfold splitV; omega
    have t2 : splitV a b x y ≤ 540 := by unfold splitV; omega
    by_cases hz : splitV a b x y = 0
    · rw [if_pos hz] at hv
      cases hv
      have h1 := axis_four (c := c) (d := d) hx hy h0 hz
      exact ⟨plain_four h1, plain_plain h1.some⟩
    · rw [if_neg hz] at hv
      by_cases hc : (coreG (splitV a b x y)).natAbs ≤ 30
      · rw [if_pos hc] at hv
        cases h3 : threeO c d (coreG (splitV a b x y)) with
        | none => rw [h3] at hv; cases hv
        | some l =>
          rw [h3] at hv
          cases hv
          have h4 := vec4_ok hx hy h0 hz t1 t2 (threeO_ok (h.ok3 hz hc) h3).1
          exact ⟨plain_four h4, plain_plain h4.some⟩
      · rw [if_neg hc] at hv; cases hv
theorem fourO_ok {a b c d : Int} (h : Ok4 a b c d) {v : List Int} (hv : fourO a b c d = some v) : Four a b c d v ∧ plainL v = v := by
  obtain ⟨x, hx, h1⟩ := firstR_mem hv
  obtain ⟨y, hy, h2⟩ := firstR_mem h1
  exact splitO_ok h (by omega) (by omega) h2

/-- what ZeroFind answers -/
def twoO (a b : Int) : Option (List Int) := if coreG a + coreG b = 0 then some (plainL [(rootG b : Int), (rootG a : Int)]) else none
def findL : List Int → Option (List Int)
  | [a, b] => twoO a b
  | [a, b, c] => threeO a b c
  | [a, b, c, d] => fourO a b c d
  | _ => none
def zfindO (xs : List Int) : Option (List Int) := if fvB xs then findL xs else none
theorem two_zero {a b : Int} (ha : a ≠ 0) (hb : b ≠ 0) (h : coreG a + coreG b = 0) : a * (rootG b : Int) * (rootG b : Int) + b * (rootG a : Int) * (rootG a : Int) = 0 := by
  have ea := (core_is ha).eq
  have eb := (core_is hb).eq
  obtain ⟨r, hr⟩ : ∃ r : Int, r = rootG a := ⟨_, rfl⟩
  obtain ⟨s, hs⟩ : ∃ s : Int, s = rootG b := ⟨_, rfl⟩
  obtain ⟨A, hA⟩ : ∃ A, A = coreG a := ⟨_, rfl⟩
  rw [show coreG b = -A by omega] at eb
  rw [← hr] at ea ⊢
  rw [← hs] at eb ⊢
  rw [← hA] at ea
  rw [← ea, ← eb]
  simp only [Int.mul_comm, Int.mul_left_comm, Int.mul_neg]
  omega
theorem root_30 {x : Int} (h0 : x ≠ 0) (h1 : -30 ≤ x) (h2 : x ≤ 30) : 1 ≤ rootG x ∧ rootG x ≤ 5 := by
  obtain ⟨c0, e, _, _, r1⟩ := core_small h0
  refine ⟨r1, sq_small (n := 5) (N := 30) ?_ (by decide)⟩
  have := Nat.le_mul_of_pos_left (rootG x * rootG x) (show 0 < (coreG x).natAbs by omega)
  omega
/-- what is found: a zero, a plain one, of small integers -/
structure Got (xs v : List Int) : Prop where
  zero : zeroB xs v = true
  plain : plainL v = v
  small : ∀ u ∈ v, -2000 ≤ u ∧ u ≤ 2000
theorem got_of {xs v : List Int} (hf : fvB xs = true) (hl : v.length = xs.length) (hz : valI xs v xs.length = 0) (hs : ∃ u ∈ v, u ≠ 0) (hb : ∀ u ∈ v, -2000 ≤ u ∧ u ≤ 2000) (hp : plainL v = v) : Got xs v :=
  ⟨zeroB_iff.2 ⟨fun u hu => by have := hb u hu; omega, hf, hl, hs, hz⟩, hp, hb⟩
theorem find_got {xs v : List Int} (h : zfindO xs = some v) : Got xs v := by
  unfold zfindO at h
  cases hf : fvB xs with
  | false => rw [hf] at h; cases h
  | true =>
    rw [hf, if_pos rfl] at h
    have hb := fvB_iff.1 hf
    have hc : xs.length = 1 ∨ xs.length = 2 ∨ xs.length = 3 ∨ xs.length = 4 := by omega
    rcases hc with e | e | e | e
    · obtain ⟨a, rfl⟩ := list_one e
      cases h
    · obtain ⟨a, b, rfl⟩ := list_two e
      have ha := hb.1 a (by simp)
      have hbb := hb.1 b (by simp)
      have h : twoO a b = some v := h
      unfold twoO at h
      by_cases h0 : coreG a + coreG b = 0
      · rw [if_pos h0] at h
        cases h
        obtain ⟨r1, r2⟩ := root_30 ha.1 ha.2.1 ha.2.2
        obtain ⟨s1, s2⟩ := root_30 hbb.1 hbb.2.1 hbb.2.2
        have hs : ∃ u ∈ [(rootG b : Int), (rootG a : Int)], u ≠ 0 := ⟨(rootG b : Int), by simp, by omega⟩
        have hz : zeroB [a, b] [(rootG b : Int), (rootG a : Int)] = true := zeroB_iff.2 ⟨fun u hu => by
          simp only [List.mem_cons, List.not_mem_nil, or_false] at hu
          omega, hf, rfl, hs, by show valI [a, b] [(rootG b : Int), (rootG a : Int)] 2 = 0; rw [val2]; exact two_zero ha.1 hbb.1 h0⟩
        exact ⟨plain_zero hz, plain_plain hs, plain_small (by decide) fun u hu => by
          simp only [List.mem_cons, List.not_mem_nil, or_false] at hu
          omega⟩
      · rw [if_neg h0] at h; cases h
    · obtain ⟨a, b, c, rfl⟩ := list_three e
      have h1 := threeO_ok (ok3_of hf) (show threeO a b c = some v from h)
      obtain ⟨⟨x, y, z, rfl⟩, h2, h3, h4⟩ := h1.1
      exact got_of hf rfl h2 h4 (fun u hu => by have := h3 u hu; omega) h1.2
    · obtain ⟨a, b, c, d, rfl⟩ := list_four e
      have h1 := fourO_ok (ok4_of hf) (show fourO a b c d = some v from h)
      obtain ⟨⟨x, y, z, w, rfl⟩, h2, h3, h4⟩ := h1.1
      exact got_of hf rfl h2 h4 h3 h1.2

end Go.Proofs.Ytbhlgdleklfonab

/-! Zlen -/
set_option linter.unusedVariables false
namespace Go.Proofs.Ytbhlgdleklfonab

theorem zpairF (xs vs ws : List Int) : ∃ (x : Int) (c : Bool), zpairV xs vs ws = .tuple #[.int .i64 x, .bool c] := by
  unfold zpairV
  cases zpairOk xs vs ws
  · exact ⟨_, _, rfl⟩
  · exact ⟨_, _, rfl⟩
theorem zplain_len (xs vs : List Int) : (zplainL xs vs).length ≤ 1000 := by
  unfold zplainL
  cases h : zeroB xs vs with
  | false => simp
  | true =>
    obtain ⟨_, h2, h3, _⟩ := zeroB_iff.1 h
    have := (fvB_iff.1 h2).2.2
    rw [if_pos rfl, plainL_len]
    omega
theorem zsearch_len (xs : List Int) : ((zsearchO xs).getD []).length ≤ 1000 := by
  unfold zsearchO
  split
  · cases h : searchO (T3.of xs) with
    | none => simp
    | some l =>
      obtain ⟨x, y, z, rfl, _⟩ := search_found h
      simp
  · simp
theorem zfind_len (xs : List Int) : ((zfindO xs).getD []).length ≤ 1000 := by
  cases h : zfindO xs with
  | none => simp
  | some v =>
    have hg := (zeroB_iff.1 (find_got h).zero)
    have := (fvB_iff.1 hg.2.1).2.2
    show v.length ≤ 1000
    omega

end Go.Proofs.Ytbhlgdleklfonab
