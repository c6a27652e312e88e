/-
  Some texts in one file: ZLeg Vals6 Zm2 Zm3.
-/
import Derived.Test.YtenibnblibnocacQZLegK
import Derived.Test.YtenibnblibnocacQZLegK2
import Derived.Test.YtenibnblibnocacQZLegK3
import Derived.Test.YtenibnblibnocacQZLegK4
import Derived.Test.YtenibnblibnocacQBun28
import Derived.Test.YtenibnblibnocacQBun18
/-! ZLeg -/
set_option linter.unusedVariables false
namespace Go.Proofs.Ytenibnblibnocac
open Go.RowKit

def T3.neg (t : T3) : T3 := ⟨-t.a, -t.b, -t.c⟩
theorem twoD_neg (a b c : Int) : twoD (-a) (-b) (-c) = twoD a b c ∧ twoK (-a) (-b) (-c) = twoK a b c := by
  unfold twoD twoK
  simp only [Int.gcd_neg, Int.neg_gcd, and_self]
theorem third_neg (c : Int) (p : Nat) : thirdI (-c) p = -thirdI c p := by
  unfold thirdI
  by_cases h : c % (p : Int) = 0
  · rw [if_pos h, if_pos (Int.emod_eq_zero_of_dvd (Int.dvd_neg.2 (Int.dvd_of_emod_eq_zero h))), Int.neg_tdiv]
  · rw [if_neg h, if_neg (fun e => h (Int.emod_eq_zero_of_dvd (Int.dvd_neg.1 (Int.dvd_of_emod_eq_zero e)))), Int.neg_mul]
theorem step_neg (t : T3) : stepI t.neg = (stepI t).neg := by
  obtain ⟨a, b, c⟩ := t
  unfold stepI T3.neg
  dsimp only
  rw [(twoD_neg a b c).1, (twoD_neg a b c).2]
  by_cases h2 : twoK a b c = 2
  · simp only [if_pos h2, third_neg, Int.neg_tdiv]
  · by_cases h1 : twoK a b c = 1
    · simp only [if_neg h2, if_pos h1, third_neg, Int.neg_tdiv]
    · simp only [if_neg h2, if_neg h1, third_neg, Int.neg_tdiv]
theorem norm_neg : ∀ (f : Nat) (t : T3), normT f t.neg = (normT f t).neg
  | 0, _ => rfl
  | f + 1, t => by
    unfold normT
    rw [show twoD t.neg.a t.neg.b t.neg.c = twoD t.a t.b t.c from (twoD_neg t.a t.b t.c).1]
    by_cases h : twoD t.a t.b t.c = 1
    · rw [if_pos h, if_pos h]
    · rw [if_neg h, if_neg h, step_neg, norm_neg f]

/-- a small zero -/
def Wit (t : T3) : Prop := ∃ x y z : Nat, t.a * x * x + t.b * y * y + t.c * z * z = 0 ∧ (x : Int) * x ≤ ((t.b * t.c).natAbs : Int) ∧ (y : Int) * y ≤ ((t.a * t.c).natAbs : Int) ∧ ¬ (x = 0 ∧ y = 0)
theorem wit_neg {t : T3} (h : Wit t.neg) : Wit t := by
  obtain ⟨x, y, z, h1, h2, h3, h4⟩ := h
  unfold T3.neg at h1 h2 h3
  dsimp only at h1 h2 h3
  refine ⟨x, y, z, ?_, by rwa [Int.neg_mul_neg] at h2, by rwa [Int.neg_mul_neg] at h3, h4⟩
  simp only [Int.neg_mul] at h1
  omega
theorem hitZ_wit {t : T3} {x y : Int} (h : hitZ t x y = true) : Wit t := by
  unfold hitZ at h
  simp only [Bool.and_eq_true, beq_iff_eq, decide_eq_true_eq, Bool.not_eq_true', Bool.and_eq_false_iff, beq_eq_false_iff_ne] at h
  obtain ⟨_, _, h1, h2, h3, h4⟩ := h
  have e : ∀ k v : Int, k * (v.natAbs : Int) * (v.natAbs : Int) = k * v * v := fun k v => by
    rw [Int.mul_assoc, Int.mul_assoc, ← Int.natCast_mul, Int.natAbs_mul_self]
  refine ⟨x.natAbs, y.natAbs, sqrtK ((-(t.a * x * x) - t.b * y * y).tdiv t.c).toNat, ?_, ?_, ?_, ?_⟩
  · rw [e, e]; exact h1
  · rw [← Int.natCast_mul, Int.natAbs_mul_self]; exact h2
  · rw [← Int.natCast_mul, Int.natAbs_mul_self]; exact h3
  · rintro ⟨a, b⟩
    rcases h4 with h | h <;> omega
theorem hitYs_wit {t : T3} {x : Int} : ∀ {k : Nat} {y : Int}, hitYs t x k y = true → Wit t
  | 0, _, h => by cases h
  | k + 1, y, h => by
    unfold hitYs at h
    rcases Bool.or_eq_true _ _ ▸ h with h | h
    · exact hitZ_wit h
    · exact hitYs_wit h
theorem hitXs_wit {t : T3} {ny : Nat} : ∀ {k : Nat} {x : Int}, hitXs t ny k x = true → Wit t
  | 0, _, h => by cases h
  | k + 1, x, h => by
    unfold hitXs at h
    rcases Bool.or_eq_true _ _ ▸ h with h | h
    · exact hitYs_wit h
    · exact hitXs_wit h

theorem van_real3 {t : T3} (h : (0 < t.a ∧ 0 < t.b ∧ 0 < t.c) ∨ (t.a < 0 ∧ t.b < 0 ∧ t.c < 0)) : vanT t 0 = false := by
  unfold vanT vanB
  rw [if_pos rfl]
  unfold lessN
  rcases h with ⟨h1, h2, h3⟩ | ⟨h1, h2, h3⟩
  · simp [show ¬ t.a < 0 by omega, show ¬ t.b < 0 by omega, show ¬ t.c < 0 by omega]
  · simp [h1, h2, h3]
theorem odd_pl : oddL.all (fun p => primeN p && decide (3 ≤ p)) = true := by decide +kernel
theorem lgT_ok {t : T3} (h : t.nz) (hk : lgT t = true) : (∃ q, plI q = true ∧ vanT t q = false) ∨ Wit t := by
  unfold lgT at hk
  simp only [Bool.or_eq_true, Bool.and_eq_true, decide_eq_true_eq] at hk
  rcases hk with ⟨h1, h2, h3⟩ | ⟨h1, h2, h3⟩ | hk | hk
  · exact .inl ⟨0, rfl, van_real3 (.inl ⟨h1, h2, h3⟩)⟩
  · exact .inl ⟨0, rfl, van_real3 (.inr ⟨h1, h2, h3⟩)⟩
  · obtain ⟨p, hp, hb⟩ := List.any_eq_true.1 hk
    have := List.all_eq_true.1 odd_pl p hp
    rw [Bool.and_eq_true, decide_eq_true_eq] at this
    exact .inl ⟨(p : Int), by unfold plI primeI; rw [Int.toNat_natCast, this.1, Bool.or_true], badP_van this.1 this.2 h hb⟩
  · exact .inr (hitXs_wit hk)

theorem free_tab : (List.range 31).all (fun k => decide (k = 0) || (decide (k % 4 = 0) || (decide (k % 9 = 0) || (decide (k % 25 = 0) || freeL.contains (k : Int))))) = true := by decide +kernel
theorem free_in {n : Nat} (h0 : n ≠ 0) (hb : n ≤ 30) (hf : SqFree n) : (n : Int) ∈ freeL := by
  have := List.all_eq_true.1 free_tab n (List.mem_range.2 (by omega))
  simp only [Bool.or_eq_true, decide_eq_true_eq] at this
  rcases this with h | h | h | h | h
  · exact absurd h h0
  · exact absurd (Nat.dvd_of_mod_eq_zero h) (hf 2 (by decide))
  · exact absurd (Nat.dvd_of_mod_eq_zero h) (hf 3 (by decide))
  · exact absurd (Nat.dvd_of_mod_eq_zero h) (hf 5 (by decide))
  · exact List.contains_iff_mem.1 h
theorem free2_in {n : Int} (h0 : n ≠ 0) (h1 : -30 ≤ n) (h2 : n ≤ 30) (hf : SqFree n.natAbs) : n ∈ free2 := by
  have h := free_in (n := n.natAbs) (by omega) (by omega) hf
  unfold free2
  rw [List.mem_append]
  rcases Int.le_total 0 n with hn | hn
  · left; rwa [Int.natAbs_of_nonneg hn] at h
  · right; exact List.mem_map.2 ⟨_, h, by rw [Int.ofNat_natAbs_of_nonpos hn, Int.neg_neg]⟩
theorem lgA_at {l : List Int} (h : lgA l = true) {a b c : Int} (ha : a ∈ l) (hb : b ∈ free2) (hc : c ∈ free2) : lgN ⟨a, b, c⟩ = true :=
  List.all_eq_true.1 (List.all_eq_true.1 (List.all_eq_true.1 h a ha) b hb) c hc
theorem lgN_pos {a b c : Int} (ha : a ∈ freeL) (hb : b ∈ free2) (hc : c ∈ free2) : lgN ⟨a, b, c⟩ = true := by
  have hm : a ∈ [1, 2, 3, 5, 6] ++ ([7, 10, 11, 13, 14] ++ ([15, 17, 19, 21, 22] ++ [23, 26, 29, 30])) := ha
  rcases List.mem_append.1 hm with h | h
  · exact lgA_at lgA_1 h hb hc
  · rcases List.mem_append.1 h with h | h
    · exact lgA_at lgA_2 h hb hc
    · rcases List.mem_append.1 h with h | h
      · exact lgA_at lgA_3 h hb hc
      · exact lgA_at lgA_4 h hb hc
def T3.small (t : T3) : Prop := ∀ x ∈ [t.a, t.b, t.c], x ≠ 0 ∧ -30 ≤ x ∧ x ≤ 30 ∧ SqFree x.natAbs
theorem T3.small.nz {t : T3} (h : t.small) : t.nz := ⟨(h _ (by simp)).1, (h _ (by simp)).1, (h _ (by simp)).1⟩
theorem leg_pos {t : T3} (h : t.small) (ha : 0 < t.a) : twoD (normT 20 t).a (normT 20 t).b (normT 20 t).c = 1 ∧ ((∃ q, plI q = true ∧ vanT t q = false) ∨ Wit (normT 20 t)) := by
  obtain ⟨a, b, c⟩ := t
  have h1 := h a (by simp)
  have h2 := h b (by simp)
  have h3 := h c (by simp)
  dsimp only at ha
  have hf := free_in (n := a.natAbs) (by omega) (by omega) h1.2.2.2
  rw [Int.natAbs_of_nonneg (by omega)] at hf
  have hk := lgN_pos hf (free2_in h2.1 h2.2.1 h2.2.2.1 h2.2.2.2) (free2_in h3.1 h3.2.1 h3.2.2.1 h3.2.2.2)
  unfold lgN at hk
  rw [Bool.and_eq_true, beq_iff_eq] at hk
  obtain ⟨n1, n2⟩ := norm_ok 20 h.nz
  refine ⟨hk.1, ?_⟩
  rcases lgT_ok n1 hk.2 with ⟨q, hq, hv⟩ | hw
  · exact .inl ⟨q, hq, by rw [← n2 q hq]; exact hv⟩
  · exact .inr hw
/-- THREE TERMS THAT VANISH EVERYWHERE HAVE A SMALL ZERO -/
theorem leg {t : T3} (h : t.small) : twoD (normT 20 t).a (normT 20 t).b (normT 20 t).c = 1 ∧ ((∃ q, plI q = true ∧ vanT t q = false) ∨ Wit (normT 20 t)) := by
  rcases Int.lt_or_gt_of_ne h.nz.1 with ha | ha
  · have hs : t.neg.small := fun x hx => by
      unfold T3.neg at hx
      simp only [List.mem_cons, List.not_mem_nil, or_false] at hx
      have g : ∀ y ∈ [t.a, t.b, t.c], -y ≠ 0 ∧ -30 ≤ -y ∧ -y ≤ 30 ∧ SqFree (-y).natAbs := fun y hy => by
        have := h y hy
        rw [Int.natAbs_neg]
        exact ⟨by omega, by omega, by omega, this.2.2.2⟩
      rcases hx with rfl | rfl | rfl <;> exact g _ (by simp)
    obtain ⟨h1, h2⟩ := leg_pos hs (show 0 < -t.a by omega)
    rw [norm_neg] at h1 h2
    refine ⟨by rw [← h1]; exact (twoD_neg _ _ _).1.symm, ?_⟩
    rcases h2 with ⟨q, hq, hv⟩ | hw
    · refine .inl ⟨q, hq, ?_⟩
      rw [← hv]
      obtain ⟨n1, n2, n3⟩ := h.nz
      have := van_scale hq (n := -1) (by decide) (nz3 n1 n2 n3) (by simp) (by simp)
      unfold vanT T3.neg
      rw [← this]
      show vanB [-1 * t.a, -1 * t.b, -1 * t.c] q = _
      rw [Int.neg_one_mul, Int.neg_one_mul, Int.neg_one_mul]
    · exact .inr (wit_neg hw)
  · exact leg_pos h ha

end Go.Proofs.Ytenibnblibnocac

/-! Vals6 -/
set_option linter.unusedVariables false
namespace Go.Proofs.Ytenibnblibnocac
open Go.RowKit

theorem core_small {x : Int} (h0 : x ≠ 0) : coreG x ≠ 0 ∧ (coreG x).natAbs * (rootG x * rootG x) = x.natAbs ∧ (coreG x).natAbs ≤ x.natAbs ∧ SqFree (coreG x).natAbs ∧ 1 ≤ rootG x := by
  have h := core_is h0
  have e : (coreG x).natAbs * (rootG x * rootG x) = x.natAbs := by
    conv => rhs; rw [← h.eq]
    rw [Int.natAbs_mul, Int.natAbs_mul, Int.natAbs_natCast]
  refine ⟨h.ne h0, e, ?_, h.free, h.pos⟩
  rw [← e]
  exact Nat.le_mul_of_pos_right _ (Nat.mul_pos h.pos h.pos)
theorem root_free {c : Int} (h0 : c ≠ 0) (h : SqFree c.natAbs) : rootG c = 1 ∧ coreG c = c := by
  have hi : IsCore c 1 c := ⟨by rw [Int.natCast_one, Int.mul_one, Int.mul_one], Nat.le_refl _, h⟩
  have := core_eq h0 hi
  exact ⟨this.2, this.1⟩
theorem free_root {c : Int} (h0 : c ≠ 0) (h : rootG c = 1) : SqFree c.natAbs := by
  have h1 := core_is h0
  have e := h1.eq
  rw [h] at e
  have e2 : coreG c = c := by simpa using e
  have := h1.free
  rwa [e2] at this

/-- three terms and three factors, as the first step leaves them -/
def coreT (a b c : Int) : T3 := ⟨coreG a, coreG b, coreG c⟩
def rootM (a b c : Int) : T3 := ⟨(rootG b : Int) * rootG c, (rootG a : Int) * rootG c, (rootG a : Int) * rootG b⟩
def nT (a b c : Int) : T3 := normT 20 (coreT a b c)
def nM (a b c : Int) : T3 := normM 20 (coreT a b c) (rootM a b c)
def T3.toL (t : T3) : List Int := [t.a, t.b, t.c]
structure Ok3 (a b c : Int) : Prop where
  a0 : a ≠ 0
  b0 : b ≠ 0
  c0 : c ≠ 0
  a1 : -30 ≤ a
  a2 : a ≤ 30
  b1 : -30 ≤ b
  b2 : b ≤ 30
  c1 : -30 ≤ c
  c2 : c ≤ 30
theorem ok3_of {a b c : Int} (h : fvB [a, b, c] = true) : Ok3 a b c := by
  have h1 := (fvB_iff.1 h).1
  have ha := h1 a (by simp)
  have hb := h1 b (by simp)
  have hc := h1 c (by simp)
  exact ⟨ha.1, hb.1, hc.1, ha.2.1, ha.2.2, hb.2.1, hb.2.2, hc.2.1, hc.2.2⟩
theorem ok3_fv {a b c : Int} (h : Ok3 a b c) : fvB [a, b, c] = true := by
  refine fvB_iff.2 ⟨fun x hx => ?_, by simp, by simp⟩
  simp only [List.mem_cons, List.not_mem_nil, or_false] at hx
  rcases hx with rfl | rfl | rfl
  · exact ⟨h.a0, h.a1, h.a2⟩
  · exact ⟨h.b0, h.b1, h.b2⟩
  · exact ⟨h.c0, h.c1, h.c2⟩
theorem Ok3.small {a b c : Int} (h : Ok3 a b c) : (coreT a b c).small := by
  have S : ∀ x : Int, x ≠ 0 → -30 ≤ x → x ≤ 30 → coreG x ≠ 0 ∧ -30 ≤ coreG x ∧ coreG x ≤ 30 ∧ SqFree (coreG x).natAbs := fun x h0 h1 h2 => by
    obtain ⟨k0, _, k2, k3, _⟩ := core_small h0
    exact ⟨k0, by omega, by omega, k3⟩
  intro x hx
  unfold coreT at hx
  simp only [List.mem_cons, List.not_mem_nil, or_false] at hx
  rcases hx with rfl | rfl | rfl
  · exact S _ h.a0 h.a1 h.a2
  · exact S _ h.b0 h.b1 h.b2
  · exact S _ h.c0 h.c1 h.c2
theorem Ok3.free {a b c : Int} (h : Ok3 a b c) : (coreT a b c).free := ⟨(core_small h.a0).2.2.2.1, (core_small h.b0).2.2.2.1, (core_small h.c0).2.2.2.1⟩
theorem prod3_le {a b c n : Nat} (ha : a ≤ n) (hb : b ≤ n) (hc : c ≤ n) : a * b * c ≤ n * n * n := Nat.mul_le_mul (Nat.mul_le_mul ha hb) hc
theorem Ok3.prod {a b c : Int} (h : Ok3 a b c) : (coreT a b c).prod ≤ a.natAbs * b.natAbs * c.natAbs ∧ a.natAbs * b.natAbs * c.natAbs ≤ 27000 := by
  refine ⟨?_, ?_⟩
  · exact Nat.mul_le_mul (Nat.mul_le_mul (core_small h.a0).2.2.1 (core_small h.b0).2.2.1) (core_small h.c0).2.2.1
  · have := h.a1; have := h.a2; have := h.b1; have := h.b2; have := h.c1; have := h.c2
    exact prod3_le (n := 30) (by omega) (by omega) (by omega)
theorem mm_id (x y u v : Nat) : x * y * (x * y) * (u * v) = (u * (x * x)) * (v * (y * y)) := by
  simp only [Nat.mul_comm, Nat.mul_left_comm]
theorem Ok3.minv {a b c : Int} (h : Ok3 a b c) : MInv 900 (coreT a b c) (rootM a b c) := by
  obtain ⟨_, ea, _, _, pa⟩ := core_small h.a0
  obtain ⟨_, eb, _, _, pb⟩ := core_small h.b0
  obtain ⟨_, ec, _, _, pc⟩ := core_small h.c0
  have := h.a1; have := h.a2; have := h.b1; have := h.b2; have := h.c1; have := h.c2
  have one : ∀ m n : Nat, 1 ≤ m → 1 ≤ n → 1 ≤ (m : Int) * n := fun m n hm hn => by
    have := Nat.mul_le_mul hm hn
    have e : (m : Int) * n = ((m * n : Nat) : Int) := by push_cast; rfl
    rw [e]; omega
  have K : ∀ (m n u v x y : Nat), u * (m * m) = x → v * (n * n) = y → x ≤ 30 → y ≤ 30 → ((m : Int) * n).natAbs * ((m : Int) * n).natAbs * (u * v) ≤ 900 := fun m n u v x y hx hy h1 h2 => by
    rw [Int.natAbs_mul, Int.natAbs_natCast, Int.natAbs_natCast, mm_id, hx, hy]
    exact Nat.mul_le_mul h1 h2
  refine ⟨one _ _ pb pc, one _ _ pa pc, one _ _ pa pb, K _ _ _ _ _ _ eb ec (by omega) (by omega), K _ _ _ _ _ _ ea ec (by omega) (by omega), K _ _ _ _ _ _ ea eb (by omega) (by omega)⟩
theorem Ok3.carry {a b c : Int} (h : Ok3 a b c) : Carry ⟨a, b, c⟩ (coreT a b c) (rootM a b c) := fun x y z hz => by
  have ea := (core_is h.a0).eq
  have eb := (core_is h.b0).eq
  have ec := (core_is h.c0).eq
  unfold Zero3 at hz ⊢
  unfold coreT at hz
  unfold rootM
  obtain ⟨A, hA⟩ : ∃ A, A = coreG a := ⟨_, rfl⟩
  obtain ⟨B, hB⟩ : ∃ B, B = coreG b := ⟨_, rfl⟩
  obtain ⟨C, hC⟩ : ∃ C, C = coreG c := ⟨_, rfl⟩
  obtain ⟨r, hr⟩ : ∃ r : Int, r = rootG a := ⟨_, rfl⟩
  obtain ⟨s, hs⟩ : ∃ s : Int, s = rootG b := ⟨_, rfl⟩
  obtain ⟨t, ht⟩ : ∃ t : Int, t = rootG c := ⟨_, rfl⟩
  dsimp only at hz ⊢
  rw [← hA] at ea hz
  rw [← hB] at eb hz
  rw [← hC] at ec hz
  rw [← hr] at ea ⊢
  rw [← hs] at eb ⊢
  rw [← ht] at ec ⊢
  rw [← ea, ← eb, ← ec]
  have e : A * (r * r) * (s * t * x) * (s * t * x) + B * (s * s) * (r * t * y) * (r * t * y) + C * (t * t) * (r * s * z) * (r * s * z) = (r * r * (s * s) * (t * t)) * (A * x * x + B * y * y + C * z * z) := by
    simp only [Int.mul_add, Int.mul_comm, Int.mul_left_comm]
  rw [e, hz, Int.mul_zero]

/-- what normal terms are -/
structure Nrm (a b c : Int) : Prop where
  nz : (nT a b c).nz
  two : twoD (nT a b c).a (nT a b c).b (nT a b c).c = 1
  free : (nT a b c).free
  prod : (nT a b c).prod ≤ a.natAbs * b.natAbs * c.natAbs
  lim : (nT a b c).prod ≤ 27000
  minv : MInv 900 (nT a b c) (nM a b c)
  carry : Carry ⟨a, b, c⟩ (nT a b c) (nM a b c)
theorem Ok3.nrm {a b c : Int} (h : Ok3 a b c) : Nrm a b c := by
  have hp := norm_prod 20 (coreT a b c)
  have h1 := h.prod
  exact ⟨(norm_ok 20 h.small.nz).1, (leg h.small).1, norm_free 20 h.free, Nat.le_trans hp h1.1, Nat.le_trans hp (Nat.le_trans h1.1 h1.2), norm_minv 20 h.minv, norm_carry 20 h.carry⟩

/-- a root, if there is one -/
def rootO (n : Int) : Option Nat := if n < 0 then none else (List.range (n.toNat + 1)).find? (fun z : Nat => decide ((z : Int) * z = n))
theorem sq_inj {x y : Nat} (h : (x : Int) * x = (y : Int) * y) : x = y := by
  have h2 : x * x = y * y := by exact_mod_cast h
  rcases Nat.lt_trichotomy x y with h1 | h1 | h1
  · have := Nat.mul_lt_mul_of_lt_of_le h1 (Nat.le_of_lt h1) (by omega); omega
  · exact h1
  · have := Nat.mul_lt_mul_of_lt_of_le h1 (Nat.le_of_lt h1) (by omega); omega
theorem rootO_of {n : Int} {z : Nat} (h : (z : Int) * z = n) : rootO n = some z := by
  have hn : ¬ n < 0 := by have := Int.mul_nonneg (Int.natCast_nonneg z) (Int.natCast_nonneg z); omega
  unfold rootO
  rw [if_neg hn]
  have hz : z < n.toNat + 1 := by
    have h1 : z ≤ z * z := by
      rcases Nat.eq_zero_or_pos z with e | e
      · rw [e]; exact Nat.zero_le _
      · exact Nat.le_mul_of_pos_left _ e
    have h2 : ((z * z : Nat) : Int) = n := by push_cast; exact h
    omega
  cases hf : (List.range (n.toNat + 1)).find? (fun z : Nat => decide ((z : Int) * z = n)) with
  | none =>
    have := List.find?_eq_none.1 hf z (List.mem_range.2 hz)
    rw [decide_eq_true h] at this
    exact absurd rfl this
  | some y =>
    have := List.find?_some hf
    rw [decide_eq_true_eq] at this
    rw [sq_inj (this.trans h.symm)]
theorem rootO_some {n : Int} {z : Nat} (h : rootO n = some z) : (z : Int) * z = n := by
  unfold rootO at h
  by_cases hn : n < 0
  · rw [if_pos hn] at h; cases h
  · rw [if_neg hn] at h
    have := List.find?_some h
    rwa [decide_eq_true_eq] at this
theorem rootO_none {n : Int} (h : ∀ z : Nat, (z : Int) * z ≠ n) : rootO n = none := by
  cases hr : rootO n with
  | none => rfl
  | some z => exact absurd (rootO_some hr) (h z)

/-- the search -/
def topI (t : T3) (x y : Nat) : Int := 0 - t.a * x * x - t.b * y * y
def hitO (t : T3) (x y : Nat) : Option (List Int) := if x = 0 ∧ y = 0 then none else if topI t x y % t.c = 0 then (rootO ((topI t x y).tdiv t.c)).map (fun z => [(x : Int), (y : Int), (z : Int)]) else none
def firstO {α : Type} (f : Nat → Option α) (N : Nat) : Option α := (List.range (N + 1)).findSome? (fun i => if i * i ≤ N then f i else none)
theorem first_none {α : Type} {f : Nat → Option α} {N k : Nat} (h : ∀ i, i < k → f i = none) (hk : ¬ k * k ≤ N) : firstO f N = none := by
  unfold firstO
  rw [List.findSome?_eq_none_iff]
  intro i _
  by_cases hi : i * i ≤ N
  · rw [if_pos hi]
    refine h i ?_
    rcases Nat.lt_or_ge i k with h1 | h1
    · exact h1
    · have := Nat.mul_le_mul h1 h1; omega
  · rw [if_neg hi]
theorem first_some {α : Type} {f : Nat → Option α} {N k : Nat} {a : α} (h : ∀ i, i < k → f i = none) (hk : k * k ≤ N) (ha : f k = some a) : firstO f N = some a := by
  have hkN : k ≤ N := by
    rcases Nat.eq_zero_or_pos k with e | e
    · omega
    · have := Nat.le_mul_of_pos_left k e; omega
  unfold firstO
  rw [show N + 1 = k + (1 + (N - k)) by omega, List.range_add, List.findSome?_append, List.findSome?_eq_none_iff.2 (fun i hi => by rw [h i (List.mem_range.1 hi), ite_self]), Option.none_or, List.range_add, List.map_append, List.findSome?_append]
  simp [hk, ha]
theorem first_mem {α : Type} {f : Nat → Option α} {N : Nat} {a : α} (h : firstO f N = some a) : ∃ k, k * k ≤ N ∧ f k = some a := by
  unfold firstO at h
  obtain ⟨k, _, hk⟩ := List.exists_of_findSome?_eq_some h
  by_cases h1 : k * k ≤ N
  · rw [if_pos h1] at hk; exact ⟨k, h1, hk⟩
  · rw [if_neg h1] at hk; cases hk
theorem first_there {α : Type} {f : Nat → Option α} {N k : Nat} {a : α} (hk : k * k ≤ N) (ha : f k = some a) : ∃ b, firstO f N = some b := by
  cases hf : firstO f N with
  | some b => exact ⟨b, rfl⟩
  | none =>
    unfold firstO at hf
    have hkN : k ≤ N := by
      rcases Nat.eq_zero_or_pos k with e | e
      · omega
      · have := Nat.le_mul_of_pos_left k e; omega
    have := List.findSome?_eq_none_iff.1 hf k (List.mem_range.2 (by omega))
    rw [if_pos hk, ha] at this
    cases this
def rowO (t : T3) (x : Nat) : Option (List Int) := firstO (hitO t x) (t.a * t.c).natAbs
def searchO (t : T3) : Option (List Int) := firstO (rowO t) (t.b * t.c).natAbs
/-- what it finds -/
structure Found (t : T3) (x y z : Nat) : Prop where
  zero : t.a * x * x + t.b * y * y + t.c * z * z = 0
  xle : x * x ≤ (t.b * t.c).natAbs
  yle : y * y ≤ (t.a * t.c).natAbs
  some : ¬ (x = 0 ∧ y = 0)
theorem hit_found {t : T3} {x y : Nat} {l : List Int} (h : hitO t x y = some l) : ∃ z : Nat, l = [(x : Int), (y : Int), (z : Int)] ∧ t.a * x * x + t.b * y * y + t.c * z * z = 0 ∧ ¬ (x = 0 ∧ y = 0) := by
  unfold hitO at h
  by_cases h0 : x = 0 ∧ y = 0
  · rw [if_pos h0] at h; cases h
  · rw [if_neg h0] at h
    by_cases hd : topI t x y % t.c = 0
    · rw [if_pos hd] at h
      cases hr : rootO ((topI t x y).tdiv t.c) with
      | none => rw [hr] at h; cases h
      | some z =>
        rw [hr] at h
        cases h
        refine ⟨z, rfl, ?_, h0⟩
        have h1 := rootO_some hr
        have h2 := Int.mul_tdiv_cancel' (Int.dvd_of_emod_eq_zero hd)
        rw [← h1] at h2
        unfold topI at h2
        rw [← Int.mul_assoc] at h2
        omega
    · rw [if_neg hd] at h; cases h
theorem search_found {t : T3} {l : List Int} (h : searchO t = some l) : ∃ x y z : Nat, l = [(x : Int), (y : Int), (z : Int)] ∧ Found t x y z := by
  obtain ⟨x, hx, h1⟩ := first_mem h
  obtain ⟨y, hy, h2⟩ := first_mem h1
  obtain ⟨z, hl, h3, h4⟩ := hit_found h2
  exact ⟨x, y, z, hl, h3, hx, hy, h4⟩
theorem found_search {t : T3} {x y z : Nat} (hc : t.c ≠ 0) (h : Found t x y z) : ∃ l, searchO t = some l := by
  have e : topI t x y = t.c * ((z : Int) * z) := by unfold topI; have := h.zero; rw [← Int.mul_assoc]; omega
  have hh : hitO t x y = some [(x : Int), (y : Int), (z : Int)] := by
    unfold hitO
    rw [if_neg h.some, if_pos (by rw [e]; exact Int.mul_emod_right _ _), e, Int.mul_tdiv_cancel_left _ hc, rootO_of rfl]
    rfl
  obtain ⟨l1, h1⟩ := first_there (f := hitO t x) h.yle hh
  exact first_there (f := rowO t) h.xle h1
theorem wit_search {t : T3} (hc : t.c ≠ 0) (h : Wit t) : ∃ l, searchO t = some l := by
  obtain ⟨x, y, z, h1, h2, h3, h4⟩ := h
  exact found_search hc ⟨h1, by exact_mod_cast h2, by exact_mod_cast h3, h4⟩

/-- are three terms normal and small? -/
def nrmB (xs : List Int) : Bool := decide (xs.length = 3) && (xs.all (fun x => !(x == 0) && (inR x (-30000) 30000 && decide (rootG x = 1))) && (decide ((prodI xs).natAbs ≤ 30000) && decide (twoD (xs.getD 0 0) (xs.getD 1 0) (xs.getD 2 0) = 1)))
def T3.of (xs : List Int) : T3 := ⟨xs.getD 0 0, xs.getD 1 0, xs.getD 2 0⟩
def zsearchO (xs : List Int) : Option (List Int) := if nrmB xs then searchO (T3.of xs) else none
theorem nrmB_iff {a b c : Int} : nrmB [a, b, c] = true ↔ (a ≠ 0 ∧ b ≠ 0 ∧ c ≠ 0) ∧ ((-30000 ≤ a ∧ a ≤ 30000) ∧ (-30000 ≤ b ∧ b ≤ 30000) ∧ (-30000 ≤ c ∧ c ≤ 30000)) ∧ (rootG a = 1 ∧ rootG b = 1 ∧ rootG c = 1) ∧ (a * b * c).natAbs ≤ 30000 ∧ twoD a b c = 1 := by
  have e : prodI [a, b, c] = a * b * c := by show a * (b * (c * 1)) = _; rw [Int.mul_one, Int.mul_assoc]
  unfold nrmB inR
  rw [e]
  simp only [List.length_cons, List.length_nil, List.all_cons, List.all_nil, Bool.and_true, List.getD_cons_zero, List.getD_cons_succ, Bool.and_eq_true, Bool.not_eq_true', beq_eq_false_iff_ne, decide_eq_true_eq]
  constructor
  · rintro ⟨_, ⟨⟨a0, ⟨a1, a2⟩, a3⟩, ⟨b0, ⟨b1, b2⟩, b3⟩, c0, ⟨c1, c2⟩, c3⟩, h1, h2⟩
    exact ⟨⟨a0, b0, c0⟩, ⟨⟨a1, a2⟩, ⟨b1, b2⟩, c1, c2⟩, ⟨a3, b3, c3⟩, h1, h2⟩
  · rintro ⟨⟨a0, b0, c0⟩, ⟨⟨a1, a2⟩, ⟨b1, b2⟩, c1, c2⟩, ⟨a3, b3, c3⟩, h1, h2⟩
    exact ⟨trivial, ⟨⟨a0, ⟨a1, a2⟩, a3⟩, ⟨b0, ⟨b1, b2⟩, b3⟩, c0, ⟨c1, c2⟩, c3⟩, h1, h2⟩
theorem nrm_len {xs : List Int} (h : xs.length ≠ 3) : nrmB xs = false := by unfold nrmB; rw [decide_eq_false h]; rfl
theorem T3.bd {t : T3} (h : t.nz) {N : Nat} (hp : t.prod ≤ N) : t.a.natAbs ≤ N ∧ t.b.natAbs ≤ N ∧ t.c.natAbs ≤ N ∧ (t.b * t.c).natAbs ≤ N ∧ (t.a * t.c).natAbs ≤ N ∧ (t.a * t.b).natAbs ≤ N := by
  obtain ⟨ha, hb, hc⟩ := h
  unfold T3.prod at hp
  have a1 : 1 ≤ t.a.natAbs := by omega
  have b1 : 1 ≤ t.b.natAbs := by omega
  have c1 : 1 ≤ t.c.natAbs := by omega
  rw [Int.natAbs_mul, Int.natAbs_mul, Int.natAbs_mul]
  have e1 : t.a.natAbs * t.b.natAbs * t.c.natAbs = t.a.natAbs * (t.b.natAbs * t.c.natAbs) := Nat.mul_assoc ..
  have e2 : t.a.natAbs * t.b.natAbs * t.c.natAbs = t.b.natAbs * (t.a.natAbs * t.c.natAbs) := by rw [Nat.mul_assoc, Nat.mul_left_comm]
  have m1 := Nat.le_mul_of_pos_left (t.b.natAbs * t.c.natAbs) a1
  have m2 := Nat.le_mul_of_pos_left (t.a.natAbs * t.c.natAbs) b1
  have m3 := Nat.le_mul_of_pos_right (t.a.natAbs * t.b.natAbs) c1
  have m4 := Nat.le_mul_of_pos_right t.b.natAbs c1
  have m5 := Nat.le_mul_of_pos_right t.a.natAbs c1
  have m6 := Nat.le_mul_of_pos_left t.c.natAbs b1
  omega
theorem Nrm.is {a b c : Int} (h : Nrm a b c) : nrmB (nT a b c).toL = true := by
  obtain ⟨ha, hb, hc⟩ := h.nz
  have hbd := T3.bd h.nz h.lim
  unfold T3.toL
  rw [nrmB_iff]
  refine ⟨⟨ha, hb, hc⟩, by omega, ⟨(root_free ha h.free.1).1, (root_free hb h.free.2.1).1, (root_free hc h.free.2.2).1⟩, ?_, h.two⟩
  rw [Int.natAbs_mul, Int.natAbs_mul]
  have := h.lim
  unfold T3.prod at this
  omega

end Go.Proofs.Ytenibnblibnocac

/-! Zm2 -/
set_option linter.unusedVariables false
namespace Go.Proofs.Ytenibnblibnocac
open Go.RowKit

theorem wrap5 : IntKind.i64.wrap 0 = 0 ∧ IntKind.i64.wrap 1 = 1 ∧ IntKind.i64.wrap 2 = 2 ∧ IntKind.i64.wrap 3 = 3 ∧ IntKind.i64.wrap 4 = 4 := by decide
/-- the cells of a list of three -/
theorem rd_three {w : World} {v : Value} {a b c : Int} (h : Rd w v [a, b, c]) : ∃ g o cap, v = .slice (some ⟨g, o, none⟩) 3 cap ∧ w.cell? ⟨g, o, none⟩ = some (.int .i64 a) ∧ w.cell? ⟨g, o + 1, none⟩ = some (.int .i64 b) ∧ w.cell? ⟨g, o + 2, none⟩ = some (.int .i64 c) := by
  obtain ⟨ad, cap, rfl, hform⟩ := h.form
  obtain ⟨g, o, rfl, _, hc⟩ := hform (by simp)
  exact ⟨g, o, cap, rfl, hc 0 (by simp), hc 1 (by simp), hc 2 (by simp)⟩
theorem lp_head {g : Nat} (h : 1 < g) : 0 < (natsI (plistG g)).length ∧ (natsI (plistG g)).getD 0 0 = ((lpG g : Nat) : Int) := by
  obtain ⟨_, h2⟩ := lpG_spec h
  unfold lpG at h2 ⊢
  cases hl : plistG g with
  | nil =>
    exfalso
    obtain ⟨s1, s2, s3⟩ := plistG_spec (show 0 < g by omega)
    obtain ⟨p1, p2⟩ := lpG_spec h
    have := s3 _ p1 p2
    rw [hl] at this
    cases this
  | cons x t => exact ⟨by simp [natsI], rfl⟩
theorem lp_bd {g : Nat} (h : 1 < g) : lpG g ≤ g := Nat.le_of_dvd (by omega) (lpG_spec h).2
theorem lp_two {g : Nat} (h : 1 < g) : 2 ≤ lpG g := (lpG_spec h).1.1
theorem gcd_le3 {a b : Int} (h0 : a ≠ 0) (h1 : -100000 ≤ a) (h2 : a ≤ 100000) : Nat.gcd a.natAbs b.natAbs ≤ 100000 :=
  Nat.le_trans (Nat.le_of_dvd (by omega) (Nat.gcd_dvd_left _ _)) (by omega)
/-- what tells two of three terms -/
def TwoDPost (a b c : Int) (w : World) (e : Ending) (w' : World) : Prop := e = .returned (.tuple #[.int .i64 (twoD a b c : Nat), .int .i64 (twoK a b c : Nat)]) ∧ Below w.heap.size w w'
set_option maxRecDepth 100000 in
set_option maxHeartbeats 4000000 in
theorem l5Two_any (v : Value) (a b c : Int) (a0 : a ≠ 0) (b0 : b ≠ 0) (c0 : c ≠ 0) (a1 : -100000 ≤ a) (a2 : a ≤ 100000) (b1 : -100000 ≤ b) (b2 : b ≤ 100000) (c1 : -100000 ≤ c) (c2 : c ≤ 100000) (w : World) (h : Rd w v [a, b, c]) :
    Calls Try.prog 62 #[v] w (TwoDPost a b c w) := by
  obtain ⟨g, o, cap, rfl, k0, k1, k2⟩ := rd_three h
  obtain ⟨wr0, wr1, wr2, wr3, wr4⟩ := wrap5
  have GA := hid (gcd_le3 (b := b) a0 a1 a2)
  have GB := hid (gcd_le3 (b := a) c0 c1 c2)
  have GC := hid (gcd_le3 (b := c) b0 b1 b2)
  have QG : Hid (∀ (x y : Int), -100000 ≤ x → x ≤ 100000 → -100000 ≤ y → y ≤ 100000 → ∀ (w : World) (n : Nat), Calls Try.prog 67 #[.int .i64 x, .int .i64 y] (w.drewN n) fun e w'' => e = .returned (.int .i64 (Nat.gcd x.natAbs y.natAbs : Nat)) ∧ ∃ m, w'' = w.drewN m) :=
    hid (fun x y x1 x2 y1 y2 w n => Calls.quiet_of_same ((l1Gcd_any x y (by omega) (by omega) (by omega) (by omega) _).mono fun _ _ h => ⟨h.1, h.2.symm⟩))
  have E1 : Hid (∀ G : Nat, G = Nat.gcd a.natAbs b.natAbs → 1 < G → twoD a b c = lpG G ∧ twoK a b c = 2) := hid (fun G hG h1 => by
    have e : Int.gcd a b = G := hG.symm
    unfold twoD twoK
    rw [e, if_pos h1, if_pos h1]
    exact ⟨rfl, rfl⟩)
  have E2 : Hid (∀ G : Nat, G = Nat.gcd c.natAbs a.natAbs → ¬ 1 < Nat.gcd a.natAbs b.natAbs → 1 < G → twoD a b c = lpG G ∧ twoK a b c = 1) := hid (fun G hG h0 h1 => by
    have e : Int.gcd c a = G := hG.symm
    have h0 : ¬ 1 < Int.gcd a b := h0
    unfold twoD twoK
    rw [if_neg h0, if_neg h0, e, if_pos h1, if_pos h1]
    exact ⟨rfl, rfl⟩)
  have E3 : Hid (∀ G : Nat, G = Nat.gcd b.natAbs c.natAbs → ¬ 1 < Nat.gcd a.natAbs b.natAbs → ¬ 1 < Nat.gcd c.natAbs a.natAbs → 1 < G → twoD a b c = lpG G ∧ twoK a b c = 0) := hid (fun G hG h0 h2 h1 => by
    have e : Int.gcd b c = G := hG.symm
    have h0 : ¬ 1 < Int.gcd a b := h0
    have h2 : ¬ 1 < Int.gcd c a := h2
    unfold twoD twoK
    rw [if_neg h0, if_neg h0, if_neg h2, if_neg h2, e, if_pos h1]
    exact ⟨rfl, rfl⟩)
  have E4 : Hid (¬ 1 < Nat.gcd a.natAbs b.natAbs → ¬ 1 < Nat.gcd c.natAbs a.natAbs → ¬ 1 < Nat.gcd b.natAbs c.natAbs → twoD a b c = 1 ∧ twoK a b c = 0) := hid (fun h0 h1 h2 => by
    have h0 : ¬ 1 < Int.gcd a b := h0
    have h1 : ¬ 1 < Int.gcd c a := h1
    have h2 : ¬ 1 < Int.gcd b c := h2
    unfold twoD twoK
    exact ⟨by rw [if_neg h0, if_neg h1, if_neg h2], by rw [if_neg h0, if_neg h1]⟩)
  clear h a0 b0 c0
  go_enter Try.func62, Try.ntmps62
  go_wp2_with fail
  go_loopw [4] (fun st wr => ∃ (T : Int), st = .int .i64 T ∧ Hid (∃ k, wr = w.drewN k) ∧ (T = 2 ∨ (T = 1 ∧ Hid (¬ 1 < Nat.gcd a.natAbs b.natAbs)) ∨ (T = 0 ∧ Hid (¬ 1 < Nat.gcd a.natAbs b.natAbs) ∧ Hid (¬ 1 < Nat.gcd c.natAbs a.natAbs)) ∨ (T = -1 ∧ Hid (¬ 1 < Nat.gcd a.natAbs b.natAbs) ∧ Hid (¬ 1 < Nat.gcd c.natAbs a.natAbs) ∧ Hid (¬ 1 < Nat.gcd b.natAbs c.natAbs)))) (fun st _ => (intOf st + 1).toNat)
  case atStart => exact ⟨2, rfl, hid ⟨0, rfl⟩, .inl rfl⟩
  case round =>
    obtain ⟨T, rfl, HW, hT⟩ := hrel
    rename World => wB
    have q0 : wB.cell? ⟨g, o, none⟩ = some (.int .i64 a) := by obtain ⟨k, rfl⟩ := HW.out; exact k0
    have q1 : wB.cell? ⟨g, o + 1, none⟩ = some (.int .i64 b) := by obtain ⟨k, rfl⟩ := HW.out; exact k1
    have q2 : wB.cell? ⟨g, o + 2, none⟩ = some (.int .i64 c) := by obtain ⟨k, rfl⟩ := HW.out; exact k2
    have HBW : Hid (∀ n, Below w.heap.size w (wB.drewN n)) := hid (fun n => by obtain ⟨k, hk⟩ := HW.out; rw [hk]; exact below_drewN (below_drewN (Below.refl _ _) _) _)
    rcases hT with rfl | ⟨rfl, H0⟩ | ⟨rfl, H0, H1⟩ | ⟨rfl, H0, H1, H2⟩
    · go_wp2_with fail
      go_quiet ((go_at_call 67; exact QG.out _ _ (by omega) (by omega) (by omega) (by omega) _ _))
      obtain ⟨G, hG⟩ : ∃ G, G = Nat.gcd a.natAbs b.natAbs := ⟨_, rfl⟩
      rw [← hG] at GA ⊢
      have hGb := GA.out
      by_cases h1 : 1 < G
      · have hp := lp_head h1
        have hpb := lp_bd h1
        have hE := E1.out G hG h1
        have HE := hid hE
        have h1i : (1 : Int) < (G : Int) := by omega
        have eg : ((G : Int).natAbs) = G := Int.natAbs_natCast G
        have hl := hp.1
        have hlz : (0 : Int) < ((natsI (plistG G)).length : Int) := by omega
        have HP := hid hp.2
        clear hG hp hE
        go_wp2_with fail
        refine (l1PrimesG_any (G : Int) (by omega) (by omega) (by omega) _).mono ?_
        rw [eg]
        rintro e w2 ⟨u, rfl, ho, hb⟩
        obtain ⟨g2, cap2, rfl, _, _⟩ := ho.block_of hl
        have hce := ho.elem hl
        rw [HP.out] at hce
        clear ho
        go_wp2_with fail
        go_ret2
        exact ⟨retV (by rw [HE.out.1, HE.out.2]; rfl), (HBW.out _).trans (hb.mono (HBW.out _).size)⟩
      · have HN := hid h1
        have h1i : ¬ (1 : Int) < (G : Int) := by omega
        have hGE := hid hG
        clear hG
        go_wp2_with fail
        go_roundw
        case measure => simp only [intOf]; omega
        case rel => exact ⟨1, rfl, hid (by obtain ⟨k, hk⟩ := HW.out; exact ⟨k + nq, by rw [hk, World.drewN_drewN]⟩), .inr (.inl ⟨rfl, hid (by rw [← hGE.out]; exact HN.out)⟩)⟩
    · go_wp2_with fail
      go_quiet ((go_at_call 67; exact QG.out _ _ (by omega) (by omega) (by omega) (by omega) _ _))
      obtain ⟨G, hG⟩ : ∃ G, G = Nat.gcd c.natAbs a.natAbs := ⟨_, rfl⟩
      rw [← hG] at GB ⊢
      have hGb := GB.out
      by_cases h1 : 1 < G
      · have hp := lp_head h1
        have hpb := lp_bd h1
        have hE := E2.out G hG H0.out h1
        have HE := hid hE
        have h1i : (1 : Int) < (G : Int) := by omega
        have eg : ((G : Int).natAbs) = G := Int.natAbs_natCast G
        have hl := hp.1
        have hlz : (0 : Int) < ((natsI (plistG G)).length : Int) := by omega
        have HP := hid hp.2
        clear hG hp hE
        go_wp2_with fail
        refine (l1PrimesG_any (G : Int) (by omega) (by omega) (by omega) _).mono ?_
        rw [eg]
        rintro e w2 ⟨u, rfl, ho, hb⟩
        obtain ⟨g2, cap2, rfl, _, _⟩ := ho.block_of hl
        have hce := ho.elem hl
        rw [HP.out] at hce
        clear ho
        go_wp2_with fail
        go_ret2
        exact ⟨retV (by rw [HE.out.1, HE.out.2]; rfl), (HBW.out _).trans (hb.mono (HBW.out _).size)⟩
      · have HN := hid h1
        have h1i : ¬ (1 : Int) < (G : Int) := by omega
        have hGE := hid hG
        clear hG
        go_wp2_with fail
        go_roundw
        case measure => simp only [intOf]; omega
        case rel => exact ⟨0, rfl, hid (by obtain ⟨k, hk⟩ := HW.out; exact ⟨k + nq, by rw [hk, World.drewN_drewN]⟩), .inr (.inr (.inl ⟨rfl, H0, hid (by rw [← hGE.out]; exact HN.out)⟩))⟩
    · go_wp2_with fail
      go_quiet ((go_at_call 67; exact QG.out _ _ (by omega) (by omega) (by omega) (by omega) _ _))
      obtain ⟨G, hG⟩ : ∃ G, G = Nat.gcd b.natAbs c.natAbs := ⟨_, rfl⟩
      rw [← hG] at GC ⊢
      have hGb := GC.out
      by_cases h1 : 1 < G
      · have hp := lp_head h1
        have hpb := lp_bd h1
        have hE := E3.out G hG H0.out H1.out h1
        have HE := hid hE
        have h1i : (1 : Int) < (G : Int) := by omega
        have eg : ((G : Int).natAbs) = G := Int.natAbs_natCast G
        have hl := hp.1
        have hlz : (0 : Int) < ((natsI (plistG G)).length : Int) := by omega
        have HP := hid hp.2
        clear hG hp hE
        go_wp2_with fail
        refine (l1PrimesG_any (G : Int) (by omega) (by omega) (by omega) _).mono ?_
        rw [eg]
        rintro e w2 ⟨u, rfl, ho, hb⟩
        obtain ⟨g2, cap2, rfl, _, _⟩ := ho.block_of hl
        have hce := ho.elem hl
        rw [HP.out] at hce
        clear ho
        go_wp2_with fail
        go_ret2
        exact ⟨retV (by rw [HE.out.1, HE.out.2]; rfl), (HBW.out _).trans (hb.mono (HBW.out _).size)⟩
      · have HN := hid h1
        have h1i : ¬ (1 : Int) < (G : Int) := by omega
        have hGE := hid hG
        clear hG
        go_wp2_with fail
        go_roundw
        case measure => simp only [intOf]; omega
        case rel => exact ⟨-1, rfl, hid (by obtain ⟨k, hk⟩ := HW.out; exact ⟨k + nq, by rw [hk, World.drewN_drewN]⟩), .inr (.inr (.inr ⟨rfl, H0, H1, hid (by rw [← hGE.out]; exact HN.out)⟩))⟩
    · have hE := hid (E4.out H0.out H1.out H2.out)
      go_wp2_with fail
      go_ret2
      exact ⟨retV (by rw [hE.out.1, hE.out.2]; rfl), HBW.out 0⟩

set_option maxRecDepth 100000 in
set_option maxHeartbeats 1000000 in
theorem l5Root_any (n : Int) (n0 : 0 ≤ n) (n1 : n ≤ 1000000000000) (w : World) : Calls Try.prog 84 #[.int .i64 n] w fun e w' => ((∃ z : Nat, rootO n = some z ∧ z ≤ 1048576 ∧ e = .returned (.int .i64 z)) ∨ (rootO n = none ∧ e = .returned (.int .i64 (-1)))) ∧ w = w' := by
  go_enter Try.func84, Try.ntmps84
  go_wp2
  go_loop [3, 4] (fun sl sh => ∃ L H : Nat, sl = .int .i64 L ∧ sh = .int .i64 H ∧ L ≤ H ∧ H ≤ 1048576 ∧ Hid (∀ r : Nat, r < L → (r : Int) * r < n) ∧ Hid (n ≤ (H : Int) * H)) (fun sl sh => (intOf sh - intOf sl).toNat)
  case atStart => exact ⟨0, 1048576, rfl, rfl, by omega, by omega, hid (fun r hr => by omega), hid (by omega)⟩
  case round =>
    obtain ⟨L, H, rfl, rfl, hLH, hH, HL, HH⟩ := hrel
    by_cases hlt : L < H
    · have hi : (L : Int) < (H : Int) := by omega
      obtain ⟨M, hM⟩ : ∃ M, M = (L + H) / 2 := ⟨_, rfl⟩
      have eM : ((L : Int) + (H : Int)) / 2 = (M : Int) := by omega
      have eM2 : ((L : Int) + (H : Int)).tdiv 2 = (M : Int) := by rw [Int.tdiv_eq_ediv_of_nonneg (by omega)]; exact eM
      have hM1 : L ≤ M := by omega
      have hM2 : M < H := by omega
      have hMM := mul_bd (show M ≤ 1048576 by omega) (show M ≤ 1048576 by omega)
      clear hM
      by_cases hm : (M : Int) * M < n
      · have HM := hid hm
        go_wp2
        go_round
        case measure => simp only [intOf]; omega
        case rel => exact ⟨M + 1, H, by go_num, rfl, by omega, hH, hid (fun r hr => by
          have := sq_mono (show r ≤ M by omega)
          have := HM.out
          omega), HH⟩
      · have HM := hid hm
        go_wp2
        go_round
        case measure => simp only [intOf]; omega
        case rel => exact ⟨L, M, rfl, rfl, hM1, by omega, HL, hid (by have := HM.out; omega)⟩
    · obtain rfl : L = H := by omega
      have hMM := mul_bd (show L ≤ 1048576 by omega) (show L ≤ 1048576 by omega)
      by_cases he : (L : Int) * L = n
      · have T : ((L : Int) * L == n) = true := by rw [beq_iff_eq]; exact he
        have HR := hid (rootO_of he)
        clear he
        go_wp2
        go_ret
        exact ⟨.inl ⟨L, HR.out, hH, rfl⟩, rfl⟩
      · have T : ((L : Int) * L == n) = false := by rw [beq_eq_false_iff_ne]; exact he
        have HR : Hid (rootO n = none) := hid (rootO_none fun z hz => by
          rcases Nat.lt_trichotomy z L with h | h | h
          · have := HL.out z h; omega
          · subst h; exact he hz
          · have h2 := sq_mono (Nat.le_of_lt h)
            have := HH.out
            omega)
        clear he
        go_wp2
        go_ret
        exact ⟨.inr ⟨HR.out, rfl⟩, rfl⟩

end Go.Proofs.Ytenibnblibnocac

/-! Zm3 -/
set_option linter.unusedVariables false
namespace Go.Proofs.Ytenibnblibnocac
open Go.RowKit

theorem sqz_mul {a : Int} {x : Nat} {A X : Nat} (ha : a.natAbs ≤ A) (hx : x * x ≤ X) (hX : X ≤ 1000000) : (a * (x : Int)).natAbs ≤ A * 1000 ∧ (a * (x : Int) * (x : Int)).natAbs ≤ A * X := by
  have hx1 : x ≤ 1000 := by
    refine Classical.byContradiction fun h => ?_
    have := Nat.mul_le_mul (show 1001 ≤ x by omega) (show 1001 ≤ x by omega)
    omega
  refine ⟨?_, ?_⟩
  · rw [Int.natAbs_mul, Int.natAbs_natCast]; exact Nat.mul_le_mul ha hx1
  · rw [Int.natAbs_mul, Int.natAbs_mul, Int.natAbs_natCast, Nat.mul_assoc]; exact Nat.mul_le_mul ha hx
/-- bounds of what is searched -/
structure T3.Lim (t : T3) : Prop where
  nz : t.nz
  a : t.a.natAbs ≤ 30000
  b : t.b.natAbs ≤ 30000
  c : t.c.natAbs ≤ 30000
  bc : (t.b * t.c).natAbs ≤ 30000
  ac : (t.a * t.c).natAbs ≤ 30000
theorem T3.lim_of {t : T3} (h : t.nz) (hp : t.prod ≤ 30000) : t.Lim := by
  obtain ⟨h1, h2, h3, h4, h5, _⟩ := T3.bd h hp
  exact ⟨h, h1, h2, h3, h4, h5⟩
theorem hit_zero {t : T3} {x y : Nat} (h : x = 0 ∧ y = 0) : hitO t x y = none := by unfold hitO; rw [if_pos h]
theorem hit_rest {t : T3} {x y : Nat} (h : topI t x y % t.c ≠ 0) : hitO t x y = none := by
  unfold hitO
  by_cases h0 : x = 0 ∧ y = 0
  · rw [if_pos h0]
  · rw [if_neg h0, if_neg h]
theorem hit_root {t : T3} {x y : Nat} (h0 : ¬ (x = 0 ∧ y = 0)) (h : topI t x y % t.c = 0) : hitO t x y = (rootO ((topI t x y).tdiv t.c)).map (fun z => [(x : Int), (y : Int), (z : Int)]) := by
  unfold hitO; rw [if_neg h0, if_pos h]
theorem hit_neg {t : T3} {x y : Nat} (h : (topI t x y).tdiv t.c < 0) : hitO t x y = none := by
  unfold hitO
  split
  · rfl
  · split
    · rw [show rootO ((topI t x y).tdiv t.c) = none by unfold rootO; rw [if_pos h]]; rfl
    · rfl
theorem tmod_zero {n c : Int} : n.tmod c = 0 ↔ n % c = 0 :=
  ⟨fun h => Int.emod_eq_zero_of_dvd (Int.dvd_of_tmod_eq_zero h), fun h => Int.tmod_eq_zero_of_dvd (Int.dvd_of_emod_eq_zero h)⟩

/-- what a search hands back -/
def SearchPost (o : Option (List Int)) (w : World) (e : Ending) (w' : World) : Prop := ∃ u, e = .returned (.tuple #[u, .bool o.isSome]) ∧ Owns w' w.heap.size u (o.getD []) ∧ Below w.heap.size w w'
set_option maxRecDepth 100000 in
set_option maxHeartbeats 4000000 in
theorem l5Search_any (v : Value) (t : T3) (hl : t.Lim) (w : World) (h : Rd w v t.toL) : Calls Try.prog 68 #[v] w (SearchPost (searchO t) w) := by
  obtain ⟨a, b, c⟩ := t
  obtain ⟨g, o, cap, rfl, k0, k1, k2⟩ := rd_three h
  obtain ⟨⟨a0, b0, c0⟩, ha, hb, hc, hbc, hac⟩ := hl
  dsimp only at a0 b0 c0 ha hb hc hbc hac
  have HC0 := hid c0
  have C0 : (c == 0) = false := by rw [beq_eq_false_iff_ne]; exact c0
  obtain ⟨N, hN⟩ : ∃ N, N = (b * c).natAbs := ⟨_, rfl⟩
  obtain ⟨M, hM⟩ : ∃ M, M = (a * c).natAbs := ⟨_, rfl⟩
  rw [← hN] at hbc
  rw [← hM] at hac
  have HN := hid hN
  have HM := hid hM
  have eN : Hid (searchO ⟨a, b, c⟩ = firstO (rowO ⟨a, b, c⟩) N) := hid (by unfold searchO; rw [hN])
  have eM : Hid (∀ x, rowO ⟨a, b, c⟩ x = firstO (hitO ⟨a, b, c⟩ x) M) := hid (fun x => by unfold rowO; rw [hM])
  have n1 : -30000 ≤ b * c := by omega
  have n2 : b * c ≤ 30000 := by omega
  have m1 : -30000 ≤ a * c := by omega
  have m2 : a * c ≤ 30000 := by omega
  clear h a0 b0 c0 hN hM
  go_enter Try.func68, Try.ntmps68
  go_wp2_with fail
  go_loop [7] (fun sx => ∃ X : Nat, sx = .int .i64 X ∧ X ≤ 1000 ∧ Hid (∀ i, i < X → rowO ⟨a, b, c⟩ i = none)) (fun sx => 1001 - (intOf sx).toNat)
  case atStart => exact ⟨0, rfl, by omega, hid (fun i hi => by omega)⟩
  case round =>
    obtain ⟨X, rfl, hX, HX⟩ := hrel
    have hXX := Nat.mul_le_mul hX hX
    have eXX : (X : Int) * X = ((X * X : Nat) : Int) := by push_cast; rfl
    have x1 : 0 ≤ (X : Int) * X := by rw [eXX]; omega
    have x2 : (X : Int) * X ≤ 1000000 := by rw [eXX]; omega
    by_cases hle : X * X ≤ N
    · have hle' : (X : Int) * X ≤ (N : Int) := by rw [eXX]; omega
      have hXL : X ≤ 999 := by
        refine Classical.byContradiction fun h => ?_
        have := Nat.mul_le_mul (show 1000 ≤ X by omega) (show 1000 ≤ X by omega)
        omega
      have hsx := sqz_mul ha hle (by omega)
      have HLE := hid hle
      have ax := hsx.1
      have axx : (a * (X : Int) * (X : Int)).natAbs ≤ 900000000 := Nat.le_trans hsx.2 (Nat.mul_le_mul (Nat.le_refl _) hbc)
      have ax1 : -30000000 ≤ a * (X : Int) := by omega
      have ax2 : a * (X : Int) ≤ 30000000 := by omega
      have axx1 : -900000000 ≤ a * (X : Int) * (X : Int) := by omega
      have axx2 : a * (X : Int) * (X : Int) ≤ 900000000 := by omega
      clear hsx ax axx hle eXX hXX
      go_wp2_with (go_at_call 59; refine (l1Size_any _ (by omega) (by omega) _).mono ?_; rw [← HN.out]; rintro e w' ⟨rfl, rfl⟩)
      go_loop [8] (fun sy => ∃ Y : Nat, sy = .int .i64 Y ∧ Y ≤ 1000 ∧ Hid (∀ i, i < Y → hitO ⟨a, b, c⟩ X i = none)) (fun sy => 1001 - (intOf sy).toNat)
      case atStart => exact ⟨0, rfl, by omega, hid (fun i hi => by omega)⟩
      case round =>
        obtain ⟨Y, rfl, hY, HY⟩ := hrel
        have hYY := Nat.mul_le_mul hY hY
        have eYY : (Y : Int) * Y = ((Y * Y : Nat) : Int) := by push_cast; rfl
        have y1 : 0 ≤ (Y : Int) * Y := by rw [eYY]; omega
        have y2 : (Y : Int) * Y ≤ 1000000 := by rw [eYY]; omega
        by_cases hle2 : Y * Y ≤ M
        · have hle2' : (Y : Int) * Y ≤ (M : Int) := by rw [eYY]; omega
          have hYL : Y ≤ 999 := by
            refine Classical.byContradiction fun h => ?_
            have := Nat.mul_le_mul (show 1000 ≤ Y by omega) (show 1000 ≤ Y by omega)
            omega
          have hsy := sqz_mul hb hle2 (by omega)
          have HLE2 := hid hle2
          have by' := hsy.1
          have byy : (b * (Y : Int) * (Y : Int)).natAbs ≤ 900000000 := Nat.le_trans hsy.2 (Nat.mul_le_mul (Nat.le_refl _) hac)
          have by1 : -30000000 ≤ b * (Y : Int) := by omega
          have by2 : b * (Y : Int) ≤ 30000000 := by omega
          have byy1 : -900000000 ≤ b * (Y : Int) * (Y : Int) := by omega
          have byy2 : b * (Y : Int) * (Y : Int) ≤ 900000000 := by omega
          have NEXT : Hid (hitO ⟨a, b, c⟩ X Y = none → ∀ i, i < Y + 1 → hitO ⟨a, b, c⟩ X i = none) := hid (fun h i hi => by
            by_cases e : i = Y
            · rw [e]; exact h
            · exact HY.out i (by omega))
          have HT : topI ⟨a, b, c⟩ X Y = -(a * (X : Int) * (X : Int)) - b * (Y : Int) * (Y : Int) := by unfold topI; rw [Int.zero_sub]
          obtain ⟨q, hq⟩ : ∃ q, q = (-(a * (X : Int) * (X : Int)) - b * (Y : Int) * (Y : Int)).tdiv c := ⟨_, rfl⟩
          have hqb : q.natAbs ≤ 2000000000 := by
            rw [hq, Int.natAbs_tdiv]
            exact Nat.le_trans (Nat.div_le_self _ _) (by omega)
          have hqe := hq.symm
          have HR : hitO ⟨a, b, c⟩ X Y = hitO ⟨a, b, c⟩ X Y := rfl
          clear hsy by' byy hle2 eYY hYY HR
          by_cases hd : (-(a * (X : Int) * (X : Int)) - b * (Y : Int) * (Y : Int)).tmod c = 0
          · have T1 : ((-(a * (X : Int) * (X : Int)) - b * (Y : Int) * (Y : Int)).tmod c != 0) = false := by rw [bne_eq_false_iff_eq]; exact hd
            have hd2 : topI ⟨a, b, c⟩ X Y % (T3.mk a b c).c = 0 := by rw [HT]; exact tmod_zero.1 hd
            by_cases hqn : q < 0
            · have HN2 := hid (NEXT.out (hit_neg (by rw [HT, ← hq]; exact hqn)))
              clear hd2 HT hq
              go_wp2_with (go_at_call 59; refine (l1Size_any _ (by omega) (by omega) _).mono ?_; rw [← HM.out]; rintro e w' ⟨rfl, rfl⟩)
              go_round
              case measure => simp only [intOf]; omega
              case rel => exact ⟨Y + 1, by go_num, by omega, HN2⟩
            · by_cases hz : X = 0 ∧ Y = 0
              · have HN2 := hid (NEXT.out (hit_zero hz))
                obtain ⟨hX0, hY0⟩ := hz
                have X0 : ((X : Int) == 0) = true := by rw [beq_iff_eq]; omega
                have Y0 : ((Y : Int) == 0) = true := by rw [beq_iff_eq]; omega
                clear hd2 HT hq hX0 hY0
                go_wp2_with (go_at_call 59; refine (l1Size_any _ (by omega) (by omega) _).mono ?_; rw [← HM.out]; rintro e w' ⟨rfl, rfl⟩)
                go_round
                case measure => simp only [intOf]; omega
                case rel => exact ⟨Y + 1, by go_num, by omega, HN2⟩
              · have hr := hit_root (t := ⟨a, b, c⟩) hz hd2
                rw [HT, show (T3.mk a b c).c = c from rfl, ← hq] at hr
                have HRT := hid hr
                have hz2 : (X : Int) = 0 → ¬ (Y : Int) = 0 := fun h1 h2 => hz ⟨by omega, by omega⟩
                have hq0 : 0 ≤ q := by omega
                clear hd2 HT hq hr hz
                by_cases hX0 : X = 0
                · have X0 : ((X : Int) == 0) = true := by rw [beq_iff_eq]; omega
                  have Y0 : ((Y : Int) == 0) = false := by rw [beq_eq_false_iff_ne]; exact hz2 (by omega)
                  clear hX0 hz2
                  go_wp2_with (first | (go_at_call 59; refine (l1Size_any _ (by omega) (by omega) _).mono ?_; rw [← HM.out]; rintro e w' ⟨rfl, rfl⟩))
                  refine (l5Root_any q hq0 (by omega) _).mono ?_
                  rintro e w' ⟨⟨z, hzr, hzb, rfl⟩ | ⟨hzn, rfl⟩, rfl⟩
                  · have hz0 : (0 : Int) ≤ (z : Int) := by omega
                    have HS : Hid (searchO ⟨a, b, c⟩ = some [(X : Int), (Y : Int), (z : Int)]) := hid (by
                      rw [eN.out]
                      refine first_some HX.out HLE.out ?_
                      rw [eM.out]
                      refine first_some HY.out HLE2.out ?_
                      rw [HRT.out, hzr]; rfl)
                    clear hzr
                    go_wp2_with fail
                    go_ret2
                    refine ⟨_, by rw [HS.out]; rfl, ?_, (Below.refl _ _).alloc (Nat.le_refl _) _⟩
                    rw [HS.out]
                    exact owns_lit [(X : Int), (Y : Int), (z : Int)] _ rfl (Nat.le_refl _) (by unfold maxLen; simp)
                  · have HN2 := hid (NEXT.out (by rw [HRT.out, hzn]; rfl))
                    clear hzn
                    go_wp2_with fail
                    go_round
                    case measure => simp only [intOf]; omega
                    case rel => exact ⟨Y + 1, by go_num, by omega, HN2⟩
                · have X0 : ((X : Int) == 0) = false := by rw [beq_eq_false_iff_ne]; omega
                  clear hX0 hz2
                  go_wp2_with (first | (go_at_call 59; refine (l1Size_any _ (by omega) (by omega) _).mono ?_; rw [← HM.out]; rintro e w' ⟨rfl, rfl⟩))
                  refine (l5Root_any q hq0 (by omega) _).mono ?_
                  rintro e w' ⟨⟨z, hzr, hzb, rfl⟩ | ⟨hzn, rfl⟩, rfl⟩
                  · have hz0 : (0 : Int) ≤ (z : Int) := by omega
                    have HS : Hid (searchO ⟨a, b, c⟩ = some [(X : Int), (Y : Int), (z : Int)]) := hid (by
                      rw [eN.out]
                      refine first_some HX.out HLE.out ?_
                      rw [eM.out]
                      refine first_some HY.out HLE2.out ?_
                      rw [HRT.out, hzr]; rfl)
                    clear hzr
                    go_wp2_with fail
                    go_ret2
                    refine ⟨_, by rw [HS.out]; rfl, ?_, (Below.refl _ _).alloc (Nat.le_refl _) _⟩
                    rw [HS.out]
                    exact owns_lit [(X : Int), (Y : Int), (z : Int)] _ rfl (Nat.le_refl _) (by unfold maxLen; simp)
                  · have HN2 := hid (NEXT.out (by rw [HRT.out, hzn]; rfl))
                    clear hzn
                    go_wp2_with fail
                    go_round
                    case measure => simp only [intOf]; omega
                    case rel => exact ⟨Y + 1, by go_num, by omega, HN2⟩
          · have T1 : ((-(a * (X : Int) * (X : Int)) - b * (Y : Int) * (Y : Int)).tmod c != 0) = true := by rw [bne_iff_ne]; exact hd
            have HN2 := hid (NEXT.out (hit_rest (by rw [HT]; exact fun h => hd (tmod_zero.2 h))))
            clear HT hq hqe hd
            go_wp2_with (go_at_call 59; refine (l1Size_any _ (by omega) (by omega) _).mono ?_; rw [← HM.out]; rintro e w' ⟨rfl, rfl⟩)
            go_round
            case measure => simp only [intOf]; omega
            case rel => exact ⟨Y + 1, by go_num, by omega, HN2⟩
        · have hle2' : ¬ (Y : Int) * Y ≤ (M : Int) := by rw [eYY]; omega
          have HR : Hid (rowO ⟨a, b, c⟩ X = none) := hid (by rw [eM.out]; exact first_none HY.out hle2)
          clear hle2 eYY hYY
          go_wp2_with (go_at_call 59; refine (l1Size_any _ (by omega) (by omega) _).mono ?_; rw [← HM.out]; rintro e w' ⟨rfl, rfl⟩)
          go_round
          case measure => simp only [intOf]; omega
          case rel => exact ⟨X + 1, by go_num, by omega, hid (fun i hi => by
            by_cases e : i = X
            · rw [e]; exact HR.out
            · exact HX.out i (by omega))⟩
    · have hle' : ¬ (X : Int) * X ≤ (N : Int) := by rw [eXX]; omega
      have HS : Hid (searchO ⟨a, b, c⟩ = none) := hid (by rw [eN.out]; exact first_none HX.out hle)
      clear hle eXX hXX
      go_wp2_with (go_at_call 59; refine (l1Size_any _ (by omega) (by omega) _).mono ?_; rw [← HN.out]; rintro e w' ⟨rfl, rfl⟩)
      go_ret2
      refine ⟨_, by rw [HS.out]; rfl, ?_, (Below.refl _ _).alloc (Nat.le_refl _) _⟩
      rw [HS.out]
      exact World.ownsRow_made (size := 1) _ #[] 0 (Nat.le_refl _) (by unfold maxLen; omega) rfl

end Go.Proofs.Ytenibnblibnocac
