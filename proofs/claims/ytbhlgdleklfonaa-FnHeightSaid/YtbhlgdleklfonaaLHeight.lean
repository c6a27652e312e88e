/-
  Proves: for every code: a zero's height is the size of one of its integers, none is greater, and it is the plain one's as often as each integer is.
  Conditions: none beyond the given statement's own.
-/
import Derived.Test.YtbhlgdleklfonaaZLegK
import Derived.Test.YtbhlgdleklfonaaZLegK2
import Derived.Test.YtbhlgdleklfonaaZLegK3
import Derived.Test.YtbhlgdleklfonaaZLegK4
import Derived.Test.YtbhlgdleklfonaaVals5b
import Derived.Test.YtbhlgdleklfonaaZm1
import Derived.Test.YtbhlgdleklfonaaOwn2
import Derived.Deep.LoopGhost
import Derived.Test.YtbhlgdleklfonaaDraws15
import Derived.Deep.RegionWith
import Derived.StillTailTactics
import Derived.Deep.QuietTactic
import Derived.Test.YtbhlgdleklfonaaRows
import Derived.Test.YtbhlgdleklfonaaBun59
import Derived.Test.YtbhlgdleklfonaaZp1
import Derived.ProofKit
import Derived.OpenShut
import Derived.ShutString
import Derived.ChangeOld
set_option linter.unusedVariables false
namespace Go.Proofs.Ytbhlgdleklfonaa
open Go.RowKit

def T3.neg (t : T3) : T3 := ⟨-t.a, -t.b, -t.c⟩
theorem twoD_neg (a b c : Int) : twoD (-a) (-b) (-c) = twoD a b c ∧ twoK (-a) (-b) (-c) = twoK a b c := by
  unfold twoD twoK
  simp only [Int.gcd_neg, Int.neg_gcd, and_self]
theorem third_neg (c : Int) (p : Nat) : thirdI (-c) p = -thirdI c p := by
  unfold thirdI
  by_cases h : c % (p : Int) = 0
  · rw [if_pos h, if_pos (Int.emod_eq_zero_of_dvd (Int.dvd_neg.2 (Int.dvd_of_emod_eq_zero h))), Int.neg_tdiv]
  · rw [if_neg h, if_neg (fun e => h (Int.emod_eq_zero_of_dvd (Int.dvd_neg.1 (Int.dvd_of_emod_eq_zero e)))), Int.neg_mul]
theorem step_neg (t : T3) : stepI t.neg = (stepI t).neg := by
  obtain ⟨a, b, c⟩ := t
  unfold stepI T3.neg
  dsimp only
  rw [(twoD_neg a b c).1, (twoD_neg a b c).2]
  by_cases h2 : twoK a b c = 2
  · simp only [if_pos h2, third_neg, Int.neg_tdiv]
  · by_cases h1 : twoK a b c = 1
    · simp only [if_neg h2, if_pos h1, third_neg, Int.neg_tdiv]
    · simp only [if_neg h2, if_neg h1, third_neg, Int.neg_tdiv]
theorem norm_neg : ∀ (f : Nat) (t : T3), normT f t.neg = (normT f t).neg
  | 0, _ => rfl
  | f + 1, t => by
    unfold normT
    rw [show twoD t.neg.a t.neg.b t.neg.c = twoD t.a t.b t.c from (twoD_neg t.a t.b t.c).1]
    by_cases h : twoD t.a t.b t.c = 1
    · rw [if_pos h, if_pos h]
    · rw [if_neg h, if_neg h, step_neg, norm_neg f]

/-- a small zero -/
def Wit (t : T3) : Prop := ∃ x y z : Nat, t.a * x * x + t.b * y * y + t.c * z * z = 0 ∧ (x : Int) * x ≤ ((t.b * t.c).natAbs : Int) ∧ (y : Int) * y ≤ ((t.a * t.c).natAbs : Int) ∧ ¬ (x = 0 ∧ y = 0)
theorem wit_neg {t : T3} (h : Wit t.neg) : Wit t := by
  obtain ⟨x, y, z, h1, h2, h3, h4⟩ := h
  unfold T3.neg at h1 h2 h3
  dsimp only at h1 h2 h3
  refine ⟨x, y, z, ?_, by rwa [Int.neg_mul_neg] at h2, by rwa [Int.neg_mul_neg] at h3, h4⟩
  simp only [Int.neg_mul] at h1
  omega
theorem hitZ_wit {t : T3} {x y : Int} (h : hitZ t x y = true) : Wit t := by
  unfold hitZ at h
  simp only [Bool.and_eq_true, beq_iff_eq, decide_eq_true_eq, Bool.not_eq_true', Bool.and_eq_false_iff, beq_eq_false_iff_ne] at h
  obtain ⟨_, _, h1, h2, h3, h4⟩ := h
  have e : ∀ k v : Int, k * (v.natAbs : Int) * (v.natAbs : Int) = k * v * v := fun k v => by
    rw [Int.mul_assoc, Int.mul_assoc, ← Int.natCast_mul, Int.natAbs_mul_self]
  refine ⟨x.natAbs, y.natAbs, sqrtK ((-(t.a * x * x) - t.b * y * y).tdiv t.c).toNat, ?_, ?_, ?_, ?_⟩
  · rw [e, e]; exact h1
  · rw [← Int.natCast_mul, Int.natAbs_mul_self]; exact h2
  · rw [← Int.natCast_mul, Int.natAbs_mul_self]; exact h3
  · rintro ⟨a, b⟩
    rcases h4 with h | h <;> omega
theorem hitYs_wit {t : T3} {x : Int} : ∀ {k : Nat} {y : Int}, hitYs t x k y = true → Wit t
  | 0, _, h => by cases h
  | k + 1, y, h => by
    unfold hitYs at h
    rcases Bool.or_eq_true _ _ ▸ h with h | h
    · exact hitZ_wit h
    · exact hitYs_wit h
theorem hitXs_wit {t : T3} {ny : Nat} : ∀ {k : Nat} {x : Int}, hitXs t ny k x = true → Wit t
  | 0, _, h => by cases h
  | k + 1, x, h => by
    unfold hitXs at h
    rcases Bool.or_eq_true _ _ ▸ h with h | h
    · exact hitYs_wit h
    · exact hitXs_wit h

theorem van_real3 {t : T3} (h : (0 < t.a ∧ 0 < t.b ∧ 0 < t.c) ∨ (t.a < 0 ∧ t.b < 0 ∧ t.c < 0)) : vanT t 0 = false := by
  unfold vanT vanB
  rw [if_pos rfl]
  unfold lessN
  rcases h with ⟨h1, h2, h3⟩ | ⟨h1, h2, h3⟩
  · simp [show ¬ t.a < 0 by omega, show ¬ t.b < 0 by omega, show ¬ t.c < 0 by omega]
  · simp [h1, h2, h3]
theorem odd_pl : oddL.all (fun p => primeN p && decide (3 ≤ p)) = true := by decide +kernel
theorem lgT_ok {t : T3} (h : t.nz) (hk : lgT t = true) : (∃ q, plI q = true ∧ vanT t q = false) ∨ Wit t := by
  unfold lgT at hk
  simp only [Bool.or_eq_true, Bool.and_eq_true, decide_eq_true_eq] at hk
  rcases hk with ⟨h1, h2, h3⟩ | ⟨h1, h2, h3⟩ | hk | hk
  · exact .inl ⟨0, rfl, van_real3 (.inl ⟨h1, h2, h3⟩)⟩
  · exact .inl ⟨0, rfl, van_real3 (.inr ⟨h1, h2, h3⟩)⟩
  · obtain ⟨p, hp, hb⟩ := List.any_eq_true.1 hk
    have := List.all_eq_true.1 odd_pl p hp
    rw [Bool.and_eq_true, decide_eq_true_eq] at this
    exact .inl ⟨(p : Int), by unfold plI primeI; rw [Int.toNat_natCast, this.1, Bool.or_true], badP_van this.1 this.2 h hb⟩
  · exact .inr (hitXs_wit hk)

theorem free_tab : (List.range 31).all (fun k => decide (k = 0) || (decide (k % 4 = 0) || (decide (k % 9 = 0) || (decide (k % 25 = 0) || freeL.contains (k : Int))))) = true := by decide +kernel
theorem free_in {n : Nat} (h0 : n ≠ 0) (hb : n ≤ 30) (hf : SqFree n) : (n : Int) ∈ freeL := by
  have := List.all_eq_true.1 free_tab n (List.mem_range.2 (by omega))
  simp only [Bool.or_eq_true, decide_eq_true_eq] at this
  rcases this with h | h | h | h | h
  · exact absurd h h0
  · exact absurd (Nat.dvd_of_mod_eq_zero h) (hf 2 (by decide))
  · exact absurd (Nat.dvd_of_mod_eq_zero h) (hf 3 (by decide))
  · exact absurd (Nat.dvd_of_mod_eq_zero h) (hf 5 (by decide))
  · exact List.contains_iff_mem.1 h
theorem free2_in {n : Int} (h0 : n ≠ 0) (h1 : -30 ≤ n) (h2 : n ≤ 30) (hf : SqFree n.natAbs) : n ∈ free2 := by
  have h := free_in (n := n.natAbs) (by omega) (by omega) hf
  unfold free2
  rw [List.mem_append]
  rcases Int.le_total 0 n with hn | hn
  · left; rwa [Int.natAbs_of_nonneg hn] at h
  · right; exact List.mem_map.2 ⟨_, h, by rw [Int.ofNat_natAbs_of_nonpos hn, Int.neg_neg]⟩
theorem lgA_at {l : List Int} (h : lgA l = true) {a b c : Int} (ha : a ∈ l) (hb : b ∈ free2) (hc : c ∈ free2) : lgN ⟨a, b, c⟩ = true :=
  List.all_eq_true.1 (List.all_eq_true.1 (List.all_eq_true.1 h a ha) b hb) c hc
theorem lgN_pos {a b c : Int} (ha : a ∈ freeL) (hb : b ∈ free2) (hc : c ∈ free2) : lgN ⟨a, b, c⟩ = true := by
  have hm : a ∈ [1, 2, 3, 5, 6] ++ ([7, 10, 11, 13, 14] ++ ([15, 17, 19, 21, 22] ++ [23, 26, 29, 30])) := ha
  rcases List.mem_append.1 hm with h | h
  · exact lgA_at lgA_1 h hb hc
  · rcases List.mem_append.1 h with h | h
    · exact lgA_at lgA_2 h hb hc
    · rcases List.mem_append.1 h with h | h
      · exact lgA_at lgA_3 h hb hc
      · exact lgA_at lgA_4 h hb hc
def T3.small (t : T3) : Prop := ∀ x ∈ [t.a, t.b, t.c], x ≠ 0 ∧ -30 ≤ x ∧ x ≤ 30 ∧ SqFree x.natAbs
theorem T3.small.nz {t : T3} (h : t.small) : t.nz := ⟨(h _ (by simp)).1, (h _ (by simp)).1, (h _ (by simp)).1⟩
theorem leg_pos {t : T3} (h : t.small) (ha : 0 < t.a) : twoD (normT 20 t).a (normT 20 t).b (normT 20 t).c = 1 ∧ ((∃ q, plI q = true ∧ vanT t q = false) ∨ Wit (normT 20 t)) := by
  obtain ⟨a, b, c⟩ := t
  have h1 := h a (by simp)
  have h2 := h b (by simp)
  have h3 := h c (by simp)
  dsimp only at ha
  have hf := free_in (n := a.natAbs) (by omega) (by omega) h1.2.2.2
  rw [Int.natAbs_of_nonneg (by omega)] at hf
  have hk := lgN_pos hf (free2_in h2.1 h2.2.1 h2.2.2.1 h2.2.2.2) (free2_in h3.1 h3.2.1 h3.2.2.1 h3.2.2.2)
  unfold lgN at hk
  rw [Bool.and_eq_true, beq_iff_eq] at hk
  obtain ⟨n1, n2⟩ := norm_ok 20 h.nz
  refine ⟨hk.1, ?_⟩
  rcases lgT_ok n1 hk.2 with ⟨q, hq, hv⟩ | hw
  · exact .inl ⟨q, hq, by rw [← n2 q hq]; exact hv⟩
  · exact .inr hw
/-- THREE TERMS THAT VANISH EVERYWHERE HAVE A SMALL ZERO -/
theorem leg {t : T3} (h : t.small) : twoD (normT 20 t).a (normT 20 t).b (normT 20 t).c = 1 ∧ ((∃ q, plI q = true ∧ vanT t q = false) ∨ Wit (normT 20 t)) := by
  rcases Int.lt_or_gt_of_ne h.nz.1 with ha | ha
  · have hs : t.neg.small := fun x hx => by
      unfold T3.neg at hx
      simp only [List.mem_cons, List.not_mem_nil, or_false] at hx
      have g : ∀ y ∈ [t.a, t.b, t.c], -y ≠ 0 ∧ -30 ≤ -y ∧ -y ≤ 30 ∧ SqFree (-y).natAbs := fun y hy => by
        have := h y hy
        rw [Int.natAbs_neg]
        exact ⟨by omega, by omega, by omega, this.2.2.2⟩
      rcases hx with rfl | rfl | rfl <;> exact g _ (by simp)
    obtain ⟨h1, h2⟩ := leg_pos hs (show 0 < -t.a by omega)
    rw [norm_neg] at h1 h2
    refine ⟨by rw [← h1]; exact (twoD_neg _ _ _).1.symm, ?_⟩
    rcases h2 with ⟨q, hq, hv⟩ | hw
    · refine .inl ⟨q, hq, ?_⟩
      rw [← hv]
      obtain ⟨n1, n2, n3⟩ := h.nz
      have := van_scale hq (n := -1) (by decide) (nz3 n1 n2 n3) (by simp) (by simp)
      unfold vanT T3.neg
      rw [← this]
      show vanB [-1 * t.a, -1 * t.b, -1 * t.c] q = _
      rw [Int.neg_one_mul, Int.neg_one_mul, Int.neg_one_mul]
    · exact .inr (wit_neg hw)
  · exact leg_pos h ha

end Go.Proofs.Ytbhlgdleklfonaa

set_option linter.unusedVariables false
namespace Go.Proofs.Ytbhlgdleklfonaa
open Go.RowKit

theorem core_small {x : Int} (h0 : x ≠ 0) : coreG x ≠ 0 ∧ (coreG x).natAbs * (rootG x * rootG x) = x.natAbs ∧ (coreG x).natAbs ≤ x.natAbs ∧ SqFree (coreG x).natAbs ∧ 1 ≤ rootG x := by
  have h := core_is h0
  have e : (coreG x).natAbs * (rootG x * rootG x) = x.natAbs := by
    conv => rhs; rw [← h.eq]
    rw [Int.natAbs_mul, Int.natAbs_mul, Int.natAbs_natCast]
  refine ⟨h.ne h0, e, ?_, h.free, h.pos⟩
  rw [← e]
  exact Nat.le_mul_of_pos_right _ (Nat.mul_pos h.pos h.pos)
theorem root_free {c : Int} (h0 : c ≠ 0) (h : SqFree c.natAbs) : rootG c = 1 ∧ coreG c = c := by
  have hi : IsCore c 1 c := ⟨by rw [Int.natCast_one, Int.mul_one, Int.mul_one], Nat.le_refl _, h⟩
  have := core_eq h0 hi
  exact ⟨this.2, this.1⟩
theorem free_root {c : Int} (h0 : c ≠ 0) (h : rootG c = 1) : SqFree c.natAbs := by
  have h1 := core_is h0
  have e := h1.eq
  rw [h] at e
  have e2 : coreG c = c := by simpa using e
  have := h1.free
  rwa [e2] at this

/-- three terms and three factors, as the first step leaves them -/
def coreT (a b c : Int) : T3 := ⟨coreG a, coreG b, coreG c⟩
def rootM (a b c : Int) : T3 := ⟨(rootG b : Int) * rootG c, (rootG a : Int) * rootG c, (rootG a : Int) * rootG b⟩
def nT (a b c : Int) : T3 := normT 20 (coreT a b c)
def nM (a b c : Int) : T3 := normM 20 (coreT a b c) (rootM a b c)
def T3.toL (t : T3) : List Int := [t.a, t.b, t.c]
structure Ok3 (a b c : Int) : Prop where
  a0 : a ≠ 0
  b0 : b ≠ 0
  c0 : c ≠ 0
  a1 : -30 ≤ a
  a2 : a ≤ 30
  b1 : -30 ≤ b
  b2 : b ≤ 30
  c1 : -30 ≤ c
  c2 : c ≤ 30
theorem ok3_of {a b c : Int} (h : fvB [a, b, c] = true) : Ok3 a b c := by
  have h1 := (fvB_iff.1 h).1
  have ha := h1 a (by simp)
  have hb := h1 b (by simp)
  have hc := h1 c (by simp)
  exact ⟨ha.1, hb.1, hc.1, ha.2.1, ha.2.2, hb.2.1, hb.2.2, hc.2.1, hc.2.2⟩
theorem ok3_fv {a b c : Int} (h : Ok3 a b c) : fvB [a, b, c] = true := by
  refine fvB_iff.2 ⟨fun x hx => ?_, by simp, by simp⟩
  simp only [List.mem_cons, List.not_mem_nil, or_false] at hx
  rcases hx with rfl | rfl | rfl
  · exact ⟨h.a0, h.a1, h.a2⟩
  · exact ⟨h.b0, h.b1, h.b2⟩
  · exact ⟨h.c0, h.c1, h.c2⟩
theorem Ok3.small {a b c : Int} (h : Ok3 a b c) : (coreT a b c).small := by
  have S : ∀ x : Int, x ≠ 0 → -30 ≤ x → x ≤ 30 → coreG x ≠ 0 ∧ -30 ≤ coreG x ∧ coreG x ≤ 30 ∧ SqFree (coreG x).natAbs := fun x h0 h1 h2 => by
    obtain ⟨k0, _, k2, k3, _⟩ := core_small h0
    exact ⟨k0, by omega, by omega, k3⟩
  intro x hx
  unfold coreT at hx
  simp only [List.mem_cons, List.not_mem_nil, or_false] at hx
  rcases hx with rfl | rfl | rfl
  · exact S _ h.a0 h.a1 h.a2
  · exact S _ h.b0 h.b1 h.b2
  · exact S _ h.c0 h.c1 h.c2
theorem Ok3.free {a b c : Int} (h : Ok3 a b c) : (coreT a b c).free := ⟨(core_small h.a0).2.2.2.1, (core_small h.b0).2.2.2.1, (core_small h.c0).2.2.2.1⟩
theorem prod3_le {a b c n : Nat} (ha : a ≤ n) (hb : b ≤ n) (hc : c ≤ n) : a * b * c ≤ n * n * n := Nat.mul_le_mul (Nat.mul_le_mul ha hb) hc
theorem Ok3.prod {a b c : Int} (h : Ok3 a b c) : (coreT a b c).prod ≤ a.natAbs * b.natAbs * c.natAbs ∧ a.natAbs * b.natAbs * c.natAbs ≤ 27000 := by
  refine ⟨?_, ?_⟩
  · exact Nat.mul_le_mul (Nat.mul_le_mul (core_small h.a0).2.2.1 (core_small h.b0).2.2.1) (core_small h.c0).2.2.1
  · have := h.a1; have := h.a2; have := h.b1; have := h.b2; have := h.c1; have := h.c2
    exact prod3_le (n := 30) (by omega) (by omega) (by omega)
theorem mm_id (x y u v : Nat) : x * y * (x * y) * (u * v) = (u * (x * x)) * (v * (y * y)) := by
  simp only [Nat.mul_comm, Nat.mul_left_comm]
theorem Ok3.minv {a b c : Int} (h : Ok3 a b c) : MInv 900 (coreT a b c) (rootM a b c) := by
  obtain ⟨_, ea, _, _, pa⟩ := core_small h.a0
  obtain ⟨_, eb, _, _, pb⟩ := core_small h.b0
  obtain ⟨_, ec, _, _, pc⟩ := core_small h.c0
  have := h.a1; have := h.a2; have := h.b1; have := h.b2; have := h.c1; have := h.c2
  have one : ∀ m n : Nat, 1 ≤ m → 1 ≤ n → 1 ≤ (m : Int) * n := fun m n hm hn => by
    have := Nat.mul_le_mul hm hn
    have e : (m : Int) * n = ((m * n : Nat) : Int) := by push_cast; rfl
    rw [e]; omega
  have K : ∀ (m n u v x y : Nat), u * (m * m) = x → v * (n * n) = y → x ≤ 30 → y ≤ 30 → ((m : Int) * n).natAbs * ((m : Int) * n).natAbs * (u * v) ≤ 900 := fun m n u v x y hx hy h1 h2 => by
    rw [Int.natAbs_mul, Int.natAbs_natCast, Int.natAbs_natCast, mm_id, hx, hy]
    exact Nat.mul_le_mul h1 h2
  refine ⟨one _ _ pb pc, one _ _ pa pc, one _ _ pa pb, K _ _ _ _ _ _ eb ec (by omega) (by omega), K _ _ _ _ _ _ ea ec (by omega) (by omega), K _ _ _ _ _ _ ea eb (by omega) (by omega)⟩
theorem Ok3.carry {a b c : Int} (h : Ok3 a b c) : Carry ⟨a, b, c⟩ (coreT a b c) (rootM a b c) := fun x y z hz => by
  have ea := (core_is h.a0).eq
  have eb := (core_is h.b0).eq
  have ec := (core_is h.c0).eq
  unfold Zero3 at hz ⊢
  unfold coreT at hz
  unfold rootM
  obtain ⟨A, hA⟩ : ∃ A, A = coreG a := ⟨_, rfl⟩
  obtain ⟨B, hB⟩ : ∃ B, B = coreG b := ⟨_, rfl⟩
  obtain ⟨C, hC⟩ : ∃ C, C = coreG c := ⟨_, rfl⟩
  obtain ⟨r, hr⟩ : ∃ r : Int, r = rootG a := ⟨_, rfl⟩
  obtain ⟨s, hs⟩ : ∃ s : Int, s = rootG b := ⟨_, rfl⟩
  obtain ⟨t, ht⟩ : ∃ t : Int, t = rootG c := ⟨_, rfl⟩
  dsimp only at hz ⊢
  rw [← hA] at ea hz
  rw [← hB] at eb hz
  rw [← hC] at ec hz
  rw [← hr] at ea ⊢
  rw [← hs] at eb ⊢
  rw [← ht] at ec ⊢
  rw [← ea, ← eb, ← ec]
  have e : A * (r * r) * (s * t * x) * (s * t * x) + B * (s * s) * (r * t * y) * (r * t * y) + C * (t * t) * (r * s * z) * (r * s * z) = (r * r * (s * s) * (t * t)) * (A * x * x + B * y * y + C * z * z) := by
    simp only [Int.mul_add, Int.mul_comm, Int.mul_left_comm]
  rw [e, hz, Int.mul_zero]

/-- what normal terms are -/
structure Nrm (a b c : Int) : Prop where
  nz : (nT a b c).nz
  two : twoD (nT a b c).a (nT a b c).b (nT a b c).c = 1
  free : (nT a b c).free
  prod : (nT a b c).prod ≤ a.natAbs * b.natAbs * c.natAbs
  lim : (nT a b c).prod ≤ 27000
  minv : MInv 900 (nT a b c) (nM a b c)
  carry : Carry ⟨a, b, c⟩ (nT a b c) (nM a b c)
theorem Ok3.nrm {a b c : Int} (h : Ok3 a b c) : Nrm a b c := by
  have hp := norm_prod 20 (coreT a b c)
  have h1 := h.prod
  exact ⟨(norm_ok 20 h.small.nz).1, (leg h.small).1, norm_free 20 h.free, Nat.le_trans hp h1.1, Nat.le_trans hp (Nat.le_trans h1.1 h1.2), norm_minv 20 h.minv, norm_carry 20 h.carry⟩

/-- a root, if there is one -/
def rootO (n : Int) : Option Nat := if n < 0 then none else (List.range (n.toNat + 1)).find? (fun z : Nat => decide ((z : Int) * z = n))
theorem sq_inj {x y : Nat} (h : (x : Int) * x = (y : Int) * y) : x = y := by
  have h2 : x * x = y * y := by exact_mod_cast h
  rcases Nat.lt_trichotomy x y with h1 | h1 | h1
  · have := Nat.mul_lt_mul_of_lt_of_le h1 (Nat.le_of_lt h1) (by omega); omega
  · exact h1
  · have := Nat.mul_lt_mul_of_lt_of_le h1 (Nat.le_of_lt h1) (by omega); omega
theorem rootO_of {n : Int} {z : Nat} (h : (z : Int) * z = n) : rootO n = some z := by
  have hn : ¬ n < 0 := by have := Int.mul_nonneg (Int.natCast_nonneg z) (Int.natCast_nonneg z); omega
  unfold rootO
  rw [if_neg hn]
  have hz : z < n.toNat + 1 := by
    have h1 : z ≤ z * z := by
      rcases Nat.eq_zero_or_pos z with e | e
      · rw [e]; exact Nat.zero_le _
      · exact Nat.le_mul_of_pos_left _ e
    have h2 : ((z * z : Nat) : Int) = n := by push_cast; exact h
    omega
  cases hf : (List.range (n.toNat + 1)).find? (fun z : Nat => decide ((z : Int) * z = n)) with
  | none =>
    have := List.find?_eq_none.1 hf z (List.mem_range.2 hz)
    rw [decide_eq_true h] at this
    exact absurd rfl this
  | some y =>
    have := List.find?_some hf
    rw [decide_eq_true_eq] at this
    rw [sq_inj (this.trans h.symm)]
theorem rootO_some {n : Int} {z : Nat} (h : rootO n = some z) : (z : Int) * z = n := by
  unfold rootO at h
  by_cases hn : n < 0
  · rw [if_pos hn] at h; cases h
  · rw [if_neg hn] at h
    have := List.find?_some h
    rwa [decide_eq_true_eq] at this
theorem rootO_none {n : Int} (h : ∀ z : Nat, (z : Int) * z ≠ n) : rootO n = none := by
  cases hr : rootO n with
  | none => rfl
  | some z => exact absurd (rootO_some hr) (h z)

/-- the search -/
def topI (t : T3) (x y : Nat) : Int := 0 - t.a * x * x - t.b * y * y
def hitO (t : T3) (x y : Nat) : Option (List Int) := if x = 0 ∧ y = 0 then none else if topI t x y % t.c = 0 then (rootO ((topI t x y).tdiv t.c)).map (fun z => [(x : Int), (y : Int), (z : Int)]) else none
def firstO {α : Type} (f : Nat → Option α) (N : Nat) : Option α := (List.range (N + 1)).findSome? (fun i => if i * i ≤ N then f i else none)
theorem first_none {α : Type} {f : Nat → Option α} {N k : Nat} (h : ∀ i, i < k → f i = none) (hk : ¬ k * k ≤ N) : firstO f N = none := by
  unfold firstO
  rw [List.findSome?_eq_none_iff]
  intro i _
  by_cases hi : i * i ≤ N
  · rw [if_pos hi]
    refine h i ?_
    rcases Nat.lt_or_ge i k with h1 | h1
    · exact h1
    · have := Nat.mul_le_mul h1 h1; omega
  · rw [if_neg hi]
theorem first_some {α : Type} {f : Nat → Option α} {N k : Nat} {a : α} (h : ∀ i, i < k → f i = none) (hk : k * k ≤ N) (ha : f k = some a) : firstO f N = some a := by
  have hkN : k ≤ N := by
    rcases Nat.eq_zero_or_pos k with e | e
    · omega
    · have := Nat.le_mul_of_pos_left k e; omega
  unfold firstO
  rw [show N + 1 = k + (1 + (N - k)) by omega, List.range_add, List.findSome?_append, List.findSome?_eq_none_iff.2 (fun i hi => by rw [h i (List.mem_range.1 hi), ite_self]), Option.none_or, List.range_add, List.map_append, List.findSome?_append]
  simp [hk, ha]
theorem first_mem {α : Type} {f : Nat → Option α} {N : Nat} {a : α} (h : firstO f N = some a) : ∃ k, k * k ≤ N ∧ f k = some a := by
  unfold firstO at h
  obtain ⟨k, _, hk⟩ := List.exists_of_findSome?_eq_some h
  by_cases h1 : k * k ≤ N
  · rw [if_pos h1] at hk; exact ⟨k, h1, hk⟩
  · rw [if_neg h1] at hk; cases hk
theorem first_there {α : Type} {f : Nat → Option α} {N k : Nat} {a : α} (hk : k * k ≤ N) (ha : f k = some a) : ∃ b, firstO f N = some b := by
  cases hf : firstO f N with
  | some b => exact ⟨b, rfl⟩
  | none =>
    unfold firstO at hf
    have hkN : k ≤ N := by
      rcases Nat.eq_zero_or_pos k with e | e
      · omega
      · have := Nat.le_mul_of_pos_left k e; omega
    have := List.findSome?_eq_none_iff.1 hf k (List.mem_range.2 (by omega))
    rw [if_pos hk, ha] at this
    cases this
def rowO (t : T3) (x : Nat) : Option (List Int) := firstO (hitO t x) (t.a * t.c).natAbs
def searchO (t : T3) : Option (List Int) := firstO (rowO t) (t.b * t.c).natAbs
/-- what it finds -/
structure Found (t : T3) (x y z : Nat) : Prop where
  zero : t.a * x * x + t.b * y * y + t.c * z * z = 0
  xle : x * x ≤ (t.b * t.c).natAbs
  yle : y * y ≤ (t.a * t.c).natAbs
  some : ¬ (x = 0 ∧ y = 0)
theorem hit_found {t : T3} {x y : Nat} {l : List Int} (h : hitO t x y = some l) : ∃ z : Nat, l = [(x : Int), (y : Int), (z : Int)] ∧ t.a * x * x + t.b * y * y + t.c * z * z = 0 ∧ ¬ (x = 0 ∧ y = 0) := by
  unfold hitO at h
  by_cases h0 : x = 0 ∧ y = 0
  · rw [if_pos h0] at h; cases h
  · rw [if_neg h0] at h
    by_cases hd : topI t x y % t.c = 0
    · rw [if_pos hd] at h
      cases hr : rootO ((topI t x y).tdiv t.c) with
      | none => rw [hr] at h; cases h
      | some z =>
        rw [hr] at h
        cases h
        refine ⟨z, rfl, ?_, h0⟩
        have h1 := rootO_some hr
        have h2 := Int.mul_tdiv_cancel' (Int.dvd_of_emod_eq_zero hd)
        rw [← h1] at h2
        unfold topI at h2
        rw [← Int.mul_assoc] at h2
        omega
    · rw [if_neg hd] at h; cases h
theorem search_found {t : T3} {l : List Int} (h : searchO t = some l) : ∃ x y z : Nat, l = [(x : Int), (y : Int), (z : Int)] ∧ Found t x y z := by
  obtain ⟨x, hx, h1⟩ := first_mem h
  obtain ⟨y, hy, h2⟩ := first_mem h1
  obtain ⟨z, hl, h3, h4⟩ := hit_found h2
  exact ⟨x, y, z, hl, h3, hx, hy, h4⟩
theorem found_search {t : T3} {x y z : Nat} (hc : t.c ≠ 0) (h : Found t x y z) : ∃ l, searchO t = some l := by
  have e : topI t x y = t.c * ((z : Int) * z) := by unfold topI; have := h.zero; rw [← Int.mul_assoc]; omega
  have hh : hitO t x y = some [(x : Int), (y : Int), (z : Int)] := by
    unfold hitO
    rw [if_neg h.some, if_pos (by rw [e]; exact Int.mul_emod_right _ _), e, Int.mul_tdiv_cancel_left _ hc, rootO_of rfl]
    rfl
  obtain ⟨l1, h1⟩ := first_there (f := hitO t x) h.yle hh
  exact first_there (f := rowO t) h.xle h1
theorem wit_search {t : T3} (hc : t.c ≠ 0) (h : Wit t) : ∃ l, searchO t = some l := by
  obtain ⟨x, y, z, h1, h2, h3, h4⟩ := h
  exact found_search hc ⟨h1, by exact_mod_cast h2, by exact_mod_cast h3, h4⟩

/-- are three terms normal and small? -/
def nrmB (xs : List Int) : Bool := decide (xs.length = 3) && (xs.all (fun x => !(x == 0) && (inR x (-30000) 30000 && decide (rootG x = 1))) && (decide ((prodI xs).natAbs ≤ 30000) && decide (twoD (xs.getD 0 0) (xs.getD 1 0) (xs.getD 2 0) = 1)))
def T3.of (xs : List Int) : T3 := ⟨xs.getD 0 0, xs.getD 1 0, xs.getD 2 0⟩
def zsearchO (xs : List Int) : Option (List Int) := if nrmB xs then searchO (T3.of xs) else none
theorem nrmB_iff {a b c : Int} : nrmB [a, b, c] = true ↔ (a ≠ 0 ∧ b ≠ 0 ∧ c ≠ 0) ∧ ((-30000 ≤ a ∧ a ≤ 30000) ∧ (-30000 ≤ b ∧ b ≤ 30000) ∧ (-30000 ≤ c ∧ c ≤ 30000)) ∧ (rootG a = 1 ∧ rootG b = 1 ∧ rootG c = 1) ∧ (a * b * c).natAbs ≤ 30000 ∧ twoD a b c = 1 := by
  have e : prodI [a, b, c] = a * b * c := by show a * (b * (c * 1)) = _; rw [Int.mul_one, Int.mul_assoc]
  unfold nrmB inR
  rw [e]
  simp only [List.length_cons, List.length_nil, List.all_cons, List.all_nil, Bool.and_true, List.getD_cons_zero, List.getD_cons_succ, Bool.and_eq_true, Bool.not_eq_true', beq_eq_false_iff_ne, decide_eq_true_eq]
  constructor
  · rintro ⟨_, ⟨⟨a0, ⟨a1, a2⟩, a3⟩, ⟨b0, ⟨b1, b2⟩, b3⟩, c0, ⟨c1, c2⟩, c3⟩, h1, h2⟩
    exact ⟨⟨a0, b0, c0⟩, ⟨⟨a1, a2⟩, ⟨b1, b2⟩, c1, c2⟩, ⟨a3, b3, c3⟩, h1, h2⟩
  · rintro ⟨⟨a0, b0, c0⟩, ⟨⟨a1, a2⟩, ⟨b1, b2⟩, c1, c2⟩, ⟨a3, b3, c3⟩, h1, h2⟩
    exact ⟨trivial, ⟨⟨a0, ⟨a1, a2⟩, a3⟩, ⟨b0, ⟨b1, b2⟩, b3⟩, c0, ⟨c1, c2⟩, c3⟩, h1, h2⟩
theorem nrm_len {xs : List Int} (h : xs.length ≠ 3) : nrmB xs = false := by unfold nrmB; rw [decide_eq_false h]; rfl
theorem T3.bd {t : T3} (h : t.nz) {N : Nat} (hp : t.prod ≤ N) : t.a.natAbs ≤ N ∧ t.b.natAbs ≤ N ∧ t.c.natAbs ≤ N ∧ (t.b * t.c).natAbs ≤ N ∧ (t.a * t.c).natAbs ≤ N ∧ (t.a * t.b).natAbs ≤ N := by
  obtain ⟨ha, hb, hc⟩ := h
  unfold T3.prod at hp
  have a1 : 1 ≤ t.a.natAbs := by omega
  have b1 : 1 ≤ t.b.natAbs := by omega
  have c1 : 1 ≤ t.c.natAbs := by omega
  rw [Int.natAbs_mul, Int.natAbs_mul, Int.natAbs_mul]
  have e1 : t.a.natAbs * t.b.natAbs * t.c.natAbs = t.a.natAbs * (t.b.natAbs * t.c.natAbs) := Nat.mul_assoc ..
  have e2 : t.a.natAbs * t.b.natAbs * t.c.natAbs = t.b.natAbs * (t.a.natAbs * t.c.natAbs) := by rw [Nat.mul_assoc, Nat.mul_left_comm]
  have m1 := Nat.le_mul_of_pos_left (t.b.natAbs * t.c.natAbs) a1
  have m2 := Nat.le_mul_of_pos_left (t.a.natAbs * t.c.natAbs) b1
  have m3 := Nat.le_mul_of_pos_right (t.a.natAbs * t.b.natAbs) c1
  have m4 := Nat.le_mul_of_pos_right t.b.natAbs c1
  have m5 := Nat.le_mul_of_pos_right t.a.natAbs c1
  have m6 := Nat.le_mul_of_pos_left t.c.natAbs b1
  omega
theorem Nrm.is {a b c : Int} (h : Nrm a b c) : nrmB (nT a b c).toL = true := by
  obtain ⟨ha, hb, hc⟩ := h.nz
  have hbd := T3.bd h.nz h.lim
  unfold T3.toL
  rw [nrmB_iff]
  refine ⟨⟨ha, hb, hc⟩, by omega, ⟨(root_free ha h.free.1).1, (root_free hb h.free.2.1).1, (root_free hc h.free.2.2).1⟩, ?_, h.two⟩
  rw [Int.natAbs_mul, Int.natAbs_mul]
  have := h.lim
  unfold T3.prod at this
  omega

end Go.Proofs.Ytbhlgdleklfonaa

set_option linter.unusedVariables false
namespace Go.Proofs.Ytbhlgdleklfonaa
open Go.RowKit

theorem wrap5 : IntKind.i64.wrap 0 = 0 ∧ IntKind.i64.wrap 1 = 1 ∧ IntKind.i64.wrap 2 = 2 ∧ IntKind.i64.wrap 3 = 3 ∧ IntKind.i64.wrap 4 = 4 := by decide
/-- the cells of a list of three -/
theorem rd_three {w : World} {v : Value} {a b c : Int} (h : Rd w v [a, b, c]) : ∃ g o cap, v = .slice (some ⟨g, o, none⟩) 3 cap ∧ w.cell? ⟨g, o, none⟩ = some (.int .i64 a) ∧ w.cell? ⟨g, o + 1, none⟩ = some (.int .i64 b) ∧ w.cell? ⟨g, o + 2, none⟩ = some (.int .i64 c) := by
  obtain ⟨ad, cap, rfl, hform⟩ := h.form
  obtain ⟨g, o, rfl, _, hc⟩ := hform (by simp)
  exact ⟨g, o, cap, rfl, hc 0 (by simp), hc 1 (by simp), hc 2 (by simp)⟩
theorem lp_head {g : Nat} (h : 1 < g) : 0 < (natsI (plistG g)).length ∧ (natsI (plistG g)).getD 0 0 = ((lpG g : Nat) : Int) := by
  obtain ⟨_, h2⟩ := lpG_spec h
  unfold lpG at h2 ⊢
  cases hl : plistG g with
  | nil =>
    exfalso
    obtain ⟨s1, s2, s3⟩ := plistG_spec (show 0 < g by omega)
    obtain ⟨p1, p2⟩ := lpG_spec h
    have := s3 _ p1 p2
    rw [hl] at this
    cases this
  | cons x t => exact ⟨by simp [natsI], rfl⟩
theorem lp_bd {g : Nat} (h : 1 < g) : lpG g ≤ g := Nat.le_of_dvd (by omega) (lpG_spec h).2
theorem lp_two {g : Nat} (h : 1 < g) : 2 ≤ lpG g := (lpG_spec h).1.1
theorem gcd_le3 {a b : Int} (h0 : a ≠ 0) (h1 : -100000 ≤ a) (h2 : a ≤ 100000) : Nat.gcd a.natAbs b.natAbs ≤ 100000 :=
  Nat.le_trans (Nat.le_of_dvd (by omega) (Nat.gcd_dvd_left _ _)) (by omega)
/-- what tells two of three terms -/
def TwoDPost (a b c : Int) (w : World) (e : Ending) (w' : World) : Prop := e = .returned (.tuple #[.int .i64 (twoD a b c : Nat), .int .i64 (twoK a b c : Nat)]) ∧ Below w.heap.size w w'
set_option maxRecDepth 100000 in
set_option maxHeartbeats 4000000 in
theorem l5Two_any (v : Value) (a b c : Int) (a0 : a ≠ 0) (b0 : b ≠ 0) (c0 : c ≠ 0) (a1 : -100000 ≤ a) (a2 : a ≤ 100000) (b1 : -100000 ≤ b) (b2 : b ≤ 100000) (c1 : -100000 ≤ c) (c2 : c ≤ 100000) (w : World) (h : Rd w v [a, b, c]) :
    Calls Try.prog 110 #[v] w (TwoDPost a b c w) := by
  obtain ⟨g, o, cap, rfl, k0, k1, k2⟩ := rd_three h
  obtain ⟨wr0, wr1, wr2, wr3, wr4⟩ := wrap5
  have GA := hid (gcd_le3 (b := b) a0 a1 a2)
  have GB := hid (gcd_le3 (b := a) c0 c1 c2)
  have GC := hid (gcd_le3 (b := c) b0 b1 b2)
  have QG : Hid (∀ (x y : Int), -100000 ≤ x → x ≤ 100000 → -100000 ≤ y → y ≤ 100000 → ∀ (w : World) (n : Nat), Calls Try.prog 108 #[.int .i64 x, .int .i64 y] (w.drewN n) fun e w'' => e = .returned (.int .i64 (Nat.gcd x.natAbs y.natAbs : Nat)) ∧ ∃ m, w'' = w.drewN m) :=
    hid (fun x y x1 x2 y1 y2 w n => Calls.quiet_of_same ((l1Gcd_any x y (by omega) (by omega) (by omega) (by omega) _).mono fun _ _ h => ⟨h.1, h.2.symm⟩))
  have E1 : Hid (∀ G : Nat, G = Nat.gcd a.natAbs b.natAbs → 1 < G → twoD a b c = lpG G ∧ twoK a b c = 2) := hid (fun G hG h1 => by
    have e : Int.gcd a b = G := hG.symm
    unfold twoD twoK
    rw [e, if_pos h1, if_pos h1]
    exact ⟨rfl, rfl⟩)
  have E2 : Hid (∀ G : Nat, G = Nat.gcd c.natAbs a.natAbs → ¬ 1 < Nat.gcd a.natAbs b.natAbs → 1 < G → twoD a b c = lpG G ∧ twoK a b c = 1) := hid (fun G hG h0 h1 => by
    have e : Int.gcd c a = G := hG.symm
    have h0 : ¬ 1 < Int.gcd a b := h0
    unfold twoD twoK
    rw [if_neg h0, if_neg h0, e, if_pos h1, if_pos h1]
    exact ⟨rfl, rfl⟩)
  have E3 : Hid (∀ G : Nat, G = Nat.gcd b.natAbs c.natAbs → ¬ 1 < Nat.gcd a.natAbs b.natAbs → ¬ 1 < Nat.gcd c.natAbs a.natAbs → 1 < G → twoD a b c = lpG G ∧ twoK a b c = 0) := hid (fun G hG h0 h2 h1 => by
    have e : Int.gcd b c = G := hG.symm
    have h0 : ¬ 1 < Int.gcd a b := h0
    have h2 : ¬ 1 < Int.gcd c a := h2
    unfold twoD twoK
    rw [if_neg h0, if_neg h0, if_neg h2, if_neg h2, e, if_pos h1]
    exact ⟨rfl, rfl⟩)
  have E4 : Hid (¬ 1 < Nat.gcd a.natAbs b.natAbs → ¬ 1 < Nat.gcd c.natAbs a.natAbs → ¬ 1 < Nat.gcd b.natAbs c.natAbs → twoD a b c = 1 ∧ twoK a b c = 0) := hid (fun h0 h1 h2 => by
    have h0 : ¬ 1 < Int.gcd a b := h0
    have h1 : ¬ 1 < Int.gcd c a := h1
    have h2 : ¬ 1 < Int.gcd b c := h2
    unfold twoD twoK
    exact ⟨by rw [if_neg h0, if_neg h1, if_neg h2], by rw [if_neg h0, if_neg h1]⟩)
  clear h a0 b0 c0
  go_enter Try.func110, Try.ntmps110
  go_wp2_with fail
  go_loopw [4] (fun st wr => ∃ (T : Int), st = .int .i64 T ∧ Hid (∃ k, wr = w.drewN k) ∧ (T = 2 ∨ (T = 1 ∧ Hid (¬ 1 < Nat.gcd a.natAbs b.natAbs)) ∨ (T = 0 ∧ Hid (¬ 1 < Nat.gcd a.natAbs b.natAbs) ∧ Hid (¬ 1 < Nat.gcd c.natAbs a.natAbs)) ∨ (T = -1 ∧ Hid (¬ 1 < Nat.gcd a.natAbs b.natAbs) ∧ Hid (¬ 1 < Nat.gcd c.natAbs a.natAbs) ∧ Hid (¬ 1 < Nat.gcd b.natAbs c.natAbs)))) (fun st _ => (intOf st + 1).toNat)
  case atStart => exact ⟨2, rfl, hid ⟨0, rfl⟩, .inl rfl⟩
  case round =>
    obtain ⟨T, rfl, HW, hT⟩ := hrel
    rename World => wB
    have q0 : wB.cell? ⟨g, o, none⟩ = some (.int .i64 a) := by obtain ⟨k, rfl⟩ := HW.out; exact k0
    have q1 : wB.cell? ⟨g, o + 1, none⟩ = some (.int .i64 b) := by obtain ⟨k, rfl⟩ := HW.out; exact k1
    have q2 : wB.cell? ⟨g, o + 2, none⟩ = some (.int .i64 c) := by obtain ⟨k, rfl⟩ := HW.out; exact k2
    have HBW : Hid (∀ n, Below w.heap.size w (wB.drewN n)) := hid (fun n => by obtain ⟨k, hk⟩ := HW.out; rw [hk]; exact below_drewN (below_drewN (Below.refl _ _) _) _)
    rcases hT with rfl | ⟨rfl, H0⟩ | ⟨rfl, H0, H1⟩ | ⟨rfl, H0, H1, H2⟩
    · go_wp2_with fail
      go_quiet ((go_at_call 108; exact QG.out _ _ (by omega) (by omega) (by omega) (by omega) _ _))
      obtain ⟨G, hG⟩ : ∃ G, G = Nat.gcd a.natAbs b.natAbs := ⟨_, rfl⟩
      rw [← hG] at GA ⊢
      have hGb := GA.out
      by_cases h1 : 1 < G
      · have hp := lp_head h1
        have hpb := lp_bd h1
        have hE := E1.out G hG h1
        have HE := hid hE
        have h1i : (1 : Int) < (G : Int) := by omega
        have eg : ((G : Int).natAbs) = G := Int.natAbs_natCast G
        have hl := hp.1
        have hlz : (0 : Int) < ((natsI (plistG G)).length : Int) := by omega
        have HP := hid hp.2
        clear hG hp hE
        go_wp2_with fail
        refine (l1PrimesG_any (G : Int) (by omega) (by omega) (by omega) _).mono ?_
        rw [eg]
        rintro e w2 ⟨u, rfl, ho, hb⟩
        obtain ⟨g2, cap2, rfl, _, _⟩ := ho.block_of hl
        have hce := ho.elem hl
        rw [HP.out] at hce
        clear ho
        go_wp2_with fail
        go_ret2
        exact ⟨retV (by rw [HE.out.1, HE.out.2]; rfl), (HBW.out _).trans (hb.mono (HBW.out _).size)⟩
      · have HN := hid h1
        have h1i : ¬ (1 : Int) < (G : Int) := by omega
        have hGE := hid hG
        clear hG
        go_wp2_with fail
        go_roundw
        case measure => simp only [intOf]; omega
        case rel => exact ⟨1, rfl, hid (by obtain ⟨k, hk⟩ := HW.out; exact ⟨k + nq, by rw [hk, World.drewN_drewN]⟩), .inr (.inl ⟨rfl, hid (by rw [← hGE.out]; exact HN.out)⟩)⟩
    · go_wp2_with fail
      go_quiet ((go_at_call 108; exact QG.out _ _ (by omega) (by omega) (by omega) (by omega) _ _))
      obtain ⟨G, hG⟩ : ∃ G, G = Nat.gcd c.natAbs a.natAbs := ⟨_, rfl⟩
      rw [← hG] at GB ⊢
      have hGb := GB.out
      by_cases h1 : 1 < G
      · have hp := lp_head h1
        have hpb := lp_bd h1
        have hE := E2.out G hG H0.out h1
        have HE := hid hE
        have h1i : (1 : Int) < (G : Int) := by omega
        have eg : ((G : Int).natAbs) = G := Int.natAbs_natCast G
        have hl := hp.1
        have hlz : (0 : Int) < ((natsI (plistG G)).length : Int) := by omega
        have HP := hid hp.2
        clear hG hp hE
        go_wp2_with fail
        refine (l1PrimesG_any (G : Int) (by omega) (by omega) (by omega) _).mono ?_
        rw [eg]
        rintro e w2 ⟨u, rfl, ho, hb⟩
        obtain ⟨g2, cap2, rfl, _, _⟩ := ho.block_of hl
        have hce := ho.elem hl
        rw [HP.out] at hce
        clear ho
        go_wp2_with fail
        go_ret2
        exact ⟨retV (by rw [HE.out.1, HE.out.2]; rfl), (HBW.out _).trans (hb.mono (HBW.out _).size)⟩
      · have HN := hid h1
        have h1i : ¬ (1 : Int) < (G : Int) := by omega
        have hGE := hid hG
        clear hG
        go_wp2_with fail
        go_roundw
        case measure => simp only [intOf]; omega
        case rel => exact ⟨0, rfl, hid (by obtain ⟨k, hk⟩ := HW.out; exact ⟨k + nq, by rw [hk, World.drewN_drewN]⟩), .inr (.inr (.inl ⟨rfl, H0, hid (by rw [← hGE.out]; exact HN.out)⟩))⟩
    · go_wp2_with fail
      go_quiet ((go_at_call 108; exact QG.out _ _ (by omega) (by omega) (by omega) (by omega) _ _))
      obtain ⟨G, hG⟩ : ∃ G, G = Nat.gcd b.natAbs c.natAbs := ⟨_, rfl⟩
      rw [← hG] at GC ⊢
      have hGb := GC.out
      by_cases h1 : 1 < G
      · have hp := lp_head h1
        have hpb := lp_bd h1
        have hE := E3.out G hG H0.out H1.out h1
        have HE := hid hE
        have h1i : (1 : Int) < (G : Int) := by omega
        have eg : ((G : Int).natAbs) = G := Int.natAbs_natCast G
        have hl := hp.1
        have hlz : (0 : Int) < ((natsI (plistG G)).length : Int) := by omega
        have HP := hid hp.2
        clear hG hp hE
        go_wp2_with fail
        refine (l1PrimesG_any (G : Int) (by omega) (by omega) (by omega) _).mono ?_
        rw [eg]
        rintro e w2 ⟨u, rfl, ho, hb⟩
        obtain ⟨g2, cap2, rfl, _, _⟩ := ho.block_of hl
        have hce := ho.elem hl
        rw [HP.out] at hce
        clear ho
        go_wp2_with fail
        go_ret2
        exact ⟨retV (by rw [HE.out.1, HE.out.2]; rfl), (HBW.out _).trans (hb.mono (HBW.out _).size)⟩
      · have HN := hid h1
        have h1i : ¬ (1 : Int) < (G : Int) := by omega
        have hGE := hid hG
        clear hG
        go_wp2_with fail
        go_roundw
        case measure => simp only [intOf]; omega
        case rel => exact ⟨-1, rfl, hid (by obtain ⟨k, hk⟩ := HW.out; exact ⟨k + nq, by rw [hk, World.drewN_drewN]⟩), .inr (.inr (.inr ⟨rfl, H0, H1, hid (by rw [← hGE.out]; exact HN.out)⟩))⟩
    · have hE := hid (E4.out H0.out H1.out H2.out)
      go_wp2_with fail
      go_ret2
      exact ⟨retV (by rw [hE.out.1, hE.out.2]; rfl), HBW.out 0⟩

set_option maxRecDepth 100000 in
set_option maxHeartbeats 1000000 in
theorem l5Root_any (n : Int) (n0 : 0 ≤ n) (n1 : n ≤ 1000000000000) (w : World) : Calls Try.prog 111 #[.int .i64 n] w fun e w' => ((∃ z : Nat, rootO n = some z ∧ z ≤ 1048576 ∧ e = .returned (.int .i64 z)) ∨ (rootO n = none ∧ e = .returned (.int .i64 (-1)))) ∧ w = w' := by
  go_enter Try.func111, Try.ntmps111
  go_wp2
  go_loop [3, 4] (fun sl sh => ∃ L H : Nat, sl = .int .i64 L ∧ sh = .int .i64 H ∧ L ≤ H ∧ H ≤ 1048576 ∧ Hid (∀ r : Nat, r < L → (r : Int) * r < n) ∧ Hid (n ≤ (H : Int) * H)) (fun sl sh => (intOf sh - intOf sl).toNat)
  case atStart => exact ⟨0, 1048576, rfl, rfl, by omega, by omega, hid (fun r hr => by omega), hid (by omega)⟩
  case round =>
    obtain ⟨L, H, rfl, rfl, hLH, hH, HL, HH⟩ := hrel
    by_cases hlt : L < H
    · have hi : (L : Int) < (H : Int) := by omega
      obtain ⟨M, hM⟩ : ∃ M, M = (L + H) / 2 := ⟨_, rfl⟩
      have eM : ((L : Int) + (H : Int)) / 2 = (M : Int) := by omega
      have eM2 : ((L : Int) + (H : Int)).tdiv 2 = (M : Int) := by rw [Int.tdiv_eq_ediv_of_nonneg (by omega)]; exact eM
      have hM1 : L ≤ M := by omega
      have hM2 : M < H := by omega
      have hMM := mul_bd (show M ≤ 1048576 by omega) (show M ≤ 1048576 by omega)
      clear hM
      by_cases hm : (M : Int) * M < n
      · have HM := hid hm
        go_wp2
        go_round
        case measure => simp only [intOf]; omega
        case rel => exact ⟨M + 1, H, by go_num, rfl, by omega, hH, hid (fun r hr => by
          have := sq_mono (show r ≤ M by omega)
          have := HM.out
          omega), HH⟩
      · have HM := hid hm
        go_wp2
        go_round
        case measure => simp only [intOf]; omega
        case rel => exact ⟨L, M, rfl, rfl, hM1, by omega, HL, hid (by have := HM.out; omega)⟩
    · obtain rfl : L = H := by omega
      have hMM := mul_bd (show L ≤ 1048576 by omega) (show L ≤ 1048576 by omega)
      by_cases he : (L : Int) * L = n
      · have T : ((L : Int) * L == n) = true := by rw [beq_iff_eq]; exact he
        have HR := hid (rootO_of he)
        clear he
        go_wp2
        go_ret
        exact ⟨.inl ⟨L, HR.out, hH, rfl⟩, rfl⟩
      · have T : ((L : Int) * L == n) = false := by rw [beq_eq_false_iff_ne]; exact he
        have HR : Hid (rootO n = none) := hid (rootO_none fun z hz => by
          rcases Nat.lt_trichotomy z L with h | h | h
          · have := HL.out z h; omega
          · subst h; exact he hz
          · have h2 := sq_mono (Nat.le_of_lt h)
            have := HH.out
            omega)
        clear he
        go_wp2
        go_ret
        exact ⟨.inr ⟨HR.out, rfl⟩, rfl⟩

end Go.Proofs.Ytbhlgdleklfonaa

set_option linter.unusedVariables false
namespace Go.Proofs.Ytbhlgdleklfonaa
open Go.RowKit

theorem sqz_mul {a : Int} {x : Nat} {A X : Nat} (ha : a.natAbs ≤ A) (hx : x * x ≤ X) (hX : X ≤ 1000000) : (a * (x : Int)).natAbs ≤ A * 1000 ∧ (a * (x : Int) * (x : Int)).natAbs ≤ A * X := by
  have hx1 : x ≤ 1000 := by
    refine Classical.byContradiction fun h => ?_
    have := Nat.mul_le_mul (show 1001 ≤ x by omega) (show 1001 ≤ x by omega)
    omega
  refine ⟨?_, ?_⟩
  · rw [Int.natAbs_mul, Int.natAbs_natCast]; exact Nat.mul_le_mul ha hx1
  · rw [Int.natAbs_mul, Int.natAbs_mul, Int.natAbs_natCast, Nat.mul_assoc]; exact Nat.mul_le_mul ha hx
/-- bounds of what is searched -/
structure T3.Lim (t : T3) : Prop where
  nz : t.nz
  a : t.a.natAbs ≤ 30000
  b : t.b.natAbs ≤ 30000
  c : t.c.natAbs ≤ 30000
  bc : (t.b * t.c).natAbs ≤ 30000
  ac : (t.a * t.c).natAbs ≤ 30000
theorem T3.lim_of {t : T3} (h : t.nz) (hp : t.prod ≤ 30000) : t.Lim := by
  obtain ⟨h1, h2, h3, h4, h5, _⟩ := T3.bd h hp
  exact ⟨h, h1, h2, h3, h4, h5⟩
theorem hit_zero {t : T3} {x y : Nat} (h : x = 0 ∧ y = 0) : hitO t x y = none := by unfold hitO; rw [if_pos h]
theorem hit_rest {t : T3} {x y : Nat} (h : topI t x y % t.c ≠ 0) : hitO t x y = none := by
  unfold hitO
  by_cases h0 : x = 0 ∧ y = 0
  · rw [if_pos h0]
  · rw [if_neg h0, if_neg h]
theorem hit_root {t : T3} {x y : Nat} (h0 : ¬ (x = 0 ∧ y = 0)) (h : topI t x y % t.c = 0) : hitO t x y = (rootO ((topI t x y).tdiv t.c)).map (fun z => [(x : Int), (y : Int), (z : Int)]) := by
  unfold hitO; rw [if_neg h0, if_pos h]
theorem hit_neg {t : T3} {x y : Nat} (h : (topI t x y).tdiv t.c < 0) : hitO t x y = none := by
  unfold hitO
  split
  · rfl
  · split
    · rw [show rootO ((topI t x y).tdiv t.c) = none by unfold rootO; rw [if_pos h]]; rfl
    · rfl
theorem tmod_zero {n c : Int} : n.tmod c = 0 ↔ n % c = 0 :=
  ⟨fun h => Int.emod_eq_zero_of_dvd (Int.dvd_of_tmod_eq_zero h), fun h => Int.tmod_eq_zero_of_dvd (Int.dvd_of_emod_eq_zero h)⟩

/-- what a search hands back -/
def SearchPost (o : Option (List Int)) (w : World) (e : Ending) (w' : World) : Prop := ∃ u, e = .returned (.tuple #[u, .bool o.isSome]) ∧ Owns w' w.heap.size u (o.getD []) ∧ Below w.heap.size w w'
set_option maxRecDepth 100000 in
set_option maxHeartbeats 4000000 in
theorem l5Search_any (v : Value) (t : T3) (hl : t.Lim) (w : World) (h : Rd w v t.toL) : Calls Try.prog 83 #[v] w (SearchPost (searchO t) w) := by
  obtain ⟨a, b, c⟩ := t
  obtain ⟨g, o, cap, rfl, k0, k1, k2⟩ := rd_three h
  obtain ⟨⟨a0, b0, c0⟩, ha, hb, hc, hbc, hac⟩ := hl
  dsimp only at a0 b0 c0 ha hb hc hbc hac
  have HC0 := hid c0
  have C0 : (c == 0) = false := by rw [beq_eq_false_iff_ne]; exact c0
  obtain ⟨N, hN⟩ : ∃ N, N = (b * c).natAbs := ⟨_, rfl⟩
  obtain ⟨M, hM⟩ : ∃ M, M = (a * c).natAbs := ⟨_, rfl⟩
  rw [← hN] at hbc
  rw [← hM] at hac
  have HN := hid hN
  have HM := hid hM
  have eN : Hid (searchO ⟨a, b, c⟩ = firstO (rowO ⟨a, b, c⟩) N) := hid (by unfold searchO; rw [hN])
  have eM : Hid (∀ x, rowO ⟨a, b, c⟩ x = firstO (hitO ⟨a, b, c⟩ x) M) := hid (fun x => by unfold rowO; rw [hM])
  have n1 : -30000 ≤ b * c := by omega
  have n2 : b * c ≤ 30000 := by omega
  have m1 : -30000 ≤ a * c := by omega
  have m2 : a * c ≤ 30000 := by omega
  clear h a0 b0 c0 hN hM
  go_enter Try.func83, Try.ntmps83
  go_wp2_with fail
  go_loop [7] (fun sx => ∃ X : Nat, sx = .int .i64 X ∧ X ≤ 1000 ∧ Hid (∀ i, i < X → rowO ⟨a, b, c⟩ i = none)) (fun sx => 1001 - (intOf sx).toNat)
  case atStart => exact ⟨0, rfl, by omega, hid (fun i hi => by omega)⟩
  case round =>
    obtain ⟨X, rfl, hX, HX⟩ := hrel
    have hXX := Nat.mul_le_mul hX hX
    have eXX : (X : Int) * X = ((X * X : Nat) : Int) := by push_cast; rfl
    have x1 : 0 ≤ (X : Int) * X := by rw [eXX]; omega
    have x2 : (X : Int) * X ≤ 1000000 := by rw [eXX]; omega
    by_cases hle : X * X ≤ N
    · have hle' : (X : Int) * X ≤ (N : Int) := by rw [eXX]; omega
      have hXL : X ≤ 999 := by
        refine Classical.byContradiction fun h => ?_
        have := Nat.mul_le_mul (show 1000 ≤ X by omega) (show 1000 ≤ X by omega)
        omega
      have hsx := sqz_mul ha hle (by omega)
      have HLE := hid hle
      have ax := hsx.1
      have axx : (a * (X : Int) * (X : Int)).natAbs ≤ 900000000 := Nat.le_trans hsx.2 (Nat.mul_le_mul (Nat.le_refl _) hbc)
      have ax1 : -30000000 ≤ a * (X : Int) := by omega
      have ax2 : a * (X : Int) ≤ 30000000 := by omega
      have axx1 : -900000000 ≤ a * (X : Int) * (X : Int) := by omega
      have axx2 : a * (X : Int) * (X : Int) ≤ 900000000 := by omega
      clear hsx ax axx hle eXX hXX
      go_wp2_with (go_at_call 98; refine (l1Size_any _ (by omega) (by omega) _).mono ?_; rw [← HN.out]; rintro e w' ⟨rfl, rfl⟩)
      go_loop [8] (fun sy => ∃ Y : Nat, sy = .int .i64 Y ∧ Y ≤ 1000 ∧ Hid (∀ i, i < Y → hitO ⟨a, b, c⟩ X i = none)) (fun sy => 1001 - (intOf sy).toNat)
      case atStart => exact ⟨0, rfl, by omega, hid (fun i hi => by omega)⟩
      case round =>
        obtain ⟨Y, rfl, hY, HY⟩ := hrel
        have hYY := Nat.mul_le_mul hY hY
        have eYY : (Y : Int) * Y = ((Y * Y : Nat) : Int) := by push_cast; rfl
        have y1 : 0 ≤ (Y : Int) * Y := by rw [eYY]; omega
        have y2 : (Y : Int) * Y ≤ 1000000 := by rw [eYY]; omega
        by_cases hle2 : Y * Y ≤ M
        · have hle2' : (Y : Int) * Y ≤ (M : Int) := by rw [eYY]; omega
          have hYL : Y ≤ 999 := by
            refine Classical.byContradiction fun h => ?_
            have := Nat.mul_le_mul (show 1000 ≤ Y by omega) (show 1000 ≤ Y by omega)
            omega
          have hsy := sqz_mul hb hle2 (by omega)
          have HLE2 := hid hle2
          have by' := hsy.1
          have byy : (b * (Y : Int) * (Y : Int)).natAbs ≤ 900000000 := Nat.le_trans hsy.2 (Nat.mul_le_mul (Nat.le_refl _) hac)
          have by1 : -30000000 ≤ b * (Y : Int) := by omega
          have by2 : b * (Y : Int) ≤ 30000000 := by omega
          have byy1 : -900000000 ≤ b * (Y : Int) * (Y : Int) := by omega
          have byy2 : b * (Y : Int) * (Y : Int) ≤ 900000000 := by omega
          have NEXT : Hid (hitO ⟨a, b, c⟩ X Y = none → ∀ i, i < Y + 1 → hitO ⟨a, b, c⟩ X i = none) := hid (fun h i hi => by
            by_cases e : i = Y
            · rw [e]; exact h
            · exact HY.out i (by omega))
          have HT : topI ⟨a, b, c⟩ X Y = -(a * (X : Int) * (X : Int)) - b * (Y : Int) * (Y : Int) := by unfold topI; rw [Int.zero_sub]
          obtain ⟨q, hq⟩ : ∃ q, q = (-(a * (X : Int) * (X : Int)) - b * (Y : Int) * (Y : Int)).tdiv c := ⟨_, rfl⟩
          have hqb : q.natAbs ≤ 2000000000 := by
            rw [hq, Int.natAbs_tdiv]
            exact Nat.le_trans (Nat.div_le_self _ _) (by omega)
          have hqe := hq.symm
          have HR : hitO ⟨a, b, c⟩ X Y = hitO ⟨a, b, c⟩ X Y := rfl
          clear hsy by' byy hle2 eYY hYY HR
          by_cases hd : (-(a * (X : Int) * (X : Int)) - b * (Y : Int) * (Y : Int)).tmod c = 0
          · have T1 : ((-(a * (X : Int) * (X : Int)) - b * (Y : Int) * (Y : Int)).tmod c != 0) = false := by rw [bne_eq_false_iff_eq]; exact hd
            have hd2 : topI ⟨a, b, c⟩ X Y % (T3.mk a b c).c = 0 := by rw [HT]; exact tmod_zero.1 hd
            by_cases hqn : q < 0
            · have HN2 := hid (NEXT.out (hit_neg (by rw [HT, ← hq]; exact hqn)))
              clear hd2 HT hq
              go_wp2_with (go_at_call 98; refine (l1Size_any _ (by omega) (by omega) _).mono ?_; rw [← HM.out]; rintro e w' ⟨rfl, rfl⟩)
              go_round
              case measure => simp only [intOf]; omega
              case rel => exact ⟨Y + 1, by go_num, by omega, HN2⟩
            · by_cases hz : X = 0 ∧ Y = 0
              · have HN2 := hid (NEXT.out (hit_zero hz))
                obtain ⟨hX0, hY0⟩ := hz
                have X0 : ((X : Int) == 0) = true := by rw [beq_iff_eq]; omega
                have Y0 : ((Y : Int) == 0) = true := by rw [beq_iff_eq]; omega
                clear hd2 HT hq hX0 hY0
                go_wp2_with (go_at_call 98; refine (l1Size_any _ (by omega) (by omega) _).mono ?_; rw [← HM.out]; rintro e w' ⟨rfl, rfl⟩)
                go_round
                case measure => simp only [intOf]; omega
                case rel => exact ⟨Y + 1, by go_num, by omega, HN2⟩
              · have hr := hit_root (t := ⟨a, b, c⟩) hz hd2
                rw [HT, show (T3.mk a b c).c = c from rfl, ← hq] at hr
                have HRT := hid hr
                have hz2 : (X : Int) = 0 → ¬ (Y : Int) = 0 := fun h1 h2 => hz ⟨by omega, by omega⟩
                have hq0 : 0 ≤ q := by omega
                clear hd2 HT hq hr hz
                by_cases hX0 : X = 0
                · have X0 : ((X : Int) == 0) = true := by rw [beq_iff_eq]; omega
                  have Y0 : ((Y : Int) == 0) = false := by rw [beq_eq_false_iff_ne]; exact hz2 (by omega)
                  clear hX0 hz2
                  go_wp2_with (first | (go_at_call 98; refine (l1Size_any _ (by omega) (by omega) _).mono ?_; rw [← HM.out]; rintro e w' ⟨rfl, rfl⟩))
                  refine (l5Root_any q hq0 (by omega) _).mono ?_
                  rintro e w' ⟨⟨z, hzr, hzb, rfl⟩ | ⟨hzn, rfl⟩, rfl⟩
                  · have hz0 : (0 : Int) ≤ (z : Int) := by omega
                    have HS : Hid (searchO ⟨a, b, c⟩ = some [(X : Int), (Y : Int), (z : Int)]) := hid (by
                      rw [eN.out]
                      refine first_some HX.out HLE.out ?_
                      rw [eM.out]
                      refine first_some HY.out HLE2.out ?_
                      rw [HRT.out, hzr]; rfl)
                    clear hzr
                    go_wp2_with fail
                    go_ret2
                    refine ⟨_, by rw [HS.out]; rfl, ?_, (Below.refl _ _).alloc (Nat.le_refl _) _⟩
                    rw [HS.out]
                    exact owns_lit [(X : Int), (Y : Int), (z : Int)] _ rfl (Nat.le_refl _) (by unfold maxLen; simp)
                  · have HN2 := hid (NEXT.out (by rw [HRT.out, hzn]; rfl))
                    clear hzn
                    go_wp2_with fail
                    go_round
                    case measure => simp only [intOf]; omega
                    case rel => exact ⟨Y + 1, by go_num, by omega, HN2⟩
                · have X0 : ((X : Int) == 0) = false := by rw [beq_eq_false_iff_ne]; omega
                  clear hX0 hz2
                  go_wp2_with (first | (go_at_call 98; refine (l1Size_any _ (by omega) (by omega) _).mono ?_; rw [← HM.out]; rintro e w' ⟨rfl, rfl⟩))
                  refine (l5Root_any q hq0 (by omega) _).mono ?_
                  rintro e w' ⟨⟨z, hzr, hzb, rfl⟩ | ⟨hzn, rfl⟩, rfl⟩
                  · have hz0 : (0 : Int) ≤ (z : Int) := by omega
                    have HS : Hid (searchO ⟨a, b, c⟩ = some [(X : Int), (Y : Int), (z : Int)]) := hid (by
                      rw [eN.out]
                      refine first_some HX.out HLE.out ?_
                      rw [eM.out]
                      refine first_some HY.out HLE2.out ?_
                      rw [HRT.out, hzr]; rfl)
                    clear hzr
                    go_wp2_with fail
                    go_ret2
                    refine ⟨_, by rw [HS.out]; rfl, ?_, (Below.refl _ _).alloc (Nat.le_refl _) _⟩
                    rw [HS.out]
                    exact owns_lit [(X : Int), (Y : Int), (z : Int)] _ rfl (Nat.le_refl _) (by unfold maxLen; simp)
                  · have HN2 := hid (NEXT.out (by rw [HRT.out, hzn]; rfl))
                    clear hzn
                    go_wp2_with fail
                    go_round
                    case measure => simp only [intOf]; omega
                    case rel => exact ⟨Y + 1, by go_num, by omega, HN2⟩
          · have T1 : ((-(a * (X : Int) * (X : Int)) - b * (Y : Int) * (Y : Int)).tmod c != 0) = true := by rw [bne_iff_ne]; exact hd
            have HN2 := hid (NEXT.out (hit_rest (by rw [HT]; exact fun h => hd (tmod_zero.2 h))))
            clear HT hq hqe hd
            go_wp2_with (go_at_call 98; refine (l1Size_any _ (by omega) (by omega) _).mono ?_; rw [← HM.out]; rintro e w' ⟨rfl, rfl⟩)
            go_round
            case measure => simp only [intOf]; omega
            case rel => exact ⟨Y + 1, by go_num, by omega, HN2⟩
        · have hle2' : ¬ (Y : Int) * Y ≤ (M : Int) := by rw [eYY]; omega
          have HR : Hid (rowO ⟨a, b, c⟩ X = none) := hid (by rw [eM.out]; exact first_none HY.out hle2)
          clear hle2 eYY hYY
          go_wp2_with (go_at_call 98; refine (l1Size_any _ (by omega) (by omega) _).mono ?_; rw [← HM.out]; rintro e w' ⟨rfl, rfl⟩)
          go_round
          case measure => simp only [intOf]; omega
          case rel => exact ⟨X + 1, by go_num, by omega, hid (fun i hi => by
            by_cases e : i = X
            · rw [e]; exact HR.out
            · exact HX.out i (by omega))⟩
    · have hle' : ¬ (X : Int) * X ≤ (N : Int) := by rw [eXX]; omega
      have HS : Hid (searchO ⟨a, b, c⟩ = none) := hid (by rw [eN.out]; exact first_none HX.out hle)
      clear hle eXX hXX
      go_wp2_with (go_at_call 98; refine (l1Size_any _ (by omega) (by omega) _).mono ?_; rw [← HN.out]; rintro e w' ⟨rfl, rfl⟩)
      go_ret2
      refine ⟨_, by rw [HS.out]; rfl, ?_, (Below.refl _ _).alloc (Nat.le_refl _) _⟩
      rw [HS.out]
      exact World.ownsRow_made (size := 1) _ #[] 0 (Nat.le_refl _) (by unfold maxLen; omega) rfl

end Go.Proofs.Ytbhlgdleklfonaa

set_option linter.unusedVariables false
namespace Go.Proofs.Ytbhlgdleklfonaa
open Go.RowKit

def nrm1 (x : Int) : Bool := !(x == 0) && (inR x (-30000) 30000 && decide (rootG x = 1))
theorem nrm1_iff {x : Int} : nrm1 x = true ↔ x ≠ 0 ∧ (-30000 ≤ x ∧ x ≤ 30000) ∧ rootG x = 1 := by
  unfold nrm1 inR
  rw [Bool.and_eq_true, Bool.and_eq_true, Bool.and_eq_true, Bool.not_eq_true', beq_eq_false_iff_ne, decide_eq_true_eq, decide_eq_true_eq, decide_eq_true_eq]
theorem nrmB_all {xs : List Int} (h : nrmB xs = true) : (∀ x ∈ xs, nrm1 x = true) ∧ (prodI xs).natAbs ≤ 30000 := by
  unfold nrmB at h
  rw [Bool.and_eq_true, Bool.and_eq_true, Bool.and_eq_true, decide_eq_true_eq, decide_eq_true_eq, decide_eq_true_eq] at h
  exact ⟨List.all_eq_true.1 h.2.1, h.2.2.1⟩
theorem nrmB_term {xs : List Int} {x : Int} (hm : x ∈ xs) (h : nrm1 x = false) : nrmB xs = false := by
  cases hb : nrmB xs with
  | false => rfl
  | true =>
    have := (nrmB_all hb).1 x hm
    rw [h] at this
    cases this
theorem prod_part {xs : List Int} (h : ∀ x ∈ xs, x ≠ 0) (K : Nat) : (prodI (xs.take K)).natAbs ≤ (prodI xs).natAbs := by
  have e : prodI xs = prodI (xs.take K) * prodI (xs.drop K) := by rw [← prodI_app, List.take_append_drop]
  have h2 : prodI (xs.drop K) ≠ 0 := prodI_ne fun x hx => h x (List.mem_of_mem_drop hx)
  rw [e, Int.natAbs_mul]
  exact Nat.le_mul_of_pos_right _ (by omega)
theorem nrmB_prod {xs : List Int} {K : Nat} (h : 30000 < (prodI (xs.take K)).natAbs) : nrmB xs = false := by
  cases hb : nrmB xs with
  | false => rfl
  | true =>
    obtain ⟨h1, h2⟩ := nrmB_all hb
    have := prod_part (fun x hx => (nrm1_iff.1 (h1 x hx)).1) K
    omega
theorem nrmB_end {a b c : Int} (h : ∀ i, i < 3 → nrm1 ([a, b, c].getD i 0) = true) (hp : (prodI [a, b, c]).natAbs ≤ 30000) : nrmB [a, b, c] = decide (twoD a b c = 1) := by
  have h0 : nrm1 a = true := h 0 (by omega)
  have h1 : nrm1 b = true := h 1 (by omega)
  have h2 : nrm1 c = true := h 2 (by omega)
  have e : nrmB [a, b, c] = (decide (([a, b, c] : List Int).length = 3) && ((nrm1 a && (nrm1 b && (nrm1 c && true))) && (decide ((prodI [a, b, c]).natAbs ≤ 30000) && decide (twoD a b c = 1)))) := rfl
  rw [e, h0, h1, h2, decide_eq_true hp]
  rfl
theorem nrmB_lim {xs : List Int} (h : nrmB xs = true) : ∃ a b c, xs = [a, b, c] ∧ (T3.of xs).Lim := by
  by_cases hl : xs.length = 3
  · obtain ⟨a, b, c, rfl⟩ := list_three hl
    have hn := nrmB_iff.1 h
    refine ⟨a, b, c, rfl, T3.lim_of (t := ⟨a, b, c⟩) hn.1 ?_⟩
    have := hn.2.2.2.1
    rw [Int.natAbs_mul, Int.natAbs_mul] at this
    exact this
  · rw [nrm_len hl] at h; cases h

set_option maxRecDepth 100000 in
set_option maxHeartbeats 4000000 in
theorem l5Ok_any (v : Value) (xs : List Int) (w : World) (h : Rd w v xs) : Calls Try.prog 82 #[v] w fun e w' => e = .returned (.bool (nrmB xs)) ∧ Below w.heap.size w w' := by
  have hmx := rd_max h
  have HH := hid h
  obtain ⟨ad, cap, rfl, hform⟩ := h.form
  have HFM := hid hform
  clear h hform
  by_cases hl : xs.length = 3
  · have hli : (xs.length : Int) = 3 := by omega
    have T3' : ((xs.length : Int) != 3) = false := by rw [bne_eq_false_iff_eq]; exact hli
    have HL := hid hl
    obtain ⟨NB, hNB⟩ : ∃ NB, NB = nrmB xs := ⟨_, rfl⟩
    have HNB := hid hNB
    rw [← hNB]
    clear hl hNB
    go_enter Try.func82, Try.ntmps82
    go_wp2_with fail
    go_loop [3, 4] (fun sp si => ∃ (K : Nat) (p : Int), si = .int .i64 K ∧ K ≤ 3 ∧ sp = .int .i64 p ∧ -30000 ≤ p ∧ p ≤ 30000 ∧ Hid (p = prodI (xs.take K)) ∧ Hid (∀ i, i < K → nrm1 (xs.getD i 0) = true)) (fun _ si => 3 - (intOf si).toNat)
    case atStart => exact ⟨0, 1, rfl, by omega, rfl, by omega, by omega, hid (by simp [prodI]), hid (fun i hi => by omega)⟩
    case round =>
      obtain ⟨K, p, rfl, hK, rfl, p1, p2, HP, HG⟩ := hrel
      by_cases hlt : K < 3
      · have hKl : K < xs.length := by have := HL.out; omega
        obtain ⟨b, o, rfl, hml, hc⟩ := HFM.out (by omega)
        have hcell := hc K hKl
        obtain ⟨x, hx⟩ : ∃ x, x = xs.getD K 0 := ⟨_, rfl⟩
        have hmem : x ∈ xs := by rw [hx, getD_at _ _ hKl]; exact List.getElem_mem _
        rw [← hx] at hcell
        have HX := hid hx
        have HNO : Hid (nrm1 x = false → NB = false) := hid (fun e => by rw [HNB.out]; exact nrmB_term hmem e)
        have HPN : Hid (prodI (xs.take (K + 1)) = p * x) := hid (by rw [prodI_take hKl, ← HP.out, hx])
        have hKi : (K : Int) < (xs.length : Int) := by omega
        have hK3 : (K : Int) < 3 := by omega
        clear hx hc hml hmem hKl
        by_cases x0 : x = 0
        · have T : (x == 0) = true := by rw [beq_iff_eq]; exact x0
          have HR := hid (HNO.out (by unfold nrm1; rw [beq_iff_eq.2 x0]; rfl))
          clear x0
          go_wp2_with fail
          go_ret
          exact ⟨retB HR.out.symm, Below.refl _ _⟩
        · have T : (x == 0) = false := by rw [beq_eq_false_iff_ne]; exact x0
          have HX0 := hid x0
          cases hr : inR x (-30000) 30000 with
          | false =>
            have HR := hid (HNO.out (by unfold nrm1; rw [hr, Bool.false_and, Bool.and_false]))
            have HIN := hid hr
            clear x0 hr
            go_wp2_with (go_at_call 91; refine (l6In_any _ _ _ _).mono ?_; rw [HIN.out]; rintro e w' ⟨rfl, rfl⟩)
            go_ret
            exact ⟨retB HR.out.symm, Below.refl _ _⟩
          | true =>
            have HIN := hid hr
            have hxb : -30000 ≤ x ∧ x ≤ 30000 := by
              unfold inR at hr
              rwa [Bool.and_eq_true, decide_eq_true_eq, decide_eq_true_eq] at hr
            have xb1 := hxb.1
            have xb2 := hxb.2
            have hcs := core_small x0
            have hrp := hcs.2.2.2.2
            have hrle : rootG x ≤ 30000 := by
              have h1 := hcs.2.1
              have h2 : 1 ≤ (coreG x).natAbs := by have := hcs.1; omega
              have h3 := Nat.le_mul_of_pos_left (rootG x * rootG x) h2
              have h4 := Nat.le_mul_of_pos_left (rootG x) hrp
              omega
            obtain ⟨R, hR⟩ : ∃ R, R = rootG x := ⟨_, rfl⟩
            rw [← hR] at hrp hrle
            have HRE : Hid (rootG x = R) := hid hR.symm
            by_cases hr1 : R = 1
            · have hri : ¬ (1 : Int) < (R : Int) := by omega
              have HG1 : Hid (nrm1 x = true) := hid (nrm1_iff.2 ⟨x0, hxb, by rw [← hR]; exact hr1⟩)
              have hpx : (p * x).natAbs ≤ 30000 * 30000 := by rw [Int.natAbs_mul]; exact Nat.mul_le_mul (by omega) (by omega)
              have px1 : -900000000 ≤ p * x := by omega
              have px2 : p * x ≤ 900000000 := by omega
              obtain ⟨S, hS⟩ : ∃ S, S = (p * x).natAbs := ⟨_, rfl⟩
              have HS : Hid ((p * x).natAbs = S) := hid hS.symm
              clear hcs hR hxb hr x0
              by_cases hbig : 30000 < S
              · have hbi : (30000 : Int) < (S : Int) := by omega
                have HR : Hid (NB = false) := hid (by rw [HNB.out]; exact nrmB_prod (K := K + 1) (by rw [HPN.out, ← hS]; exact hbig))
                clear hS
                go_wp2_with (first | (go_at_call 91; refine (l6In_any _ _ _ _).mono ?_; rw [HIN.out]; rintro e w' ⟨rfl, rfl⟩) | (go_at_call 87; refine (l1CoreG_any _ HX0.out (by omega) (by omega) _).mono ?_; rw [HRE.out]; rintro e w' ⟨rfl, rfl⟩) | (go_at_call 98; refine (l1Size_any _ (by omega) (by omega) _).mono ?_; rw [HS.out]; rintro e w' ⟨rfl, rfl⟩))
                go_ret
                exact ⟨retB HR.out.symm, Below.refl _ _⟩
              · have hbi : ¬ (30000 : Int) < (S : Int) := by omega
                have pb1 : -30000 ≤ p * x := by omega
                have pb2 : p * x ≤ 30000 := by omega
                clear hS
                go_wp2_with (first | (go_at_call 91; refine (l6In_any _ _ _ _).mono ?_; rw [HIN.out]; rintro e w' ⟨rfl, rfl⟩) | (go_at_call 87; refine (l1CoreG_any _ HX0.out (by omega) (by omega) _).mono ?_; rw [HRE.out]; rintro e w' ⟨rfl, rfl⟩) | (go_at_call 98; refine (l1Size_any _ (by omega) (by omega) _).mono ?_; rw [HS.out]; rintro e w' ⟨rfl, rfl⟩))
                go_round
                case measure => simp only [intOf]; omega
                case rel => exact ⟨K + 1, p * x, by go_num, by omega, rfl, pb1, pb2, hid HPN.out.symm, hid (fun i hi => by
                  by_cases e : i = K
                  · rw [e, ← HX.out]; exact HG1.out
                  · exact HG.out i (by omega))⟩
            · have hri : (1 : Int) < (R : Int) := by omega
              have HR := hid (HNO.out (by
                cases hn : nrm1 x with
                | false => rfl
                | true => exact absurd ((nrm1_iff.1 hn).2.2) (by rw [← hR]; exact hr1)))
              clear hcs hR hxb hr x0 hr1
              go_wp2_with (first | (go_at_call 91; refine (l6In_any _ _ _ _).mono ?_; rw [HIN.out]; rintro e w' ⟨rfl, rfl⟩) | (go_at_call 87; refine (l1CoreG_any _ HX0.out (by omega) (by omega) _).mono ?_; rw [HRE.out]; rintro e w' ⟨rfl, rfl⟩))
              go_ret
              exact ⟨retB HR.out.symm, Below.refl _ _⟩
      · obtain rfl : K = 3 := by omega
        obtain ⟨a, b, c, rfl⟩ := list_three HL.out
        have ha := nrm1_iff.1 (HG.out 0 (by omega))
        have hb := nrm1_iff.1 (HG.out 1 (by omega))
        have hc := nrm1_iff.1 (HG.out 2 (by omega))
        have hpe : (prodI [a, b, c]).natAbs ≤ 30000 := by
          have := HP.out
          rw [show [a, b, c].take 3 = [a, b, c] from rfl] at this
          omega
        have HE : Hid (NB = decide (twoD a b c = 1)) := hid (by rw [HNB.out]; exact nrmB_end HG.out hpe)
        have HTW : Hid (Calls Try.prog 110 #[.slice ad [a, b, c].length cap] w (TwoDPost a b c w)) := hid (l5Two_any _ a b c ha.1 hb.1 hc.1 (by have := ha.2.1; simp at this; omega) (by have := ha.2.1; simp at this; omega) (by have := hb.2.1; simp at this; omega) (by have := hb.2.1; simp at this; omega) (by have := hc.2.1; simp at this; omega) (by have := hc.2.1; simp at this; omega) w HH.out)
        clear ha hb hc hpe HFM HG HP hli T3' hlt hK
        go_wp2_with fail
        refine (HTW.out).mono ?_
        rintro e w2 ⟨rfl, hb2⟩
        obtain ⟨P, hP⟩ : ∃ P, P = twoD a b c := ⟨_, rfl⟩
        rw [← hP] at HE ⊢
        clear hP
        by_cases hp1 : P = 1
        · have T : ((P : Int) == 1) = true := by rw [beq_iff_eq]; omega
          rw [decide_eq_true hp1] at HE
          clear hp1
          go_wp2_with fail
          go_ret
          exact ⟨retB (by rw [HE.out]), hb2⟩
        · have T : ((P : Int) == 1) = false := by rw [beq_eq_false_iff_ne]; omega
          rw [decide_eq_false hp1] at HE
          clear hp1
          go_wp2_with fail
          go_ret
          exact ⟨retB (by rw [HE.out]), hb2⟩
  · have HR := hid (nrm_len hl)
    have T3' : ((xs.length : Int) != 3) = true := by rw [bne_iff_ne]; omega
    clear hl
    go_enter Try.func82, Try.ntmps82
    go_wp2_with fail
    go_ret
    exact ⟨retB HR.out.symm, Below.refl _ _⟩

set_option maxRecDepth 100000 in
set_option maxHeartbeats 1000000 in
theorem zeroSearchS_any (v : Value) (xs : List Int) (w : World) (h : Rd w v xs) : Calls Try.prog 31 #[v] w (SearchPost (zsearchO xs) w) := by
  have HH := hid h
  obtain ⟨ad, cap, rfl, _⟩ := h.form
  clear h
  cases hn : nrmB xs with
  | false =>
    have HN := hid hn
    have HR : Hid (zsearchO xs = none) := hid (by unfold zsearchO; rw [hn]; rfl)
    clear hn
    go_enter Try.func31, Try.ntmps31
    go_wp2_with (go_at_call 82; refine (l5Ok_any _ xs _ HH.out).mono ?_; rw [HN.out]; rintro e w2 ⟨rfl, hb2⟩)
    go_ret2
    refine ⟨_, by rw [HR.out]; rfl, ?_, hb2.alloc hb2.size _⟩
    rw [HR.out]
    exact World.ownsRow_made (size := 1) _ #[] 0 hb2.size (by unfold maxLen; omega) rfl
  | true =>
    have HN := hid hn
    have HR : Hid (zsearchO xs = searchO (T3.of xs)) := hid (by unfold zsearchO; rw [hn]; rfl)
    obtain ⟨a, b, c, rfl, hlim⟩ := nrmB_lim hn
    have HLIM := hid hlim
    clear hn hlim
    go_enter Try.func31, Try.ntmps31
    go_wp2_with fail
    refine (l5Ok_any _ [a, b, c] _ HH.out).mono ?_
    rw [HN.out]
    rintro e w2 ⟨rfl, hb2⟩
    have H2 := hid (HH.out.keep hb2)
    go_wp2_with fail
    refine (l5Search_any _ (T3.of [a, b, c]) HLIM.out _ H2.out).mono ?_
    rintro e w3 ⟨u, rfl, ho, hb3⟩
    go_wp2_with fail
    go_ret2
    exact ⟨u, by rw [HR.out]; rfl, by rw [HR.out]; exact ho.down hb2.size, hb2.trans (hb3.mono hb2.size)⟩

end Go.Proofs.Ytbhlgdleklfonaa

set_option linter.unusedVariables false
namespace Go.Proofs.Ytbhlgdleklfonaa
open Go.RowKit

/-- a list that owns its memory apart from one block -/
def Apart (v : Value) (g : Nat) : Prop := ∀ k, v.ownBlock = some k → k ≠ g
theorem root_le {x : Int} (h0 : x ≠ 0) (h1 : -30 ≤ x) (h2 : x ≤ 30) : rootG x ≤ 5 := by
  obtain ⟨c0, e, _, _, r1⟩ := core_small h0
  refine Classical.byContradiction fun h => ?_
  have h3 := Nat.mul_le_mul (show 6 ≤ rootG x by omega) (show 6 ≤ rootG x by omega)
  have h4 := Nat.le_mul_of_pos_left (rootG x * rootG x) (show 0 < (coreG x).natAbs by omega)
  omega
theorem rr_le {r s : Nat} (hr : r ≤ 5) (hs : s ≤ 5) : 0 ≤ (r : Int) * s ∧ (r : Int) * s ≤ 25 := by
  have h := Nat.mul_le_mul hr hs
  have e : (r : Int) * s = ((r * s : Nat) : Int) := by push_cast; rfl
  rw [e]; omega
theorem norm_step {f : Nat} {t : T3} (h : twoD t.a t.b t.c ≠ 1) : normT (f + 1) t = normT f (stepI t) := by
  show (if twoD t.a t.b t.c = 1 then t else normT f (stepI t)) = _
  rw [if_neg h]
theorem normM_step {f : Nat} {t m : T3} (h : twoD t.a t.b t.c ≠ 1) : normM (f + 1) t m = normM f (stepI t) (stepM t m) := by
  show (if twoD t.a t.b t.c = 1 then m else normM f (stepI t) (stepM t m)) = _
  rw [if_neg h]
theorem norm_stop : ∀ {f : Nat} {t : T3}, twoD t.a t.b t.c = 1 → normT f t = t
  | 0, _, _ => rfl
  | f + 1, t, h => by show (if twoD t.a t.b t.c = 1 then t else _) = t; rw [if_pos h]
theorem normM_stop : ∀ {f : Nat} {t m : T3}, twoD t.a t.b t.c = 1 → normM f t m = m
  | 0, _, _, _ => rfl
  | f + 1, t, m, h => by show (if twoD t.a t.b t.c = 1 then m else _) = m; rw [if_pos h]
/-- what the descent keeps -/
structure Desc (N M : T3) (f : Nat) (t m : T3) : Prop where
  eqn : N = normT f t
  eqm : M = normM f t m
  two : twoD N.a N.b N.c = 1
  nz : t.nz
  prod : t.prod ≤ 27000
  inv : MInv 900 t m
theorem Desc.step {N M : T3} {f : Nat} {t m : T3} (h : Desc N M f t m) (h1 : twoD t.a t.b t.c ≠ 1) : ∃ f', f = f' + 1 ∧ Desc N M f' (stepI t) (stepM t m) := by
  cases f with
  | zero =>
    have := h.two
    rw [h.eqn] at this
    exact absurd this h1
  | succ f =>
    refine ⟨f, rfl, h.eqn.trans (norm_step h1), h.eqm.trans (normM_step h1), h.two, (step_ok h.nz h1).1, ?_, step_minv h1 h.inv⟩
    obtain ⟨h2, h3⟩ := step_prod h1
    have h4 := Nat.le_mul_of_pos_right (stepI t).prod (show 0 < twoD t.a t.b t.c by omega)
    exact Nat.le_trans h4 (Nat.le_trans h2 h.prod)
theorem Desc.stop {N M : T3} {f : Nat} {t m : T3} (h : Desc N M f t m) (h1 : twoD t.a t.b t.c = 1) : N = t ∧ M = m := ⟨h.eqn.trans (norm_stop h1), h.eqm.trans (normM_stop h1)⟩
theorem Ok3.desc {a b c : Int} (h : Ok3 a b c) : Desc (nT a b c) (nM a b c) 20 (coreT a b c) (rootM a b c) :=
  ⟨rfl, rfl, h.nrm.two, h.small.nz, Nat.le_trans h.prod.1 h.prod.2, h.minv⟩
theorem m_le {K m p : Nat} (hp : 1 ≤ p) (h : m * m * p ≤ K) (hK : K ≤ 900) : m ≤ 30 := by
  refine Classical.byContradiction fun h2 => ?_
  have h3 := Nat.mul_le_mul (show 31 ≤ m by omega) (show 31 ≤ m by omega)
  have h4 := Nat.le_mul_of_pos_right (m * m) (show 0 < p by omega)
  omega
theorem MInv.le {t m : T3} (h : MInv 900 t m) (ht : t.nz) : (1 ≤ m.a ∧ m.a ≤ 30) ∧ (1 ≤ m.b ∧ m.b ≤ 30) ∧ (1 ≤ m.c ∧ m.c ≤ 30) := by
  obtain ⟨h1, h2, h3, h4, h5, h6⟩ := h
  obtain ⟨ta, tb, tc⟩ := ht
  have pos : ∀ x y : Int, x ≠ 0 → y ≠ 0 → 1 ≤ x.natAbs * y.natAbs := fun x y hx hy => Nat.mul_pos (by omega) (by omega)
  have a1 := m_le (pos _ _ tb tc) h4 (Nat.le_refl _)
  have b1 := m_le (pos _ _ ta tc) h5 (Nat.le_refl _)
  have c1 := m_le (pos _ _ ta tb) h6 (Nat.le_refl _)
  omega
theorem T3.le {t : T3} (h : t.nz) (hp : t.prod ≤ 27000) : (-27000 ≤ t.a ∧ t.a ≤ 27000) ∧ (-27000 ≤ t.b ∧ t.b ≤ 27000) ∧ (-27000 ≤ t.c ∧ t.c ≤ 27000) := by
  obtain ⟨h1, h2, h3, _⟩ := T3.bd h hp
  omega
theorem tdiv_le {x : Int} {p : Nat} (h1 : -27000 ≤ x) (h2 : x ≤ 27000) : -27000 ≤ x.tdiv (p : Int) ∧ x.tdiv (p : Int) ≤ 27000 := by
  have : (x.tdiv (p : Int)).natAbs ≤ 27000 := by
    rw [Int.natAbs_tdiv]
    exact Nat.le_trans (Nat.div_le_self _ _) (by omega)
  omega
theorem mulp_le {x : Int} {p : Nat} (h1 : -27000 ≤ x) (h2 : x ≤ 27000) (hp : p ≤ 27000) : -729000000 ≤ x * (p : Int) ∧ x * (p : Int) ≤ 729000000 := by
  have : (x * (p : Int)).natAbs ≤ 27000 * 27000 := by rw [Int.natAbs_mul, Int.natAbs_natCast]; exact Nat.mul_le_mul (by omega) hp
  omega
theorem step_k2 {t m : T3} (h : twoK t.a t.b t.c = 2) : stepI t = ⟨t.a.tdiv (twoD t.a t.b t.c), t.b.tdiv (twoD t.a t.b t.c), thirdI t.c (twoD t.a t.b t.c)⟩ ∧ stepM t m = ⟨m.a, m.b, thirdM t.c (twoD t.a t.b t.c) m.c⟩ := by
  unfold stepI stepM; rw [if_pos h, if_pos h]; exact ⟨rfl, rfl⟩
theorem step_k1 {t m : T3} (h : twoK t.a t.b t.c = 1) : stepI t = ⟨t.a.tdiv (twoD t.a t.b t.c), thirdI t.b (twoD t.a t.b t.c), t.c.tdiv (twoD t.a t.b t.c)⟩ ∧ stepM t m = ⟨m.a, thirdM t.b (twoD t.a t.b t.c) m.b, m.c⟩ := by
  have h2 : ¬ twoK t.a t.b t.c = 2 := by omega
  unfold stepI stepM; rw [if_neg h2, if_neg h2, if_pos h, if_pos h]; exact ⟨rfl, rfl⟩
theorem step_k0 {t m : T3} (h : twoK t.a t.b t.c = 0) : stepI t = ⟨thirdI t.a (twoD t.a t.b t.c), t.b.tdiv (twoD t.a t.b t.c), t.c.tdiv (twoD t.a t.b t.c)⟩ ∧ stepM t m = ⟨thirdM t.a (twoD t.a t.b t.c) m.a, m.b, m.c⟩ := by
  have h2 : ¬ twoK t.a t.b t.c = 2 := by omega
  have h1 : ¬ twoK t.a t.b t.c = 1 := by omega
  unfold stepI stepM; rw [if_neg h2, if_neg h2, if_neg h1, if_neg h1]; exact ⟨rfl, rfl⟩
theorem two_le {t : T3} (h : t.nz) (hp : t.prod ≤ 27000) : twoD t.a t.b t.c ≤ 27000 := by
  obtain ⟨⟨a1, a2⟩, ⟨b1, b2⟩, c1, c2⟩ := T3.le h hp
  obtain ⟨ta, tb, tc⟩ := h
  have D : ∀ {p : Nat} {x : Int}, (p : Int) ∣ x → x ≠ 0 → -27000 ≤ x → x ≤ 27000 → p ≤ 27000 := fun {p x} hd h0 h1 h2 => by
    have := Nat.le_of_dvd (by omega) (Int.ofNat_dvd_left.1 hd)
    omega
  rcases two_cases t.a t.b t.c with ⟨e, _⟩ | ⟨_, ⟨_, h1, _⟩ | ⟨_, h1, _⟩ | ⟨_, h1, _⟩⟩
  · omega
  · exact D h1 ta a1 a2
  · exact D h1 ta a1 a2
  · exact D h1 tb b1 b2

/-- what the rounds of the descent keep in memory -/
def NormRel (a b c : Int) (w : World) (gt ct gm cm : Nat) (f : Nat) (sp sk : Value) (wr : World) : Prop :=
  ∃ t m : T3, sp = .int .i64 (twoD t.a t.b t.c : Nat) ∧ sk = .int .i64 (twoK t.a t.b t.c : Nat) ∧ Hid (Desc (nT a b c) (nM a b c) f t m) ∧ Hid (Owns wr w.heap.size (.slice (some ⟨gt, 0, none⟩) 3 ct) t.toL) ∧ Hid (Owns wr w.heap.size (.slice (some ⟨gm, 0, none⟩) 3 cm) m.toL) ∧ Hid (Below w.heap.size w wr)
set_option maxRecDepth 100000 in
set_option maxHeartbeats 8000000 in
theorem l5Normal_any (v : Value) (a b c : Int) (ok : Ok3 a b c) (w : World) (h : Rd w v [a, b, c]) : Calls Try.prog 74 #[v] w fun e w' => ∃ u z, e = .returned (.tuple #[u, z]) ∧ Owns w' w.heap.size u (nT a b c).toL ∧ Owns w' w.heap.size z (nM a b c).toL ∧ (∃ g k, u.ownBlock = some g ∧ z.ownBlock = some k ∧ g ≠ k) ∧ Below w.heap.size w w' := by
  obtain ⟨i0, hi, hz0, hz1, hz2⟩ := info_parts infoInt
  obtain ⟨wr0, wr1, wr2, wr3, wr4⟩ := wrap5
  have HH := hid h
  have HOK := hid ok
  have HA0 := hid ok.a0
  have HB0 := hid ok.b0
  have HC0 := hid ok.c0
  have a1 := ok.a1
  have a2 := ok.a2
  have b1 := ok.b1
  have b2 := ok.b2
  have c1 := ok.c1
  have c2 := ok.c2
  have ra := root_le ok.a0 a1 a2
  have rb := root_le ok.b0 b1 b2
  have rc := root_le ok.c0 c1 c2
  have ca := (core_small ok.a0).2.2.1
  have cb := (core_small ok.b0).2.2.1
  have cc := (core_small ok.c0).2.2.1
  have EM : Hid (rootM a b c = ⟨(rootG b : Int) * rootG c, (rootG a : Int) * rootG c, (rootG a : Int) * rootG b⟩) := hid rfl
  have ET : Hid (coreT a b c = ⟨coreG a, coreG b, coreG c⟩) := hid rfl
  obtain ⟨A, hA⟩ : ∃ A, A = coreG a := ⟨_, rfl⟩
  obtain ⟨B, hB⟩ : ∃ B, B = coreG b := ⟨_, rfl⟩
  obtain ⟨C, hC⟩ : ∃ C, C = coreG c := ⟨_, rfl⟩
  obtain ⟨r, hr⟩ : ∃ r, r = rootG a := ⟨_, rfl⟩
  obtain ⟨s, hs⟩ : ∃ s, s = rootG b := ⟨_, rfl⟩
  obtain ⟨q, hq⟩ : ∃ q, q = rootG c := ⟨_, rfl⟩
  have QA := hid hA.symm
  have QB := hid hB.symm
  have QC := hid hC.symm
  have QR := hid hr.symm
  have QS := hid hs.symm
  have QQ := hid hq.symm
  rw [← hA] at ca ET
  rw [← hB] at cb ET
  rw [← hC] at cc ET
  rw [← hr] at ra EM
  rw [← hs] at rb EM
  rw [← hq] at rc EM
  have rs := rr_le ra rb
  have rq := rr_le ra rc
  have sq := rr_le rb rc
  have rs1 := rs.1
  have rs2 := rs.2
  have rq1 := rq.1
  have rq2 := rq.2
  have sq1 := sq.1
  have sq2 := sq.2
  obtain ⟨gv, ov, cap, rfl, k0, k1, k2⟩ := rd_three h
  have HK : Hid (∀ W : World, Below w.heap.size w W → W.cell? ⟨gv, ov, none⟩ = some (.int .i64 a) ∧ W.cell? ⟨gv, ov + 1, none⟩ = some (.int .i64 b) ∧ W.cell? ⟨gv, ov + 2, none⟩ = some (.int .i64 c)) := hid (fun W hW => by
    obtain ⟨g2, o2, cap2, e, j0, j1, j2⟩ := rd_three (HH.out.keep hW)
    cases e
    exact ⟨j0, j1, j2⟩)
  have hb0 : Below w.heap.size w ((w.alloc (.cells #[] 3)).alloc (.cells #[.int .i64 1, .int .i64 1, .int .i64 1] 3)) := ((Below.refl _ _).alloc (Nat.le_refl _) _).alloc (by simp) _
  have ho0 : Owns ((w.alloc (.cells #[] 3)).alloc (.cells #[.int .i64 1, .int .i64 1, .int .i64 1] 3)) w.heap.size (.slice (some ⟨w.heap.size, 0, none⟩) 0 0) [] := by
    have : Owns (w.alloc (.cells #[] 3)) w.heap.size (.slice (some ⟨w.heap.size, 0, none⟩) 0 0) [] := World.ownsRow_made (size := 1) w #[] 0 (Nat.le_refl _) (by unfold maxLen; omega) rfl
    exact this.alloc _
  have hm0 : Owns ((w.alloc (.cells #[] 3)).alloc (.cells #[.int .i64 1, .int .i64 1, .int .i64 1] 3)) w.heap.size (.slice (some ⟨w.heap.size + 1, 0, none⟩) 3 3) [1, 1, 1] := by
    have := owns_lit (W := w.alloc (.cells #[] 3)) (B := w.heap.size) [1, 1, 1] _ rfl (by simp) (by unfold maxLen; simp)
    simpa using this
  have HB00 := hid hb0
  have HO00 := hid ho0
  have HM00 := hid hm0
  clear h ok hA hB hC hr hs hq rs rq sq hb0 ho0 hm0
  go_enter Try.func74, Try.ntmps74
  go_wp2_with fail
  go_loopw [4, 6] (fun sst si wr => ∃ (K : Nat) (L Z : List Int) (st : Value), st = sst ∧ si = .int .i64 K ∧ ((K = 0 ∧ L = [] ∧ Z = [1, 1, 1]) ∨ (K = 1 ∧ L = [A] ∧ Z = [1, (r : Int), (r : Int)]) ∨ (K = 2 ∧ L = [A, B] ∧ Z = [(s : Int), (r : Int), (r : Int) * s]) ∨ (K = 3 ∧ L = [A, B, C] ∧ Z = [(s : Int) * q, (r : Int) * q, (r : Int) * s])) ∧ Hid (Owns wr w.heap.size st L) ∧ Hid (Apart st (w.heap.size + 1)) ∧ Hid (Owns wr w.heap.size (.slice (some ⟨w.heap.size + 1, 0, none⟩) 3 3) Z) ∧ Hid (Below w.heap.size w wr)) (fun _ si _ => 3 - (intOf si).toNat)
  case atStart => exact ⟨0, [], [1, 1, 1], _, rfl, rfl, .inl ⟨rfl, rfl, rfl⟩, HO00, hid (fun k e => by have : k = w.heap.size := (Option.some.inj e).symm; omega), HM00, HB00⟩
  case round =>
    obtain ⟨K, L, Z, st, rfl, rfl, hK, HO, HAP, HM, HB⟩ := hrel
    rename World => wr
    have hsz := HB.out.size
    have hgm := HM.out.lt (w.heap.size + 1) rfl
    obtain ⟨j0, j1, j2⟩ := HK.out wr HB.out
    rcases hK with ⟨rfl, hL, rfl⟩ | ⟨rfl, hL, rfl⟩ | ⟨rfl, hL, rfl⟩ | ⟨rfl, rfl, rfl⟩
    · have hll : L.length = 0 := by rw [hL]; rfl
      have HL := hid hL
      have FACT : ∀ (v' : Value) (w3 : World), w3.ownsRow w.heap.size 3 1 v' (L.length + 1) (L.map (Value.int .i64) ++ [.int .i64 A]) → (wr.alloc (.cells #[.int .i64 A] 3)).grownBy w3 st.ownBlock → (v'.ownBlock = st.ownBlock ∨ v'.ownBlock = some (wr.alloc (.cells #[.int .i64 A] 3)).heap.size) →
          w3.cell? ⟨w.heap.size + 1, 1, none⟩ = some (.int .i64 (1)) ∧ w3.frozen? ⟨w.heap.size + 1, 1, none⟩ = false ∧ (w3.setCell ⟨w.heap.size + 1, 1, none⟩ (.int .i64 ((r : Int)))).cell? ⟨w.heap.size + 1, 2, none⟩ = some (.int .i64 (1)) ∧ (w3.setCell ⟨w.heap.size + 1, 1, none⟩ (.int .i64 ((r : Int)))).frozen? ⟨w.heap.size + 1, 2, none⟩ = false ∧ w.heap.size + 1 < w3.heap.size ∧ Hid (Owns ((w3.setCell ⟨w.heap.size + 1, 1, none⟩ (.int .i64 ((r : Int)))).setCell ⟨w.heap.size + 1, 2, none⟩ (.int .i64 ((r : Int)))) w.heap.size v' [A]) ∧ Hid (Apart v' (w.heap.size + 1)) ∧ Hid (Owns ((w3.setCell ⟨w.heap.size + 1, 1, none⟩ (.int .i64 ((r : Int)))).setCell ⟨w.heap.size + 1, 2, none⟩ (.int .i64 ((r : Int)))) w.heap.size (.slice (some ⟨w.heap.size + 1, 0, none⟩) 3 3) [1, (r : Int), (r : Int)]) ∧ Hid (Below w.heap.size w ((w3.setCell ⟨w.heap.size + 1, 1, none⟩ (.int .i64 ((r : Int)))).setCell ⟨w.heap.size + 1, 2, none⟩ (.int .i64 ((r : Int))))) := fun v' w3 hown' hgrow hat => by
        have hsg := hgrow.size
        simp only [World.size_alloc] at hsg
        have HO2' : Owns w3 w.heap.size v' (L ++ [A]) := by unfold Owns; simpa using hown'
        have HO2 : Owns w3 w.heap.size v' [A] := by have h := HO2'; rw [hL] at h; exact h
        have HAP2 : Apart v' (w.heap.size + 1) := fun k e => by
          rcases hat with h | h
          · exact HAP.out k (h.symm.trans e)
          · have : k = (wr.alloc (.cells #[.int .i64 A] 3)).heap.size := Option.some.inj (e.symm.trans h)
            rw [this]; simp; omega
        have HM2 : Owns w3 w.heap.size (.slice (some ⟨w.heap.size + 1, 0, none⟩) 3 3) [1, 1, 1] := (World.ownsRow.kept (show World.ownsRow _ _ _ _ _ _ _ from HM.out.alloc (.cells #[.int .i64 A] 3)) hgrow (.inr (fun e2 => HAP.out (w.heap.size + 1) e2.symm rfl)))
        have HB2 := (HB.out.alloc hsz (.cells #[.int .i64 A] 3)).grown hgrow (by simp; omega) (fun k e => (HO.out.ge k e))
        have q1 : w3.cell? ⟨w.heap.size + 1, 1, none⟩ = some (.int .i64 (1)) := HM2.elem (i := 1) (by simp)
        have f1 := HM2.thaw 1
        have HS1 := HM2.storeAt 1 ((r : Int))
        have HM3 : Owns (w3.setCell ⟨w.heap.size + 1, 1, none⟩ (.int .i64 ((r : Int)))) w.heap.size (.slice (some ⟨w.heap.size + 1, 0, none⟩) 3 3) [1, (r : Int), 1] := HS1.1
        have q2 : (w3.setCell ⟨w.heap.size + 1, 1, none⟩ (.int .i64 ((r : Int)))).cell? ⟨w.heap.size + 1, 2, none⟩ = some (.int .i64 (1)) := HM3.elem (i := 2) (by simp)
        have f2 := HM3.thaw 2
        have HS2 := HM3.storeAt 2 ((r : Int))
        have HM4 : Owns ((w3.setCell ⟨w.heap.size + 1, 1, none⟩ (.int .i64 ((r : Int)))).setCell ⟨w.heap.size + 1, 2, none⟩ (.int .i64 ((r : Int)))) w.heap.size (.slice (some ⟨w.heap.size + 1, 0, none⟩) 3 3) [1, (r : Int), (r : Int)] := HS2.1
        have HO4 := (HO2.other HS1.2 HAP2).other HS2.2 HAP2
        have HB3 := HB2.grown HS1.2 HB2.size (fun k e => by cases e; omega)
        have HB4 := HB3.grown HS2.2 HB3.size (fun k e => by cases e; omega)
        exact ⟨q1, f1, q2, f2, by omega, hid HO4, hid HAP2, hid HM4, hid HB4⟩
      have HF := hid FACT
      clear hL FACT
      go_wp2_with (first | (go_at_call 87; refine (l1CoreG_any _ HA0.out (by omega) (by omega) _).mono ?_; rw [QA.out, QR.out]; rintro e w' ⟨rfl, rfl⟩) | (at_builtin; refine wpList_append_own_at _ rfl _ _ 23 rfl w.heap.size 3 i0 (.int .i64 0) 1 8 Try.underlying23 hi hz0 hz1 hz2 rfl (by decide) _ _ _ rfl ((show World.ownsRow _ _ _ _ _ _ _ from HO.out).alloc _) ⟨wr.heap.size, 0, none⟩ 1 1 [.int .i64 A] rfl rfl (cell_one_new _ _ _) (by simp [Value.oneCell']) (by unfold maxLen; omega) (by omega) (by simp; omega) ?_; intro v' w3 hown' hgrow _ hat; obtain ⟨q1, f1, q2, f2, hgl3, HO4, HAP2, HM4, HB4⟩ := HF.out _ _ hown' hgrow hat; clear hown' hgrow hat))
      go_roundw
      case measure => simp only [intOf]; omega
      case rel => exact ⟨1, [A], [1, (r : Int), (r : Int)], _, rfl, by first | rfl | go_num, .inr (.inl ⟨rfl, rfl, rfl⟩), HO4, HAP2, HM4, HB4⟩
    · have hll : L.length = 1 := by rw [hL]; rfl
      have HL := hid hL
      have FACT : ∀ (v' : Value) (w3 : World), w3.ownsRow w.heap.size 3 1 v' (L.length + 1) (L.map (Value.int .i64) ++ [.int .i64 B]) → (wr.alloc (.cells #[.int .i64 B] 3)).grownBy w3 st.ownBlock → (v'.ownBlock = st.ownBlock ∨ v'.ownBlock = some (wr.alloc (.cells #[.int .i64 B] 3)).heap.size) →
          w3.cell? ⟨w.heap.size + 1, 2, none⟩ = some (.int .i64 ((r : Int))) ∧ w3.frozen? ⟨w.heap.size + 1, 2, none⟩ = false ∧ (w3.setCell ⟨w.heap.size + 1, 2, none⟩ (.int .i64 ((r : Int) * s))).cell? ⟨w.heap.size + 1, 0, none⟩ = some (.int .i64 (1)) ∧ (w3.setCell ⟨w.heap.size + 1, 2, none⟩ (.int .i64 ((r : Int) * s))).frozen? ⟨w.heap.size + 1, 0, none⟩ = false ∧ w.heap.size + 1 < w3.heap.size ∧ Hid (Owns ((w3.setCell ⟨w.heap.size + 1, 2, none⟩ (.int .i64 ((r : Int) * s))).setCell ⟨w.heap.size + 1, 0, none⟩ (.int .i64 ((s : Int)))) w.heap.size v' [A, B]) ∧ Hid (Apart v' (w.heap.size + 1)) ∧ Hid (Owns ((w3.setCell ⟨w.heap.size + 1, 2, none⟩ (.int .i64 ((r : Int) * s))).setCell ⟨w.heap.size + 1, 0, none⟩ (.int .i64 ((s : Int)))) w.heap.size (.slice (some ⟨w.heap.size + 1, 0, none⟩) 3 3) [(s : Int), (r : Int), (r : Int) * s]) ∧ Hid (Below w.heap.size w ((w3.setCell ⟨w.heap.size + 1, 2, none⟩ (.int .i64 ((r : Int) * s))).setCell ⟨w.heap.size + 1, 0, none⟩ (.int .i64 ((s : Int))))) := fun v' w3 hown' hgrow hat => by
        have hsg := hgrow.size
        simp only [World.size_alloc] at hsg
        have HO2' : Owns w3 w.heap.size v' (L ++ [B]) := by unfold Owns; simpa using hown'
        have HO2 : Owns w3 w.heap.size v' [A, B] := by have h := HO2'; rw [hL] at h; exact h
        have HAP2 : Apart v' (w.heap.size + 1) := fun k e => by
          rcases hat with h | h
          · exact HAP.out k (h.symm.trans e)
          · have : k = (wr.alloc (.cells #[.int .i64 B] 3)).heap.size := Option.some.inj (e.symm.trans h)
            rw [this]; simp; omega
        have HM2 : Owns w3 w.heap.size (.slice (some ⟨w.heap.size + 1, 0, none⟩) 3 3) [1, (r : Int), (r : Int)] := (World.ownsRow.kept (show World.ownsRow _ _ _ _ _ _ _ from HM.out.alloc (.cells #[.int .i64 B] 3)) hgrow (.inr (fun e2 => HAP.out (w.heap.size + 1) e2.symm rfl)))
        have HB2 := (HB.out.alloc hsz (.cells #[.int .i64 B] 3)).grown hgrow (by simp; omega) (fun k e => (HO.out.ge k e))
        have q1 : w3.cell? ⟨w.heap.size + 1, 2, none⟩ = some (.int .i64 ((r : Int))) := HM2.elem (i := 2) (by simp)
        have f1 := HM2.thaw 2
        have HS1 := HM2.storeAt 2 ((r : Int) * s)
        have HM3 : Owns (w3.setCell ⟨w.heap.size + 1, 2, none⟩ (.int .i64 ((r : Int) * s))) w.heap.size (.slice (some ⟨w.heap.size + 1, 0, none⟩) 3 3) [1, (r : Int), (r : Int) * s] := HS1.1
        have q2 : (w3.setCell ⟨w.heap.size + 1, 2, none⟩ (.int .i64 ((r : Int) * s))).cell? ⟨w.heap.size + 1, 0, none⟩ = some (.int .i64 (1)) := HM3.elem (i := 0) (by simp)
        have f2 := HM3.thaw 0
        have HS2 := HM3.storeAt 0 ((s : Int))
        have HM4 : Owns ((w3.setCell ⟨w.heap.size + 1, 2, none⟩ (.int .i64 ((r : Int) * s))).setCell ⟨w.heap.size + 1, 0, none⟩ (.int .i64 ((s : Int)))) w.heap.size (.slice (some ⟨w.heap.size + 1, 0, none⟩) 3 3) [(s : Int), (r : Int), (r : Int) * s] := HS2.1
        have HO4 := (HO2.other HS1.2 HAP2).other HS2.2 HAP2
        have HB3 := HB2.grown HS1.2 HB2.size (fun k e => by cases e; omega)
        have HB4 := HB3.grown HS2.2 HB3.size (fun k e => by cases e; omega)
        exact ⟨q1, f1, q2, f2, by omega, hid HO4, hid HAP2, hid HM4, hid HB4⟩
      have HF := hid FACT
      clear hL FACT
      go_wp2_with (first | (go_at_call 87; refine (l1CoreG_any _ HB0.out (by omega) (by omega) _).mono ?_; rw [QB.out, QS.out]; rintro e w' ⟨rfl, rfl⟩) | (at_builtin; refine wpList_append_own_at _ rfl _ _ 23 rfl w.heap.size 3 i0 (.int .i64 0) 1 8 Try.underlying23 hi hz0 hz1 hz2 rfl (by decide) _ _ _ rfl ((show World.ownsRow _ _ _ _ _ _ _ from HO.out).alloc _) ⟨wr.heap.size, 0, none⟩ 1 1 [.int .i64 B] rfl rfl (cell_one_new _ _ _) (by simp [Value.oneCell']) (by unfold maxLen; omega) (by omega) (by simp; omega) ?_; intro v' w3 hown' hgrow _ hat; obtain ⟨q1, f1, q2, f2, hgl3, HO4, HAP2, HM4, HB4⟩ := HF.out _ _ hown' hgrow hat; clear hown' hgrow hat))
      go_roundw
      case measure => simp only [intOf]; omega
      case rel => exact ⟨2, [A, B], [(s : Int), (r : Int), (r : Int) * s], _, rfl, by first | rfl | go_num, .inr (.inr (.inl ⟨rfl, rfl, rfl⟩)), HO4, HAP2, HM4, HB4⟩
    · have hll : L.length = 2 := by rw [hL]; rfl
      have HL := hid hL
      have FACT : ∀ (v' : Value) (w3 : World), w3.ownsRow w.heap.size 3 1 v' (L.length + 1) (L.map (Value.int .i64) ++ [.int .i64 C]) → (wr.alloc (.cells #[.int .i64 C] 3)).grownBy w3 st.ownBlock → (v'.ownBlock = st.ownBlock ∨ v'.ownBlock = some (wr.alloc (.cells #[.int .i64 C] 3)).heap.size) →
          w3.cell? ⟨w.heap.size + 1, 0, none⟩ = some (.int .i64 ((s : Int))) ∧ w3.frozen? ⟨w.heap.size + 1, 0, none⟩ = false ∧ (w3.setCell ⟨w.heap.size + 1, 0, none⟩ (.int .i64 ((s : Int) * q))).cell? ⟨w.heap.size + 1, 1, none⟩ = some (.int .i64 ((r : Int))) ∧ (w3.setCell ⟨w.heap.size + 1, 0, none⟩ (.int .i64 ((s : Int) * q))).frozen? ⟨w.heap.size + 1, 1, none⟩ = false ∧ w.heap.size + 1 < w3.heap.size ∧ Hid (Owns ((w3.setCell ⟨w.heap.size + 1, 0, none⟩ (.int .i64 ((s : Int) * q))).setCell ⟨w.heap.size + 1, 1, none⟩ (.int .i64 ((r : Int) * q))) w.heap.size v' [A, B, C]) ∧ Hid (Apart v' (w.heap.size + 1)) ∧ Hid (Owns ((w3.setCell ⟨w.heap.size + 1, 0, none⟩ (.int .i64 ((s : Int) * q))).setCell ⟨w.heap.size + 1, 1, none⟩ (.int .i64 ((r : Int) * q))) w.heap.size (.slice (some ⟨w.heap.size + 1, 0, none⟩) 3 3) [(s : Int) * q, (r : Int) * q, (r : Int) * s]) ∧ Hid (Below w.heap.size w ((w3.setCell ⟨w.heap.size + 1, 0, none⟩ (.int .i64 ((s : Int) * q))).setCell ⟨w.heap.size + 1, 1, none⟩ (.int .i64 ((r : Int) * q)))) := fun v' w3 hown' hgrow hat => by
        have hsg := hgrow.size
        simp only [World.size_alloc] at hsg
        have HO2' : Owns w3 w.heap.size v' (L ++ [C]) := by unfold Owns; simpa using hown'
        have HO2 : Owns w3 w.heap.size v' [A, B, C] := by have h := HO2'; rw [hL] at h; exact h
        have HAP2 : Apart v' (w.heap.size + 1) := fun k e => by
          rcases hat with h | h
          · exact HAP.out k (h.symm.trans e)
          · have : k = (wr.alloc (.cells #[.int .i64 C] 3)).heap.size := Option.some.inj (e.symm.trans h)
            rw [this]; simp; omega
        have HM2 : Owns w3 w.heap.size (.slice (some ⟨w.heap.size + 1, 0, none⟩) 3 3) [(s : Int), (r : Int), (r : Int) * s] := (World.ownsRow.kept (show World.ownsRow _ _ _ _ _ _ _ from HM.out.alloc (.cells #[.int .i64 C] 3)) hgrow (.inr (fun e2 => HAP.out (w.heap.size + 1) e2.symm rfl)))
        have HB2 := (HB.out.alloc hsz (.cells #[.int .i64 C] 3)).grown hgrow (by simp; omega) (fun k e => (HO.out.ge k e))
        have q1 : w3.cell? ⟨w.heap.size + 1, 0, none⟩ = some (.int .i64 ((s : Int))) := HM2.elem (i := 0) (by simp)
        have f1 := HM2.thaw 0
        have HS1 := HM2.storeAt 0 ((s : Int) * q)
        have HM3 : Owns (w3.setCell ⟨w.heap.size + 1, 0, none⟩ (.int .i64 ((s : Int) * q))) w.heap.size (.slice (some ⟨w.heap.size + 1, 0, none⟩) 3 3) [(s : Int) * q, (r : Int), (r : Int) * s] := HS1.1
        have q2 : (w3.setCell ⟨w.heap.size + 1, 0, none⟩ (.int .i64 ((s : Int) * q))).cell? ⟨w.heap.size + 1, 1, none⟩ = some (.int .i64 ((r : Int))) := HM3.elem (i := 1) (by simp)
        have f2 := HM3.thaw 1
        have HS2 := HM3.storeAt 1 ((r : Int) * q)
        have HM4 : Owns ((w3.setCell ⟨w.heap.size + 1, 0, none⟩ (.int .i64 ((s : Int) * q))).setCell ⟨w.heap.size + 1, 1, none⟩ (.int .i64 ((r : Int) * q))) w.heap.size (.slice (some ⟨w.heap.size + 1, 0, none⟩) 3 3) [(s : Int) * q, (r : Int) * q, (r : Int) * s] := HS2.1
        have HO4 := (HO2.other HS1.2 HAP2).other HS2.2 HAP2
        have HB3 := HB2.grown HS1.2 HB2.size (fun k e => by cases e; omega)
        have HB4 := HB3.grown HS2.2 HB3.size (fun k e => by cases e; omega)
        exact ⟨q1, f1, q2, f2, by omega, hid HO4, hid HAP2, hid HM4, hid HB4⟩
      have HF := hid FACT
      clear hL FACT
      go_wp2_with (first | (go_at_call 87; refine (l1CoreG_any _ HC0.out (by omega) (by omega) _).mono ?_; rw [QC.out, QQ.out]; rintro e w' ⟨rfl, rfl⟩) | (at_builtin; refine wpList_append_own_at _ rfl _ _ 23 rfl w.heap.size 3 i0 (.int .i64 0) 1 8 Try.underlying23 hi hz0 hz1 hz2 rfl (by decide) _ _ _ rfl ((show World.ownsRow _ _ _ _ _ _ _ from HO.out).alloc _) ⟨wr.heap.size, 0, none⟩ 1 1 [.int .i64 C] rfl rfl (cell_one_new _ _ _) (by simp [Value.oneCell']) (by unfold maxLen; omega) (by omega) (by simp; omega) ?_; intro v' w3 hown' hgrow _ hat; obtain ⟨q1, f1, q2, f2, hgl3, HO4, HAP2, HM4, HB4⟩ := HF.out _ _ hown' hgrow hat; clear hown' hgrow hat))
      go_roundw
      case measure => simp only [intOf]; omega
      case rel => exact ⟨3, [A, B, C], [(s : Int) * q, (r : Int) * q, (r : Int) * s], _, rfl, by first | rfl | go_num, .inr (.inr (.inr (⟨rfl, rfl, rfl⟩))), HO4, HAP2, HM4, HB4⟩
    · obtain ⟨gt, ct, rfl, hgt, hgl⟩ := HO.out.block_of (by simp)
      have HNE : Hid (gt ≠ w.heap.size + 1) := hid (HAP.out gt rfl)
      have HD := hid HOK.out.desc
      rw [ET.out, EM.out] at HD
      have HDZ := hid HD.out.nz
      have HDL := hid (T3.le HD.out.nz HD.out.prod)
      have HTW := hid (l5Two_any _ A B C HDZ.out.1 HDZ.out.2.1 HDZ.out.2.2 (by have := HDL.out.1; dsimp only at this; omega) (by have := HDL.out.1; dsimp only at this; omega) (by have := HDL.out.2.1; dsimp only at this; omega) (by have := HDL.out.2.1; dsimp only at this; omega) (by have := HDL.out.2.2; dsimp only at this; omega) (by have := HDL.out.2.2; dsimp only at this; omega) wr HO.out.rd)
      go_wp2_with fail
      refine (HTW.out).mono ?_
      rintro e w2 ⟨rfl, hb2⟩
      have HO2 := hid (HO.out.keep HO.out.lt hb2)
      have HM2 := hid (HM.out.keep HM.out.lt hb2)
      have HB2 := hid (HB.out.trans (hb2.mono hsz))
      clear hb2 HTW HDZ HDL HO HM HB HAP
      go_wp2_with fail
      go_loopg [9, 10] 20 (NormRel a b c w gt ct (w.heap.size + 1) 3)
      case atStart => exact ⟨⟨A, B, C⟩, ⟨(s : Int) * q, (r : Int) * q, (r : Int) * s⟩, rfl, rfl, HD, HO2, HM2, HB2⟩
      case round =>
        obtain ⟨t, m, rfl, rfl, HD, HO, HM, HB⟩ := hrel
        rename World => wx
        have hsx := HB.out.size
        have hgtx := HO.out.lt gt rfl
        have hgmx := HM.out.lt (w.heap.size + 1) rfl
        by_cases h1 : twoD t.a t.b t.c = 1
        · have hst := HD.out.stop h1
          have HO3 : Hid (Owns wx w.heap.size (.slice (some ⟨gt, 0, none⟩) 3 ct) (nT a b c).toL) := hid (by rw [hst.1]; exact HO.out)
          have HM3 : Hid (Owns wx w.heap.size (.slice (some ⟨w.heap.size + 1, 0, none⟩) 3 3) (nM a b c).toL) := hid (by rw [hst.2]; exact HM.out)
          rw [h1]
          clear hst h1
          go_wp2_with fail
          go_ret2
          exact ⟨_, _, rfl, HO3.out, HM3.out, ⟨gt, w.heap.size + 1, rfl, rfl, HNE.out⟩, HB.out⟩
        · obtain ⟨f', rfl, hds⟩ := HD.out.step h1
          have hle := T3.le HD.out.nz HD.out.prod
          have hml := HD.out.inv.le HD.out.nz
          have hpl := two_le HD.out.nz HD.out.prod
          have hcs := two_cases t.a t.b t.c
          have hk2 := step_k2 (t := t) (m := m)
          have hk1 := step_k1 (t := t) (m := m)
          have hk0 := step_k0 (t := t) (m := m)
          have hst := (step_prod h1).2
          have HZ2 := hid (hds.nz)
          have HL2 := hid (T3.le hds.nz hds.prod)
          have HDS := hid hds
          obtain ⟨p, hp⟩ : ∃ p, p = twoD t.a t.b t.c := ⟨_, rfl⟩
          rw [← hp] at hpl hcs hk2 hk1 hk0 hst h1 ⊢
          obtain ⟨ta, tb, tc⟩ := t
          obtain ⟨ma, mb, mc⟩ := m
          dsimp only at hle hml hcs hk2 hk1 hk0 hp ⊢
          obtain ⟨⟨ta1, ta2⟩, ⟨tb1, tb2⟩, tc1, tc2⟩ := hle
          obtain ⟨⟨ma1, ma2⟩, ⟨mb1, mb2⟩, mc1, mc2⟩ := hml
          have hp1 : (1 : Int) < (p : Int) := by omega
          have P0 : ((p : Int) == 0) = false := by rw [beq_eq_false_iff_ne]; omega
          have HO' : Owns wx w.heap.size (.slice (some ⟨gt, 0, none⟩) 3 ct) [ta, tb, tc] := HO.out
          have HM' : Owns wx w.heap.size (.slice (some ⟨w.heap.size + 1, 0, none⟩) 3 3) [ma, mb, mc] := HM.out
          have da := tdiv_le (p := p) ta1 ta2
          have db := tdiv_le (p := p) tb1 tb2
          have dc := tdiv_le (p := p) tc1 tc2
          have da1 := da.1
          have da2 := da.2
          have db1 := db.1
          have db2 := db.2
          have dc1 := dc.1
          have dc2 := dc.2
          have mpa := mulp_le (p := p) ta1 ta2 hpl
          have mpb := mulp_le (p := p) tb1 tb2 hpl
          have mpc := mulp_le (p := p) tc1 tc2 hpl
          have nma := mulp_le (p := p) (x := ma) (by omega) (by omega) hpl
          have nmb := mulp_le (p := p) (x := mb) (by omega) (by omega) hpl
          have nmc := mulp_le (p := p) (x := mc) (by omega) (by omega) hpl
          have mpa1 := mpa.1
          have mpa2 := mpa.2
          have mpb1 := mpb.1
          have mpb2 := mpb.2
          have mpc1 := mpc.1
          have mpc2 := mpc.2
          have nma1 := nma.1
          have nma2 := nma.2
          have nmb1 := nmb.1
          have nmb2 := nmb.2
          have nmc1 := nmc.1
          have nmc2 := nmc.2
          have HHP := hid hp
          have HNE1 := HNE.out
          have HOO := hid HO'
          have HMM := hid HM'
          clear da db dc mpa mpb mpc nma nmb nmc hds hp HO HM HO' HM' HD
          rcases hcs with ⟨e, _⟩ | ⟨_, hcs⟩
          · exact absurd e h1
          have hcs2 : twoK ta tb tc = 2 ∨ twoK ta tb tc = 1 ∨ twoK ta tb tc = 0 := by
            rcases hcs with ⟨h, _⟩ | ⟨h, _⟩ | ⟨h, _⟩
            · exact .inl h
            · exact .inr (.inl h)
            · exact .inr (.inr h)
          clear hcs h1 hst
          rcases hcs2 with hk | hk | hk
          · have hE := hk2 hk
            rw [hk]
            clear hk hk0 hk1 hk2
            rw [hE.1, hE.2] at HDS
            rw [hE.1] at HZ2 HL2
            clear hE
            have o1 := HOO.out.elem (i := 0) (by simp)
            have f1 := HOO.out.thaw 0
            have HS1 := hid (HOO.out.storeAt 0 (ta.tdiv (p : Int)))
            obtain ⟨w1, hw1⟩ : ∃ w1, w1 = wx.setCell ⟨gt, 0, none⟩ (.int .i64 (ta.tdiv (p : Int))) := ⟨_, rfl⟩
            rw [← hw1] at HS1
            have o2 := HS1.out.1.elem (i := 1) (by simp)
            have f2 := HS1.out.1.thaw 1
            have HS2 := hid (HS1.out.1.storeAt 1 (tb.tdiv (p : Int)))
            have HMA := hid (HMM.out.other HS1.out.2 (fun k e => by cases e; exact fun h => HNE1 h.symm))
            have HBA := hid (HB.out.grown HS1.out.2 HB.out.size (fun k e => by cases e; exact hgt))
            obtain ⟨w2, hw2⟩ : ∃ w2, w2 = w1.setCell ⟨gt, 1, none⟩ (.int .i64 (tb.tdiv (p : Int))) := ⟨_, rfl⟩
            rw [← hw2] at HS2
            have o3 := HS2.out.1.elem (i := 2) (by simp)
            have f3 := HS2.out.1.thaw 2
            have HMB := hid (HMA.out.other HS2.out.2 (fun k e => by cases e; exact fun h => HNE1 h.symm))
            have HBB := hid (HBA.out.grown HS2.out.2 HBA.out.size (fun k e => by cases e; exact hgt))
            have z3 := HMB.out.elem (i := 2) (by simp)
            have g3 := HMB.out.thaw 2
            simp only [List.set_cons_zero, List.set_cons_succ, List.getD_cons_zero, List.getD_cons_succ] at o1 o2 o3 z3
            have TZ := tmod_zero (n := tc) (c := (p : Int))
            have hsw1 : wx.setCell ⟨gt, 0, none⟩ (.int .i64 (ta.tdiv (p : Int))) = w1 := hw1.symm
            have hsw2 : w1.setCell ⟨gt, 1, none⟩ (.int .i64 (tb.tdiv (p : Int))) = w2 := hw2.symm
            have hgt2 : gt < w2.heap.size := HS2.out.1.lt gt rfl
            by_cases hd : tc.tmod (p : Int) = 0
            · have TD : (tc.tmod (p : Int) == 0) = true := by rw [beq_iff_eq]; exact hd
              have E3 : thirdI tc p = tc.tdiv (p : Int) := by unfold thirdI; rw [if_pos (TZ.1 hd)]
              have E4 : thirdM tc p mc = mc := by unfold thirdM; rw [if_pos (TZ.1 hd)]
              rw [E3, E4] at HDS
              rw [E3] at HZ2 HL2
              have HS3 := hid (HS2.out.1.storeAt 2 (tc.tdiv (p : Int)))
              have HMC := hid (HMB.out.other HS3.out.2 (fun k e => by cases e; exact fun h => HNE1 h.symm))
              have HBC := hid (HBB.out.grown HS3.out.2 HBB.out.size (fun k e => by cases e; exact hgt))
              obtain ⟨w3, hw3⟩ : ∃ w3, w3 = w2.setCell ⟨gt, 2, none⟩ (.int .i64 (tc.tdiv (p : Int))) := ⟨_, rfl⟩
              rw [← hw3] at HS3 HMC HBC
              have hsw3 : w2.setCell ⟨gt, 2, none⟩ (.int .i64 (tc.tdiv (p : Int))) = w3 := hw3.symm
              have HTW := hid (l5Two_any _ (ta.tdiv (p : Int)) (tb.tdiv (p : Int)) (tc.tdiv (p : Int)) HZ2.out.1 HZ2.out.2.1 HZ2.out.2.2 (by have h : -27000 ≤ (ta.tdiv (p : Int)) := HL2.out.1.1; omega) (by have h : (ta.tdiv (p : Int)) ≤ 27000 := HL2.out.1.2; omega) (by have h : -27000 ≤ (tb.tdiv (p : Int)) := HL2.out.2.1.1; omega) (by have h : (tb.tdiv (p : Int)) ≤ 27000 := HL2.out.2.1.2; omega) (by have h : -27000 ≤ (tc.tdiv (p : Int)) := HL2.out.2.2.1; omega) (by have h : (tc.tdiv (p : Int)) ≤ 27000 := HL2.out.2.2.2; omega) w3 HS3.out.1.rd)
              have HSO := hid HS3.out.1
              have hs3 := HBC.out.size
              clear hw1 hw2 hw3 HS1 HS2 HS3 HMA HMB HBA HBB E3 E4 TZ hd
              go_wp2_with fail
              refine (HTW.out).mono ?_
              rintro e w4 ⟨rfl, hb4⟩
              have HO4 := hid (HSO.out.keep HSO.out.lt hb4)
              have HM4 := hid (HMC.out.keep HMC.out.lt hb4)
              have HB4 := hid (HBC.out.trans (hb4.mono hs3))
              clear hb4 HTW
              go_wp2_with fail
              go_roundg f'
              case measure => omega
              case rel => exact ⟨_, _, rfl, rfl, HDS, HO4, HM4, HB4⟩
            · have TD : (tc.tmod (p : Int) == 0) = false := by rw [beq_eq_false_iff_ne]; exact hd
              have E3 : thirdI tc p = tc * (p : Int) := by unfold thirdI; rw [if_neg (fun h => hd (TZ.2 h))]
              have E4 : thirdM tc p mc = mc * (p : Int) := by unfold thirdM; rw [if_neg (fun h => hd (TZ.2 h))]
              rw [E3, E4] at HDS
              rw [E3] at HZ2 HL2
              have HS3 := hid (HS2.out.1.storeAt 2 (tc * (p : Int)))
              have HMC := hid (HMB.out.other HS3.out.2 (fun k e => by cases e; exact fun h => HNE1 h.symm))
              have HBC := hid (HBB.out.grown HS3.out.2 HBB.out.size (fun k e => by cases e; exact hgt))
              obtain ⟨w3, hw3⟩ : ∃ w3, w3 = w2.setCell ⟨gt, 2, none⟩ (.int .i64 (tc * (p : Int))) := ⟨_, rfl⟩
              rw [← hw3] at HS3 HMC HBC
              have hsw3 : w2.setCell ⟨gt, 2, none⟩ (.int .i64 (tc * (p : Int))) = w3 := hw3.symm
              have z4 : w3.cell? ⟨w.heap.size + 1, 2, none⟩ = some (.int .i64 mc) := HMC.out.elem (i := 2) (by simp)
              have g4 := HMC.out.thaw 2
              have HS4 := hid (HMC.out.storeAt 2 (mc * (p : Int)))
              have HOD := hid (HS3.out.1.other HS4.out.2 (fun k e => by cases e; exact HNE1))
              have HBD := hid (HBC.out.grown HS4.out.2 HBC.out.size (fun k e => by cases e; omega))
              obtain ⟨w5, hw5⟩ : ∃ w5, w5 = w3.setCell ⟨w.heap.size + 1, 2, none⟩ (.int .i64 (mc * (p : Int))) := ⟨_, rfl⟩
              rw [← hw5] at HS4 HOD HBD
              have hsw5 : w3.setCell ⟨w.heap.size + 1, 2, none⟩ (.int .i64 (mc * (p : Int))) = w5 := hw5.symm
              have HTW := hid (l5Two_any _ (ta.tdiv (p : Int)) (tb.tdiv (p : Int)) (tc * (p : Int)) HZ2.out.1 HZ2.out.2.1 HZ2.out.2.2 (by have h : -27000 ≤ (ta.tdiv (p : Int)) := HL2.out.1.1; omega) (by have h : (ta.tdiv (p : Int)) ≤ 27000 := HL2.out.1.2; omega) (by have h : -27000 ≤ (tb.tdiv (p : Int)) := HL2.out.2.1.1; omega) (by have h : (tb.tdiv (p : Int)) ≤ 27000 := HL2.out.2.1.2; omega) (by have h : -27000 ≤ (tc * (p : Int)) := HL2.out.2.2.1; omega) (by have h : (tc * (p : Int)) ≤ 27000 := HL2.out.2.2.2; omega) w5 HOD.out.rd)
              have HSM := hid HS4.out.1
              have hs5 := HBD.out.size
              clear hw1 hw2 hw3 hw5 HS1 HS2 HS3 HS4 HMA HMB HBA HBB HMC HBC E3 E4 TZ hd
              go_wp2_with fail
              refine (HTW.out).mono ?_
              rintro e w4 ⟨rfl, hb4⟩
              have HO4 := hid (HOD.out.keep HOD.out.lt hb4)
              have HM4 := hid (HSM.out.keep HSM.out.lt hb4)
              have HB4 := hid (HBD.out.trans (hb4.mono hs5))
              clear hb4 HTW
              go_wp2_with fail
              go_roundg f'
              case measure => omega
              case rel => exact ⟨_, _, rfl, rfl, HDS, HO4, HM4, HB4⟩
          · have hE := hk1 hk
            rw [hk]
            clear hk hk0 hk1 hk2
            rw [hE.1, hE.2] at HDS
            rw [hE.1] at HZ2 HL2
            clear hE
            have o1 := HOO.out.elem (i := 2) (by simp)
            have f1 := HOO.out.thaw 2
            have HS1 := hid (HOO.out.storeAt 2 (tc.tdiv (p : Int)))
            obtain ⟨w1, hw1⟩ : ∃ w1, w1 = wx.setCell ⟨gt, 2, none⟩ (.int .i64 (tc.tdiv (p : Int))) := ⟨_, rfl⟩
            rw [← hw1] at HS1
            have o2 := HS1.out.1.elem (i := 0) (by simp)
            have f2 := HS1.out.1.thaw 0
            have HS2 := hid (HS1.out.1.storeAt 0 (ta.tdiv (p : Int)))
            have HMA := hid (HMM.out.other HS1.out.2 (fun k e => by cases e; exact fun h => HNE1 h.symm))
            have HBA := hid (HB.out.grown HS1.out.2 HB.out.size (fun k e => by cases e; exact hgt))
            obtain ⟨w2, hw2⟩ : ∃ w2, w2 = w1.setCell ⟨gt, 0, none⟩ (.int .i64 (ta.tdiv (p : Int))) := ⟨_, rfl⟩
            rw [← hw2] at HS2
            have o3 := HS2.out.1.elem (i := 1) (by simp)
            have f3 := HS2.out.1.thaw 1
            have HMB := hid (HMA.out.other HS2.out.2 (fun k e => by cases e; exact fun h => HNE1 h.symm))
            have HBB := hid (HBA.out.grown HS2.out.2 HBA.out.size (fun k e => by cases e; exact hgt))
            have z3 := HMB.out.elem (i := 1) (by simp)
            have g3 := HMB.out.thaw 1
            simp only [List.set_cons_zero, List.set_cons_succ, List.getD_cons_zero, List.getD_cons_succ] at o1 o2 o3 z3
            have TZ := tmod_zero (n := tb) (c := (p : Int))
            have hsw1 : wx.setCell ⟨gt, 2, none⟩ (.int .i64 (tc.tdiv (p : Int))) = w1 := hw1.symm
            have hsw2 : w1.setCell ⟨gt, 0, none⟩ (.int .i64 (ta.tdiv (p : Int))) = w2 := hw2.symm
            have hgt2 : gt < w2.heap.size := HS2.out.1.lt gt rfl
            by_cases hd : tb.tmod (p : Int) = 0
            · have TD : (tb.tmod (p : Int) == 0) = true := by rw [beq_iff_eq]; exact hd
              have E3 : thirdI tb p = tb.tdiv (p : Int) := by unfold thirdI; rw [if_pos (TZ.1 hd)]
              have E4 : thirdM tb p mb = mb := by unfold thirdM; rw [if_pos (TZ.1 hd)]
              rw [E3, E4] at HDS
              rw [E3] at HZ2 HL2
              have HS3 := hid (HS2.out.1.storeAt 1 (tb.tdiv (p : Int)))
              have HMC := hid (HMB.out.other HS3.out.2 (fun k e => by cases e; exact fun h => HNE1 h.symm))
              have HBC := hid (HBB.out.grown HS3.out.2 HBB.out.size (fun k e => by cases e; exact hgt))
              obtain ⟨w3, hw3⟩ : ∃ w3, w3 = w2.setCell ⟨gt, 1, none⟩ (.int .i64 (tb.tdiv (p : Int))) := ⟨_, rfl⟩
              rw [← hw3] at HS3 HMC HBC
              have hsw3 : w2.setCell ⟨gt, 1, none⟩ (.int .i64 (tb.tdiv (p : Int))) = w3 := hw3.symm
              have HTW := hid (l5Two_any _ (ta.tdiv (p : Int)) (tb.tdiv (p : Int)) (tc.tdiv (p : Int)) HZ2.out.1 HZ2.out.2.1 HZ2.out.2.2 (by have h : -27000 ≤ (ta.tdiv (p : Int)) := HL2.out.1.1; omega) (by have h : (ta.tdiv (p : Int)) ≤ 27000 := HL2.out.1.2; omega) (by have h : -27000 ≤ (tb.tdiv (p : Int)) := HL2.out.2.1.1; omega) (by have h : (tb.tdiv (p : Int)) ≤ 27000 := HL2.out.2.1.2; omega) (by have h : -27000 ≤ (tc.tdiv (p : Int)) := HL2.out.2.2.1; omega) (by have h : (tc.tdiv (p : Int)) ≤ 27000 := HL2.out.2.2.2; omega) w3 HS3.out.1.rd)
              have HSO := hid HS3.out.1
              have hs3 := HBC.out.size
              clear hw1 hw2 hw3 HS1 HS2 HS3 HMA HMB HBA HBB E3 E4 TZ hd
              go_wp2_with fail
              refine (HTW.out).mono ?_
              rintro e w4 ⟨rfl, hb4⟩
              have HO4 := hid (HSO.out.keep HSO.out.lt hb4)
              have HM4 := hid (HMC.out.keep HMC.out.lt hb4)
              have HB4 := hid (HBC.out.trans (hb4.mono hs3))
              clear hb4 HTW
              go_wp2_with fail
              go_roundg f'
              case measure => omega
              case rel => exact ⟨_, _, rfl, rfl, HDS, HO4, HM4, HB4⟩
            · have TD : (tb.tmod (p : Int) == 0) = false := by rw [beq_eq_false_iff_ne]; exact hd
              have E3 : thirdI tb p = tb * (p : Int) := by unfold thirdI; rw [if_neg (fun h => hd (TZ.2 h))]
              have E4 : thirdM tb p mb = mb * (p : Int) := by unfold thirdM; rw [if_neg (fun h => hd (TZ.2 h))]
              rw [E3, E4] at HDS
              rw [E3] at HZ2 HL2
              have HS3 := hid (HS2.out.1.storeAt 1 (tb * (p : Int)))
              have HMC := hid (HMB.out.other HS3.out.2 (fun k e => by cases e; exact fun h => HNE1 h.symm))
              have HBC := hid (HBB.out.grown HS3.out.2 HBB.out.size (fun k e => by cases e; exact hgt))
              obtain ⟨w3, hw3⟩ : ∃ w3, w3 = w2.setCell ⟨gt, 1, none⟩ (.int .i64 (tb * (p : Int))) := ⟨_, rfl⟩
              rw [← hw3] at HS3 HMC HBC
              have hsw3 : w2.setCell ⟨gt, 1, none⟩ (.int .i64 (tb * (p : Int))) = w3 := hw3.symm
              have z4 : w3.cell? ⟨w.heap.size + 1, 1, none⟩ = some (.int .i64 mb) := HMC.out.elem (i := 1) (by simp)
              have g4 := HMC.out.thaw 1
              have HS4 := hid (HMC.out.storeAt 1 (mb * (p : Int)))
              have HOD := hid (HS3.out.1.other HS4.out.2 (fun k e => by cases e; exact HNE1))
              have HBD := hid (HBC.out.grown HS4.out.2 HBC.out.size (fun k e => by cases e; omega))
              obtain ⟨w5, hw5⟩ : ∃ w5, w5 = w3.setCell ⟨w.heap.size + 1, 1, none⟩ (.int .i64 (mb * (p : Int))) := ⟨_, rfl⟩
              rw [← hw5] at HS4 HOD HBD
              have hsw5 : w3.setCell ⟨w.heap.size + 1, 1, none⟩ (.int .i64 (mb * (p : Int))) = w5 := hw5.symm
              have HTW := hid (l5Two_any _ (ta.tdiv (p : Int)) (tb * (p : Int)) (tc.tdiv (p : Int)) HZ2.out.1 HZ2.out.2.1 HZ2.out.2.2 (by have h : -27000 ≤ (ta.tdiv (p : Int)) := HL2.out.1.1; omega) (by have h : (ta.tdiv (p : Int)) ≤ 27000 := HL2.out.1.2; omega) (by have h : -27000 ≤ (tb * (p : Int)) := HL2.out.2.1.1; omega) (by have h : (tb * (p : Int)) ≤ 27000 := HL2.out.2.1.2; omega) (by have h : -27000 ≤ (tc.tdiv (p : Int)) := HL2.out.2.2.1; omega) (by have h : (tc.tdiv (p : Int)) ≤ 27000 := HL2.out.2.2.2; omega) w5 HOD.out.rd)
              have HSM := hid HS4.out.1
              have hs5 := HBD.out.size
              clear hw1 hw2 hw3 hw5 HS1 HS2 HS3 HS4 HMA HMB HBA HBB HMC HBC E3 E4 TZ hd
              go_wp2_with fail
              refine (HTW.out).mono ?_
              rintro e w4 ⟨rfl, hb4⟩
              have HO4 := hid (HOD.out.keep HOD.out.lt hb4)
              have HM4 := hid (HSM.out.keep HSM.out.lt hb4)
              have HB4 := hid (HBD.out.trans (hb4.mono hs5))
              clear hb4 HTW
              go_wp2_with fail
              go_roundg f'
              case measure => omega
              case rel => exact ⟨_, _, rfl, rfl, HDS, HO4, HM4, HB4⟩
          · have hE := hk0 hk
            rw [hk]
            clear hk hk0 hk1 hk2
            rw [hE.1, hE.2] at HDS
            rw [hE.1] at HZ2 HL2
            clear hE
            have o1 := HOO.out.elem (i := 1) (by simp)
            have f1 := HOO.out.thaw 1
            have HS1 := hid (HOO.out.storeAt 1 (tb.tdiv (p : Int)))
            obtain ⟨w1, hw1⟩ : ∃ w1, w1 = wx.setCell ⟨gt, 1, none⟩ (.int .i64 (tb.tdiv (p : Int))) := ⟨_, rfl⟩
            rw [← hw1] at HS1
            have o2 := HS1.out.1.elem (i := 2) (by simp)
            have f2 := HS1.out.1.thaw 2
            have HS2 := hid (HS1.out.1.storeAt 2 (tc.tdiv (p : Int)))
            have HMA := hid (HMM.out.other HS1.out.2 (fun k e => by cases e; exact fun h => HNE1 h.symm))
            have HBA := hid (HB.out.grown HS1.out.2 HB.out.size (fun k e => by cases e; exact hgt))
            obtain ⟨w2, hw2⟩ : ∃ w2, w2 = w1.setCell ⟨gt, 2, none⟩ (.int .i64 (tc.tdiv (p : Int))) := ⟨_, rfl⟩
            rw [← hw2] at HS2
            have o3 := HS2.out.1.elem (i := 0) (by simp)
            have f3 := HS2.out.1.thaw 0
            have HMB := hid (HMA.out.other HS2.out.2 (fun k e => by cases e; exact fun h => HNE1 h.symm))
            have HBB := hid (HBA.out.grown HS2.out.2 HBA.out.size (fun k e => by cases e; exact hgt))
            have z3 := HMB.out.elem (i := 0) (by simp)
            have g3 := HMB.out.thaw 0
            simp only [List.set_cons_zero, List.set_cons_succ, List.getD_cons_zero, List.getD_cons_succ] at o1 o2 o3 z3
            have TZ := tmod_zero (n := ta) (c := (p : Int))
            have hsw1 : wx.setCell ⟨gt, 1, none⟩ (.int .i64 (tb.tdiv (p : Int))) = w1 := hw1.symm
            have hsw2 : w1.setCell ⟨gt, 2, none⟩ (.int .i64 (tc.tdiv (p : Int))) = w2 := hw2.symm
            have hgt2 : gt < w2.heap.size := HS2.out.1.lt gt rfl
            by_cases hd : ta.tmod (p : Int) = 0
            · have TD : (ta.tmod (p : Int) == 0) = true := by rw [beq_iff_eq]; exact hd
              have E3 : thirdI ta p = ta.tdiv (p : Int) := by unfold thirdI; rw [if_pos (TZ.1 hd)]
              have E4 : thirdM ta p ma = ma := by unfold thirdM; rw [if_pos (TZ.1 hd)]
              rw [E3, E4] at HDS
              rw [E3] at HZ2 HL2
              have HS3 := hid (HS2.out.1.storeAt 0 (ta.tdiv (p : Int)))
              have HMC := hid (HMB.out.other HS3.out.2 (fun k e => by cases e; exact fun h => HNE1 h.symm))
              have HBC := hid (HBB.out.grown HS3.out.2 HBB.out.size (fun k e => by cases e; exact hgt))
              obtain ⟨w3, hw3⟩ : ∃ w3, w3 = w2.setCell ⟨gt, 0, none⟩ (.int .i64 (ta.tdiv (p : Int))) := ⟨_, rfl⟩
              rw [← hw3] at HS3 HMC HBC
              have hsw3 : w2.setCell ⟨gt, 0, none⟩ (.int .i64 (ta.tdiv (p : Int))) = w3 := hw3.symm
              have HTW := hid (l5Two_any _ (ta.tdiv (p : Int)) (tb.tdiv (p : Int)) (tc.tdiv (p : Int)) HZ2.out.1 HZ2.out.2.1 HZ2.out.2.2 (by have h : -27000 ≤ (ta.tdiv (p : Int)) := HL2.out.1.1; omega) (by have h : (ta.tdiv (p : Int)) ≤ 27000 := HL2.out.1.2; omega) (by have h : -27000 ≤ (tb.tdiv (p : Int)) := HL2.out.2.1.1; omega) (by have h : (tb.tdiv (p : Int)) ≤ 27000 := HL2.out.2.1.2; omega) (by have h : -27000 ≤ (tc.tdiv (p : Int)) := HL2.out.2.2.1; omega) (by have h : (tc.tdiv (p : Int)) ≤ 27000 := HL2.out.2.2.2; omega) w3 HS3.out.1.rd)
              have HSO := hid HS3.out.1
              have hs3 := HBC.out.size
              clear hw1 hw2 hw3 HS1 HS2 HS3 HMA HMB HBA HBB E3 E4 TZ hd
              go_wp2_with fail
              refine (HTW.out).mono ?_
              rintro e w4 ⟨rfl, hb4⟩
              have HO4 := hid (HSO.out.keep HSO.out.lt hb4)
              have HM4 := hid (HMC.out.keep HMC.out.lt hb4)
              have HB4 := hid (HBC.out.trans (hb4.mono hs3))
              clear hb4 HTW
              go_wp2_with fail
              go_roundg f'
              case measure => omega
              case rel => exact ⟨_, _, rfl, rfl, HDS, HO4, HM4, HB4⟩
            · have TD : (ta.tmod (p : Int) == 0) = false := by rw [beq_eq_false_iff_ne]; exact hd
              have E3 : thirdI ta p = ta * (p : Int) := by unfold thirdI; rw [if_neg (fun h => hd (TZ.2 h))]
              have E4 : thirdM ta p ma = ma * (p : Int) := by unfold thirdM; rw [if_neg (fun h => hd (TZ.2 h))]
              rw [E3, E4] at HDS
              rw [E3] at HZ2 HL2
              have HS3 := hid (HS2.out.1.storeAt 0 (ta * (p : Int)))
              have HMC := hid (HMB.out.other HS3.out.2 (fun k e => by cases e; exact fun h => HNE1 h.symm))
              have HBC := hid (HBB.out.grown HS3.out.2 HBB.out.size (fun k e => by cases e; exact hgt))
              obtain ⟨w3, hw3⟩ : ∃ w3, w3 = w2.setCell ⟨gt, 0, none⟩ (.int .i64 (ta * (p : Int))) := ⟨_, rfl⟩
              rw [← hw3] at HS3 HMC HBC
              have hsw3 : w2.setCell ⟨gt, 0, none⟩ (.int .i64 (ta * (p : Int))) = w3 := hw3.symm
              have z4 : w3.cell? ⟨w.heap.size + 1, 0, none⟩ = some (.int .i64 ma) := HMC.out.elem (i := 0) (by simp)
              have g4 := HMC.out.thaw 0
              have HS4 := hid (HMC.out.storeAt 0 (ma * (p : Int)))
              have HOD := hid (HS3.out.1.other HS4.out.2 (fun k e => by cases e; exact HNE1))
              have HBD := hid (HBC.out.grown HS4.out.2 HBC.out.size (fun k e => by cases e; omega))
              obtain ⟨w5, hw5⟩ : ∃ w5, w5 = w3.setCell ⟨w.heap.size + 1, 0, none⟩ (.int .i64 (ma * (p : Int))) := ⟨_, rfl⟩
              rw [← hw5] at HS4 HOD HBD
              have hsw5 : w3.setCell ⟨w.heap.size + 1, 0, none⟩ (.int .i64 (ma * (p : Int))) = w5 := hw5.symm
              have HTW := hid (l5Two_any _ (ta * (p : Int)) (tb.tdiv (p : Int)) (tc.tdiv (p : Int)) HZ2.out.1 HZ2.out.2.1 HZ2.out.2.2 (by have h : -27000 ≤ (ta * (p : Int)) := HL2.out.1.1; omega) (by have h : (ta * (p : Int)) ≤ 27000 := HL2.out.1.2; omega) (by have h : -27000 ≤ (tb.tdiv (p : Int)) := HL2.out.2.1.1; omega) (by have h : (tb.tdiv (p : Int)) ≤ 27000 := HL2.out.2.1.2; omega) (by have h : -27000 ≤ (tc.tdiv (p : Int)) := HL2.out.2.2.1; omega) (by have h : (tc.tdiv (p : Int)) ≤ 27000 := HL2.out.2.2.2; omega) w5 HOD.out.rd)
              have HSM := hid HS4.out.1
              have hs5 := HBD.out.size
              clear hw1 hw2 hw3 hw5 HS1 HS2 HS3 HS4 HMA HMB HBA HBB HMC HBC E3 E4 TZ hd
              go_wp2_with fail
              refine (HTW.out).mono ?_
              rintro e w4 ⟨rfl, hb4⟩
              have HO4 := hid (HOD.out.keep HOD.out.lt hb4)
              have HM4 := hid (HSM.out.keep HSM.out.lt hb4)
              have HB4 := hid (HBD.out.trans (hb4.mono hs5))
              clear hb4 HTW
              go_wp2_with fail
              go_roundg f'
              case measure => omega
              case rel => exact ⟨_, _, rfl, rfl, HDS, HO4, HM4, HB4⟩

/-- what ZeroNormal answers -/
def z3B (xs : List Int) : Bool := fvB xs && decide (xs.length = 3)
def znT (xs : List Int) : List Int := if z3B xs then (nT (xs.getD 0 0) (xs.getD 1 0) (xs.getD 2 0)).toL else []
def znM (xs : List Int) : List Int := if z3B xs then (nM (xs.getD 0 0) (xs.getD 1 0) (xs.getD 2 0)).toL else []
def NormPost (xs : List Int) (w : World) (e : Ending) (w' : World) : Prop := ∃ u z, e = .returned (.tuple #[u, z, .bool (z3B xs)]) ∧ Owns w' w.heap.size u (znT xs) ∧ Owns w' w.heap.size z (znM xs) ∧ (∃ g k, u.ownBlock = some g ∧ z.ownBlock = some k ∧ g ≠ k) ∧ Below w.heap.size w w'
theorem norm_empty {w w2 : World} (hb : Below w.heap.size w w2) : Owns ((w2.alloc (.cells #[] 3)).alloc (.cells #[] 3)) w.heap.size (.slice (some ⟨w2.heap.size, 0, none⟩) 0 0) [] ∧ Owns ((w2.alloc (.cells #[] 3)).alloc (.cells #[] 3)) w.heap.size (.slice (some ⟨w2.heap.size + 1, 0, none⟩) 0 0) [] ∧ Below w.heap.size w ((w2.alloc (.cells #[] 3)).alloc (.cells #[] 3)) := by
  have hs := hb.size
  refine ⟨?_, ?_, (hb.alloc hs _).alloc (by simp; omega) _⟩
  · have : Owns (w2.alloc (.cells #[] 3)) w.heap.size (.slice (some ⟨w2.heap.size, 0, none⟩) 0 0) [] := World.ownsRow_made (size := 1) w2 #[] 0 hs (by unfold maxLen; omega) rfl
    exact this.alloc _
  · have := World.ownsRow_made (size := 1) (w2.alloc (.cells #[] 3)) #[] 0 (base := w.heap.size) (by simp; omega) (by unfold maxLen; omega) (e := 3) rfl
    simp only [World.size_alloc] at this
    exact this
set_option maxRecDepth 100000 in
set_option maxHeartbeats 1000000 in
theorem zeroNormalS_any (v : Value) (xs : List Int) (w : World) (h : Rd w v xs) : Calls Try.prog 25 #[v] w (NormPost xs w) := by
  have HH := hid h
  have hmx := rd_max h
  obtain ⟨ad, cap, rfl, _⟩ := h.form
  have HE := hid (norm_empty (Below.refl w.heap.size w))
  have hno : z3B xs = false → znT xs = [] ∧ znM xs = [] := fun e => by unfold znT znM; rw [e]; exact ⟨rfl, rfl⟩
  clear h
  cases hf : fvB xs with
  | false =>
    have HF := hid hf
    have hz : z3B xs = false := by unfold z3B; rw [hf]; rfl
    have HZ := hid hz
    have HN := hid (hno hz)
    clear hf hz hno
    go_enter Try.func25, Try.ntmps25
    go_wp2_with (go_at_call 73; refine (formValidS_any _ xs _ HH.out).mono ?_; rw [HF.out]; rintro e w' ⟨rfl, rfl⟩)
    go_ret3
    exact ⟨_, _, by rw [HZ.out]; rfl, by rw [HN.out.1]; exact HE.out.1, by rw [HN.out.2]; exact HE.out.2.1, ⟨w.heap.size, w.heap.size + 1, rfl, rfl, by omega⟩, HE.out.2.2⟩
  | true =>
    have HF := hid hf
    by_cases hl : xs.length = 3
    · have hli : (xs.length : Int) = 3 := by omega
      have T : ((xs.length : Int) != 3) = false := by rw [bne_eq_false_iff_eq]; exact hli
      obtain ⟨a, b, c, rfl⟩ := list_three hl
      have HZ : Hid (z3B [a, b, c] = true) := hid (by unfold z3B; rw [hf]; rfl)
      have HN : Hid (znT [a, b, c] = (nT a b c).toL ∧ znM [a, b, c] = (nM a b c).toL) := hid (by unfold znT znM; rw [HZ.out]; exact ⟨rfl, rfl⟩)
      have HOK := hid (ok3_of hf)
      clear hf hno hl hli HE
      go_enter Try.func25, Try.ntmps25
      go_wp2_with (go_at_call 73; refine (formValidS_any _ _ _ HH.out).mono ?_; rw [HF.out]; rintro e w' ⟨rfl, rfl⟩)
      refine (l5Normal_any _ a b c HOK.out _ HH.out).mono ?_
      rintro e w2 ⟨u, z, rfl, ho, hm, hne, hb2⟩
      have HX := hid hne
      clear hne
      go_wp2_with fail
      go_ret3
      exact ⟨u, z, by rw [HZ.out]; rfl, by rw [HN.out.1]; exact ho, by rw [HN.out.2]; exact hm, HX.out, hb2⟩
    · have T : ((xs.length : Int) != 3) = true := by rw [bne_iff_ne]; omega
      have hz : z3B xs = false := by unfold z3B; rw [decide_eq_false hl, Bool.and_false]
      have HZ := hid hz
      have HN := hid (hno hz)
      clear hf hz hno hl
      go_enter Try.func25, Try.ntmps25
      go_wp2_with (go_at_call 73; refine (formValidS_any _ xs _ HH.out).mono ?_; rw [HF.out]; rintro e w' ⟨rfl, rfl⟩)
      go_ret3
      exact ⟨_, _, by rw [HZ.out]; rfl, by rw [HN.out.1]; exact HE.out.1, by rw [HN.out.2]; exact HE.out.2.1, ⟨w.heap.size, w.heap.size + 1, rfl, rfl, by omega⟩, HE.out.2.2⟩

end Go.Proofs.Ytbhlgdleklfonaa

set_option linter.unusedVariables false
namespace Go.Proofs.Ytbhlgdleklfonaa
open Go.RowKit

def DrewFFF (P : List Int → List Int → List Int → Prop) (w : World) (e : Ending) (w' : World) : Prop := ∃ (u v z : Value) (xs ys zs : List Int), e = .returned (.tuple #[u, v, z]) ∧ P xs ys zs ∧ Hid (Owns w' w.heap.size u xs) ∧ Hid (Rd w' v ys) ∧ Hid (Rd w' z zs) ∧ Below w.heap.size w w'
theorem DrewFFF.mk {P : List Int → List Int → List Int → Prop} {w w' : World} {u v z : Value} {xs ys zs : List Int} (h : P xs ys zs) (ho : Owns w' w.heap.size u xs) (hr : Rd w' v ys) (hz : Rd w' z zs) (hb : Below w.heap.size w w') : DrewFFF P w (.returned (.tuple #[u, v, z])) w' := ⟨u, v, z, xs, ys, zs, rfl, h, hid ho, hid hr, hid hz, hb⟩
def DrewFII (P : List Int → Int → Int → Prop) (w : World) (e : Ending) (w' : World) : Prop := ∃ (u : Value) (xs : List Int) (y z : Int), e = .returned (.tuple #[u, .int .i64 y, .int .i64 z]) ∧ P xs y z ∧ Hid (Owns w' w.heap.size u xs) ∧ Below w.heap.size w w'
theorem DrewFII.mk {P : List Int → Int → Int → Prop} {w w' : World} {u : Value} {xs : List Int} {y z : Int} (h : P xs y z) (ho : Owns w' w.heap.size u xs) (hb : Below w.heap.size w w') : DrewFII P w (.returned (.tuple #[u, .int .i64 y, .int .i64 z])) w' := ⟨u, xs, y, z, rfl, h, hid ho, hb⟩

set_option maxRecDepth 100000 in
set_option maxHeartbeats 4000000 in
theorem drawZeroPair_any (v : Value) (n : Nat) (w : World) (h : CodeIn w v n) : Calls Try.prog 45 #[v] w (DrewFFF (fun xs ys zs => TermsOk xs ∧ VecGood xs.length ys ∧ VecGood xs.length zs) w) := by
  go_enter Try.func45, Try.ntmps45
  go_wp2_with fail
  refine (open_any v n _ h).mono ?_
  rintro e w1 ⟨v1, n1, rfl, HR, HB⟩
  have hsz := HB.size
  go_wp2_with fail
  refine (formDraw_any _ _ _ _ 0 4 (by omega) (by omega) (by omega) _ HR hsz).mono ?_
  rintro e w2 ⟨u, xs, q, rfl, HT, HO, hq, HA, HN⟩
  have hs2 := HN.out.size
  have hlt := HR.out.lt
  obtain ⟨a, cap, rfl⟩ := HO.out.reads
  have hml := HT.1
  go_wp2_with fail
  refine (vector_any _ _ _ _ q xs.length (by omega) (by omega) a cap _ HA (by omega)).mono ?_
  rintro e w3 ⟨uv, ys, r, rfl, HV, HOv, hr, HC, HP⟩
  have hs3 := HP.out.size
  have HO2 := hid (HO.out.only HP.out hlt)
  have HN2 := hid (HN.out.trans HP.out)
  clear HO HN HP
  go_wp2_with fail
  refine (vector_any _ _ _ _ r xs.length (by omega) (by omega) a cap _ HC (by omega)).mono ?_
  rintro e w4 ⟨uz, zs, s, rfl, HVz, HOz, hs, HD, HQ⟩
  have hs4 := HQ.out.size
  have HO3 := hid (HO2.out.only HQ.out hlt)
  have HOw := hid (HOv.out.only HQ.out (by omega))
  have HN3 := hid (HN2.out.trans HQ.out)
  have HVG := hid HV.good
  have HZG := hid HVz.good
  clear HO2 HOv HN2 HQ HV HVz
  obtain ⟨b, capv, rfl⟩ := HOw.out.reads
  by_cases h0 : ys.length = 0
  · have h0i : ¬ ((ys.length : Nat) : Int) > 0 := by omega
    clear h0
    go_wp2
    go_ret3
    exact DrewFFF.mk ⟨HT, HVG.out, HZG.out⟩ (HO3.out.base hsz) HOw.out.rd HOz.out.rd (only_below HB HN3.out)
  · have hyp : ((ys.length : Nat) : Int) > 0 := by omega
    have hyp1 : (1 : Int) ≤ ((ys.length : Nat) : Int) := by omega
    obtain ⟨g, cap2, hv2⟩ := HOw.out.slice_of (by omega)
    simp only [Value.slice.injEq, true_and] at hv2
    obtain ⟨rfl, rfl⟩ := hv2
    go_wp2_with fail
    refine (pick_any _ _ _ _ s 20 (by omega) (by omega) (by omega) _ (HD.out)).mono ?_
    rintro e wHE ⟨k, t, rfl, hk0, hk1, _, ht, HE, HS⟩
    replace hk1 := hk1 (by omega)
    have HN4 := hid (HN3.out.trans HS.out)
    have HO4 := hid (HO3.out.only HS.out hlt)
    have HOx := hid (HOw.out.only HS.out (by omega))
    have HOy := hid (HOz.out.only HS.out (by omega))
    have HRd := hid HOx.out.rd
    clear HN3 HO3 HOw HOz HS
    by_cases hk : k = 0
    · subst hk
      have HCut := hid (HRd.out.cut (k := 1) (by omega) rfl HOx.out.room)
      by_cases hcv : capv = 1
      · subst hcv
        have HC0 := HCut.out
        rw [if_pos rfl] at HC0
        replace HC0 := hid HC0
        clear HCut
        go_wp2_with fail
        go_quiet (fail)
        go_wp2
        go_ret3
        exact DrewFFF.mk (w' := wHE.drewN nq) ⟨HT, HVG.out.drop (k := 1), HZG.out⟩ ((HO4.out.base hsz).drewN nq) HC0.out HOy.out.rd (Below.trans (only_below HB HN4.out) ⟨rfl, rfl, rfl, Nat.le_refl _, fun _ _ => rfl⟩)
      · have HC0 := HCut.out
        rw [if_neg hcv] at HC0
        replace HC0 := hid HC0
        clear HCut
        go_wp2_with fail
        go_quiet (fail)
        go_wp2
        go_ret3
        exact DrewFFF.mk (w' := wHE.drewN nq) ⟨HT, HVG.out.drop (k := 1), HZG.out⟩ ((HO4.out.base hsz).drewN nq) HC0.out HOy.out.rd (Below.trans (only_below HB HN4.out) ⟨rfl, rfl, rfl, Nat.le_refl _, fun _ _ => rfl⟩)
    · go_wp2
      go_ret3
      exact DrewFFF.mk ⟨HT, HVG.out, HZG.out⟩ (HO4.out.base hsz) HRd.out HOy.out.rd (only_below HB HN4.out)

set_option maxRecDepth 100000 in
set_option maxHeartbeats 4000000 in
theorem drawZeroNormal_any (v : Value) (n : Nat) (w : World) (h : CodeIn w v n) : Calls Try.prog 23 #[v] w (DrewF TermsOk w) := by
  go_enter Try.func23, Try.ntmps23
  go_wp2_with fail
  refine (open_any v n _ h).mono ?_
  rintro e w1 ⟨v1, n1, rfl, HR, HB⟩
  have hsz := HB.size
  have hlt := HR.out.lt
  go_wp2_with fail
  refine (pick_any _ _ _ _ 0 16 (by omega) (by omega) (by omega) _ (HR.out)).mono ?_
  rintro e wHC ⟨k, r, rfl, hk0, hk1, _, hr, HC, HP⟩
  replace hk1 := hk1 (by omega)
  have hs2 := HP.out.size
  by_cases hk : k = 0
  · subst hk
    go_wp2_with fail
    refine (formDraw_any _ _ _ _ r 4 (by omega) (by omega) (by omega) _ HC (by omega)).mono ?_
    rintro e w2 ⟨u, xs, q, rfl, HT, HO, hq, HA, HN⟩
    go_wp2
    go_ret
    exact DrewF.mk HT (HO.out.base (by omega)) (only_below HB (HP.out.trans HN.out))
  · go_wp2_with fail
    refine (form5_any _ _ _ _ r 3 (by omega) (by omega) (by omega) _ HC (by omega)).mono ?_
    rintro e w2 ⟨u, xs, q, rfl, HT, HO, hq, HA, HN⟩
    go_wp2
    go_ret
    exact DrewF.mk HT.out.1 (HO.out.base (by omega)) (only_below HB (HP.out.trans HN.out))

set_option maxRecDepth 100000 in
set_option maxHeartbeats 4000000 in
theorem drawZeroFind_any (v : Value) (n : Nat) (w : World) (h : CodeIn w v n) : Calls Try.prog 32 #[v] w (DrewF TermsOk w) := by
  go_enter Try.func32, Try.ntmps32
  go_wp2_with fail
  refine (open_any v n _ h).mono ?_
  rintro e w1 ⟨v1, n1, rfl, HR, HB⟩
  have hsz := HB.size
  have hlt := HR.out.lt
  go_wp2_with fail
  refine (pick_any _ _ _ _ 0 4 (by omega) (by omega) (by omega) _ (HR.out)).mono ?_
  rintro e wHC ⟨k, r, rfl, hk0, hk1, _, hr, HC, HP⟩
  replace hk1 := hk1 (by omega)
  have hs2 := HP.out.size
  obtain ⟨m, hm⟩ : ∃ m : Nat, 1 + k = (m : Int) := ⟨(1 + k).toNat, by omega⟩
  go_wp2_with fail
  refine (form5_any _ _ _ _ r m (by omega) (by omega) (by omega) _ HC (by omega)).mono ?_
  rintro e w2 ⟨u, xs, q, rfl, HT, HO, hq, HA, HN⟩
  go_wp2
  go_ret
  exact DrewF.mk HT.out.1 (HO.out.base (by omega)) (only_below HB (HP.out.trans HN.out))

set_option maxRecDepth 100000 in
set_option maxHeartbeats 4000000 in
theorem drawZeroSearch_any (v : Value) (n : Nat) (w : World) (h : CodeIn w v n) : Calls Try.prog 30 #[v] w (DrewF (fun xs => xs.length ≤ 6) w) := by
  go_enter Try.func30, Try.ntmps30
  go_wp2_with fail
  refine (open_any v n _ h).mono ?_
  rintro e w1 ⟨v1, n1, rfl, HR, HB⟩
  have hsz := HB.size
  have hlt := HR.out.lt
  go_wp2_with fail
  refine (form5_any _ _ _ _ 0 3 (by omega) (by omega) (by omega) _ HR (by omega)).mono ?_
  rintro e w2 ⟨u, xs, q, rfl, HT, HO, hq, HA, HN⟩
  have hs2 := HN.out.size
  have hxl := HT.out.1.1
  go_wp2_with fail
  refine (zeroNormalS_any _ xs _ HO.out.rd).mono ?_
  rintro e w3 ⟨ut, um, rfl, hot, hom, _, hb3⟩
  have hs3 := hb3.size
  have HO3 := hid (HO.out.keep HO.out.lt hb3)
  have HT3 := hid hot
  have HN3 := hid (HN.out.trans (Only.of_below (R := w.heap.size) hb3))
  have HC3 := hid (HA.out.kept hb3 (by have := HA.out.lt; omega) (by omega))
  have hzl : (znT xs).length ≤ 6 := by
    unfold znT
    cases z3B xs with
    | false => simp
    | true => exact (show 3 ≤ 6 by omega)
  clear hot hom hb3 HO HN HA
  cases hz : z3B xs with
  | false =>
    go_wp2_with fail
    go_ret
    exact DrewF.mk hxl (HO3.out.base hsz) (only_below HB HN3.out)
  | true =>
    go_wp2_with fail
    refine (pick_any _ _ _ _ q 6 (by omega) (by omega) (by omega) _ (HC3.out)).mono ?_
    rintro e wHC ⟨k, r, rfl, hk0, hk1, _, hr, HC, HP⟩
    replace hk1 := hk1 (by omega)
    have HO4 := hid (HO3.out.only HP.out hlt)
    have HT4 := hid (HT3.out.only HP.out (by omega))
    have HN4 := hid (HN3.out.trans HP.out)
    by_cases hk : k > 0
    · go_wp2_with fail
      go_ret
      exact DrewF.mk hzl (HT4.out.base (by omega)) (only_below HB HN4.out)
    · go_wp2_with fail
      go_ret
      exact DrewF.mk hxl (HO4.out.base hsz) (only_below HB HN4.out)

def manyOk (xs : List Int) (y : Int) : Prop := TermsOk xs ∧ -10 ≤ y ∧ y ≤ 20
set_option maxRecDepth 100000 in
set_option maxHeartbeats 4000000 in
theorem drawZeroMany_any (v : Value) (n : Nat) (w : World) (h : CodeIn w v n) : Calls Try.prog 36 #[v] w (DrewFI manyOk w) := by
  go_enter Try.func36, Try.ntmps36
  go_wp2_with fail
  refine (open_any v n _ h).mono ?_
  rintro e w1 ⟨v1, n1, rfl, HR, HB⟩
  have hsz := HB.size
  have hlt := HR.out.lt
  go_wp2_with fail
  refine (pick_any _ _ _ _ 0 3 (by omega) (by omega) (by omega) _ (HR.out)).mono ?_
  rintro e wHC ⟨k, r, rfl, hk0, hk1, _, hr, HC, HP⟩
  replace hk1 := hk1 (by omega)
  have hs2 := HP.out.size
  obtain ⟨m, hm⟩ : ∃ m : Nat, 1 + k = (m : Int) := ⟨(1 + k).toNat, by omega⟩
  go_wp2_with fail
  refine (form5_any _ _ _ _ r m (by omega) (by omega) (by omega) _ HC (by omega)).mono ?_
  rintro e w2 ⟨u, xs, q, rfl, HT, HO, hq, HA, HN⟩
  have HN2 := hid (HP.out.trans HN.out)
  have HO2 := hid (HO.out.base (B := w.heap.size) (by omega))
  have HO2b := HO
  clear HN hm HO
  go_wp2_with fail
  refine (pick_any _ _ _ _ q 4 (by omega) (by omega) (by omega) _ (HA.out)).mono ?_
  rintro e wHD ⟨k2, s, rfl, hk20, hk21, _, hs, HD, HQ⟩
  replace hk21 := hk21 (by omega)
  go_wp2_with fail
  refine (pick_any _ _ _ _ s 20 (by omega) (by omega) (by omega) _ (HD.out)).mono ?_
  rintro e wHE ⟨k3, t, rfl, hk30, hk31, _, ht, HE, HS⟩
  replace hk31 := hk31 (by omega)
  go_wp2_with fail
  refine (pick_any _ _ _ _ t 20 (by omega) (by omega) (by omega) _ (HE.out)).mono ?_
  rintro e wHF ⟨k4, t2, rfl, hk40, hk41, _, ht2, HF, HU⟩
  replace hk41 := hk41 (by omega)
  have HO3 := hid ((((HO2b.out.only HQ.out (by omega)).only HS.out (by omega)).only HU.out (by omega)))
  have HN3 := hid (((HN2.out.trans HQ.out).trans HS.out).trans HU.out)
  go_wp2
  go_ret2
  exact DrewFI.mk ⟨HT.out.1, by omega, by omega⟩ (HO3.out.base (by omega)) (only_below HB HN3.out)

def mdlOk (xs : List Int) (y z : Int) : Prop := TermsOk xs ∧ prOk y ∧ 0 ≤ z ∧ z ≤ 6
set_option maxRecDepth 100000 in
set_option maxHeartbeats 4000000 in
theorem drawZeroModulo_any (v : Value) (n : Nat) (w : World) (h : CodeIn w v n) : Calls Try.prog 39 #[v] w (DrewFII mdlOk w) := by
  go_enter Try.func39, Try.ntmps39
  go_wp2_with fail
  refine (open_any v n _ h).mono ?_
  rintro e w1 ⟨v1, n1, rfl, HR, HB⟩
  have hsz := HB.size
  have hlt := HR.out.lt
  go_wp2_with fail
  refine (pick_any _ _ _ _ 0 3 (by omega) (by omega) (by omega) _ (HR.out)).mono ?_
  rintro e wHC ⟨k, r, rfl, hk0, hk1, _, hr, HC, HP⟩
  replace hk1 := hk1 (by omega)
  have hs2 := HP.out.size
  go_wp2_with fail
  refine (pick_any _ _ _ _ r 12 (by omega) (by omega) (by omega) _ (HC.out)).mono ?_
  rintro e wHC2 ⟨k0, r2, rfl, hk00, hk01, _, hr2, HC2, HP2⟩
  replace hk01 := hk01 (by omega)
  have hs3 := HP2.out.size
  obtain ⟨m, hm, hm1, hm4⟩ : ∃ m : Nat, 1 + k + k0 / 11 = (m : Int) ∧ 1 ≤ m ∧ m ≤ 4 := ⟨(1 + k + k0 / 11).toNat, by omega, by omega, by omega⟩
  go_wp2_with fail
  refine (form5_any _ _ _ _ r2 m (by omega) (by omega) (by omega) _ HC2 (by omega)).mono ?_
  rintro e w2 ⟨u, xs, q, rfl, HT, HO, hq, HA, HN⟩
  have HN2 := hid ((HP.out.trans HP2.out).trans HN.out)
  have HT1 := HT.out.1
  clear HN hm HP HP2 HC HC2 HR
  go_wp2_with fail
  refine (pick_any _ _ _ _ q 6 (by omega) (by omega) (by omega) _ (HA.out)).mono ?_
  rintro e wHD ⟨j, s, rfl, hj0, hj1, _, hs, HD, HQ⟩
  replace hj1 := hj1 (by omega)
  have HO3 := hid (HO.out.only HQ.out (by omega))
  have HN3 := hid (HN2.out.trans HQ.out)
  have hs4 := HN3.out.size
  clear HO HN2 HQ HA
  by_cases hj : j = 0
  · have T : (j == 0) = true := by rw [beq_iff_eq]; exact hj
    clear hj
    go_wp2_with fail
    refine (pick_any _ _ _ _ s 6 (by omega) (by omega) (by omega) _ (HD.out)).mono ?_
    rintro e wHE ⟨k2, t, rfl, hk20, hk21, _, ht, HE, HS⟩
    replace hk21 := hk21 (by omega)
    have HO4 := hid (HO3.out.only HS.out (by omega))
    go_wp2
    go_ret3
    exact DrewFII.mk ⟨HT1, by unfold prOk; omega, by omega, by omega⟩ (HO4.out.base (by omega)) (only_below HB (HN3.out.trans HS.out))
  · have T : (j == 0) = false := by rw [beq_eq_false_iff_ne]; exact hj
    clear hj
    by_cases hj1 : j = 1
    · have T1 : (j == 1) = true := by rw [beq_iff_eq]; exact hj1
      clear hj1
      go_wp2_with fail
      refine (drawnPrime_any _ _ _ _ s (by omega) _ HD (by omega)).mono ?_
      rintro e w3 ⟨x, t, rfl, hx, ht, HE, HS⟩
      have HXO := hid hx
      clear hx
      have HO4 := hid (HO3.out.only HS (by omega))
      go_wp2_with fail
      refine (pick_any _ _ _ _ t 3 (by omega) (by omega) (by omega) _ (HE.out)).mono ?_
      rintro e wHF ⟨k2, t2, rfl, hk20, hk21, _, ht2, HF, HU⟩
      replace hk21 := hk21 (by omega)
      have HO5 := hid (HO4.out.only HU.out (by omega))
      go_wp2
      go_ret3
      exact DrewFII.mk ⟨HT1, HXO.out, by omega, by omega⟩ (HO5.out.base (by omega)) (only_below HB ((HN3.out.trans HS).trans HU.out))
    · have T1 : (j == 1) = false := by rw [beq_eq_false_iff_ne]; exact hj1
      clear hj1
      go_wp2_with fail
      refine (pick_any _ _ _ _ s 3 (by omega) (by omega) (by omega) _ (HD.out)).mono ?_
      rintro e wHE ⟨k2, t, rfl, hk20, hk21, _, ht, HE, HS⟩
      replace hk21 := hk21 (by omega)
      have HO4 := hid (HO3.out.only HS.out (by omega))
      go_wp2
      go_ret3
      exact DrewFII.mk ⟨HT1, by unfold prOk; omega, by omega, by omega⟩ (HO4.out.base (by omega)) (only_below HB (HN3.out.trans HS.out))

end Go.Proofs.Ytbhlgdleklfonaa

set_option linter.unusedVariables false
namespace Go.Proofs.Ytbhlgdleklfonaa
open Go.RowKit

theorem sq_small {u n N : Nat} (h : u * u ≤ N) (hn : N < (n + 1) * (n + 1)) : u ≤ n := by
  refine Classical.byContradiction fun hc => ?_
  have := Nat.mul_le_mul (show n + 1 ≤ u by omega) (show n + 1 ≤ u by omega)
  omega
theorem mx_sq {m x B K : Nat} (hx : x * x ≤ B) (h : m * m * B ≤ K) : m * x * (m * x) ≤ K := by
  have e : m * x * (m * x) = m * m * (x * x) := by simp only [Nat.mul_comm, Nat.mul_left_comm]
  rw [e]
  exact Nat.le_trans (Nat.mul_le_mul_left _ hx) h
theorem z_sq {A B C x y z : Nat} (hC : 0 < C) (h : C * (z * z) ≤ A * (x * x) + B * (y * y)) (hx : x * x ≤ B * C) (hy : y * y ≤ A * C) : z * z ≤ 2 * (A * B) := by
  have h1 := Nat.mul_le_mul_left A hx
  have h2 := Nat.mul_le_mul_left B hy
  have e1 : A * (B * C) = C * (A * B) := by simp only [Nat.mul_comm, Nat.mul_left_comm]
  have e2 : B * (A * C) = C * (A * B) := by simp only [Nat.mul_comm, Nat.mul_left_comm]
  rw [e1] at h1
  rw [e2] at h2
  refine Nat.le_of_mul_le_mul_left ?_ hC
  have e3 : C * (2 * (A * B)) = C * (A * B) + C * (A * B) := by rw [Nat.mul_left_comm]; omega
  rw [e3]
  omega
theorem abs3 {P Q R : Int} (h : P + Q + R = 0) : R.natAbs ≤ P.natAbs + Q.natAbs := by omega
theorem abs_sq (a : Int) (x : Nat) : (a * (x : Int) * (x : Int)).natAbs = a.natAbs * (x * x) := by rw [Int.natAbs_mul, Int.natAbs_mul, Int.natAbs_natCast, Nat.mul_assoc]

/-- what is found of three normal terms, multiplied -/
def vec3 (a b c : Int) (l : List Int) : List Int := [(nM a b c).a * l.getD 0 0, (nM a b c).b * l.getD 1 0, (nM a b c).c * l.getD 2 0]
structure Three (a b c : Int) (v : List Int) : Prop where
  three : ∃ x y z, v = [x, y, z]
  zero : valI [a, b, c] v 3 = 0
  small : ∀ u ∈ v, -60 ≤ u ∧ u ≤ 60
  some : ∃ u ∈ v, u ≠ 0
theorem vec3_ok {a b c : Int} (h : Ok3 a b c) {l : List Int} (hl : searchO (nT a b c) = some l) : Three a b c (vec3 a b c l) := by
  obtain ⟨x, y, z, rfl, hf⟩ := search_found hl
  have hn := h.nrm
  obtain ⟨m1, m2, m3, k1, k2, k3⟩ := hn.minv
  obtain ⟨ta, tb, tc⟩ := hn.nz
  have hz := hn.carry x y z hf.zero
  obtain ⟨t, ht⟩ : ∃ t, t = nT a b c := ⟨_, rfl⟩
  obtain ⟨m, hm⟩ : ∃ m, m = nM a b c := ⟨_, rfl⟩
  unfold vec3
  rw [← ht] at k1 k2 k3 ta tb tc hf
  rw [← hm] at m1 m2 m3 k1 k2 k3 hz ⊢
  have hx := hf.xle
  have hy := hf.yle
  rw [Int.natAbs_mul] at hx hy
  have hzz : z * z ≤ 2 * (t.a.natAbs * t.b.natAbs) := by
    refine z_sq (show 0 < t.c.natAbs by omega) ?_ hx hy
    have := abs3 hf.zero
    rwa [abs_sq, abs_sq, abs_sq] at this
  have ux := sq_small (n := 30) (mx_sq hx k1) (by decide)
  have uy := sq_small (n := 30) (mx_sq hy k2) (by decide)
  have uz : m.c.natAbs * z ≤ 42 := by
    have h1 : m.c.natAbs * m.c.natAbs * (2 * (t.a.natAbs * t.b.natAbs)) ≤ 1800 := by rw [Nat.mul_left_comm]; omega
    exact sq_small (n := 42) (mx_sq hzz h1) (by decide)
  have B : ∀ (k : Int) (u n : Nat), k.natAbs * u ≤ n → -(n : Int) ≤ k * (u : Int) ∧ k * (u : Int) ≤ (n : Int) := fun k u n hu => by
    have e : (k * (u : Int)).natAbs = k.natAbs * u := by rw [Int.natAbs_mul, Int.natAbs_natCast]
    omega
  have bx := B _ _ _ ux
  have by' := B _ _ _ uy
  have bz := B _ _ _ uz
  refine ⟨⟨_, _, _, rfl⟩, ?_, ?_, ?_⟩
  · rw [val3]; exact hz
  · intro u hu
    simp only [List.getD_cons_zero, List.getD_cons_succ, List.mem_cons, List.not_mem_nil, or_false] at hu
    rcases hu with rfl | rfl | rfl <;> omega
  · have hs := hf.some
    by_cases hx0 : x = 0
    · have hy0 : y ≠ 0 := fun e => hs ⟨hx0, e⟩
      exact ⟨m.b * (y : Int), by simp, Int.mul_ne_zero (by omega) (by omega)⟩
    · exact ⟨m.a * (x : Int), by simp, Int.mul_ne_zero (by omega) (by omega)⟩
theorem plain_small {n : Int} {vs : List Int} (hn : 0 ≤ n) (h : ∀ u ∈ vs, -n ≤ u ∧ u ≤ n) : ∀ u ∈ plainL vs, -n ≤ u ∧ u ≤ n := fun u hu => by
  unfold plainL at hu
  obtain ⟨v, hv, rfl⟩ := List.mem_map.1 hu
  have hb := h v hv
  have h1 : ((signL vs * v).tdiv (gcdL vs : Int)).natAbs ≤ v.natAbs := by
    rw [Int.natAbs_tdiv]
    refine Nat.le_trans (Nat.div_le_self _ _) ?_
    rcases signL_pm vs with e | e <;> rw [e] <;> omega
  omega
theorem plain_three {a b c : Int} {v : List Int} (h : Three a b c v) : Three a b c (plainL v) := by
  obtain ⟨⟨x, y, z, rfl⟩, h2, h3, h4⟩ := h
  refine ⟨⟨_, _, _, rfl⟩, ?_, plain_small (by decide) h3, plain_some h4⟩
  have e := plain_back [x, y, z]
  have h5 := val_scale [a, b, c] (signL [x, y, z] * (gcdL [x, y, z] : Int)) (plainL [x, y, z]) 3
  rw [e, h2] at h5
  have hs := sg_ne h4
  rcases Int.mul_eq_zero.1 h5.symm with h6 | h6
  · exact absurd h6 (Int.mul_ne_zero hs hs)
  · exact h6
def threeO (a b c : Int) : Option (List Int) := (searchO (nT a b c)).map (fun l => plainL (vec3 a b c l))
theorem threeO_ok {a b c : Int} (h : Ok3 a b c) {v : List Int} (hv : threeO a b c = some v) : Three a b c v ∧ plainL v = v := by
  unfold threeO at hv
  cases hs : searchO (nT a b c) with
  | none => rw [hs] at hv; cases hv
  | some l =>
    rw [hs] at hv
    cases hv
    have h1 := vec3_ok h hs
    exact ⟨plain_three h1, plain_plain h1.some⟩

/-- four terms: the value at two small integers -/
def vec4 (r x y : Int) (v : List Int) : List Int := [x * v.getD 2 0, y * v.getD 2 0, r * v.getD 0 0, r * v.getD 1 0]
def splitV (a b : Int) (x y : Nat) : Int := a * x * x + b * y * y
def splitO (a b c d : Int) (x y : Nat) : Option (List Int) :=
  if x = 0 ∧ y = 0 then none
  else if splitV a b x y = 0 then some (plainL [(x : Int), (y : Int), 0, 0])
  else if (coreG (splitV a b x y)).natAbs ≤ 30 then (threeO c d (coreG (splitV a b x y))).map (fun v => plainL (vec4 (rootG (splitV a b x y)) x y v))
  else none
def firstR {α : Type} (f : Nat → Option α) (N : Nat) : Option α := (List.range N).findSome? f
theorem firstR_none {α : Type} {f : Nat → Option α} {N : Nat} (h : ∀ i, i < N → f i = none) : firstR f N = none := by
  unfold firstR
  rw [List.findSome?_eq_none_iff]
  exact fun i hi => h i (List.mem_range.1 hi)
theorem firstR_some {α : Type} {f : Nat → Option α} {N k : Nat} {a : α} (h : ∀ i, i < k → f i = none) (hk : k < N) (ha : f k = some a) : firstR f N = some a := by
  unfold firstR
  rw [show N = k + (1 + (N - k - 1)) by omega, List.range_add, List.findSome?_append, List.findSome?_eq_none_iff.2 (fun i hi => h i (List.mem_range.1 hi)), Option.none_or, List.range_add, List.map_append, List.findSome?_append]
  simp [ha]
theorem firstR_mem {α : Type} {f : Nat → Option α} {N : Nat} {a : α} (h : firstR f N = some a) : ∃ k, k < N ∧ f k = some a := by
  unfold firstR at h
  obtain ⟨k, h1, hk⟩ := List.exists_of_findSome?_eq_some h
  exact ⟨k, List.mem_range.1 h1, hk⟩
def rowF (a b c d : Int) (x : Nat) : Option (List Int) := firstR (splitO a b c d x) 4
def fourO (a b c d : Int) : Option (List Int) := firstR (rowF a b c d) 4
theorem splitV_bd {a b : Int} {x y : Nat} (a1 : -30 ≤ a) (a2 : a ≤ 30) (b1 : -30 ≤ b) (b2 : b ≤ 30) (hx : x ≤ 3) (hy : y ≤ 3) : (-90 ≤ a * x ∧ a * x ≤ 90) ∧ (-270 ≤ a * x * x ∧ a * x * x ≤ 270) ∧ (-90 ≤ b * y ∧ b * y ≤ 90) ∧ (-270 ≤ b * y * y ∧ b * y * y ≤ 270) := by
  have B : ∀ (k : Int) (u : Nat), -30 ≤ k → k ≤ 30 → u ≤ 3 → (-90 ≤ k * (u : Int) ∧ k * (u : Int) ≤ 90) ∧ (-270 ≤ k * (u : Int) * (u : Int) ∧ k * (u : Int) * (u : Int) ≤ 270) := fun k u h1 h2 h3 => by
    have e1 : (k * (u : Int)).natAbs ≤ 30 * 3 := by rw [Int.natAbs_mul, Int.natAbs_natCast]; exact Nat.mul_le_mul (by omega) h3
    have e2 : (k * (u : Int) * (u : Int)).natAbs ≤ 30 * 3 * 3 := by rw [Int.natAbs_mul, Int.natAbs_natCast]; exact Nat.mul_le_mul e1 h3
    omega
  have h1 := B a x a1 a2 hx
  have h2 := B b y b1 b2 hy
  exact ⟨h1.1, h1.2, h2.1, h2.2⟩
theorem root_24 {t : Int} (h0 : t ≠ 0) (h1 : -540 ≤ t) (h2 : t ≤ 540) : 1 ≤ rootG t ∧ rootG t ≤ 23 := by
  obtain ⟨c0, e, _, _, r1⟩ := core_small h0
  refine ⟨r1, sq_small (n := 23) (N := 540) ?_ (by decide)⟩
  have := Nat.le_mul_of_pos_left (rootG t * rootG t) (show 0 < (coreG t).natAbs by omega)
  omega
/-- what a zero of four terms keeps -/
structure Four (a b c d : Int) (v : List Int) : Prop where
  four : ∃ x y z u, v = [x, y, z, u]
  zero : valI [a, b, c, d] v 4 = 0
  small : ∀ u ∈ v, -2000 ≤ u ∧ u ≤ 2000
  some : ∃ u ∈ v, u ≠ 0
theorem plain_four {a b c d : Int} {v : List Int} (h : Four a b c d v) : Four a b c d (plainL v) := by
  obtain ⟨⟨x, y, z, u, rfl⟩, h2, h3, h4⟩ := h
  refine ⟨⟨_, _, _, _, rfl⟩, ?_, plain_small (by decide) h3, plain_some h4⟩
  have e := plain_back [x, y, z, u]
  have h5 := val_scale [a, b, c, d] (signL [x, y, z, u] * (gcdL [x, y, z, u] : Int)) (plainL [x, y, z, u]) 4
  rw [e, h2] at h5
  have hs := sg_ne h4
  rcases Int.mul_eq_zero.1 h5.symm with h6 | h6
  · exact absurd h6 (Int.mul_ne_zero hs hs)
  · exact h6
theorem axis_four {a b c d : Int} {x y : Nat} (hx : x ≤ 3) (hy : y ≤ 3) (h0 : ¬ (x = 0 ∧ y = 0)) (hz : splitV a b x y = 0) : Four a b c d [(x : Int), (y : Int), 0, 0] := by
  refine ⟨⟨_, _, _, _, rfl⟩, ?_, ?_, ?_⟩
  · rw [val4]; unfold splitV at hz; rw [hz]; simp
  · intro u hu
    simp only [List.mem_cons, List.not_mem_nil, or_false] at hu
    omega
  · by_cases hx0 : x = 0
    · exact ⟨(y : Int), by simp, fun e => h0 ⟨hx0, by omega⟩⟩
    · exact ⟨(x : Int), by simp, by omega⟩
theorem vec4_ok {a b c d : Int} {x y : Nat} {v : List Int} (hx : x ≤ 3) (hy : y ≤ 3) (h0 : ¬ (x = 0 ∧ y = 0)) (ht0 : splitV a b x y ≠ 0) (ht1 : -540 ≤ splitV a b x y) (ht2 : splitV a b x y ≤ 540) (h : Three c d (coreG (splitV a b x y)) v) : Four a b c d (vec4 (rootG (splitV a b x y)) x y v) := by
  obtain ⟨⟨p, q, s, rfl⟩, h2, h3, h4⟩ := h
  obtain ⟨r1, r2⟩ := root_24 ht0 ht1 ht2
  have ec := (core_is ht0).eq
  obtain ⟨r, hr⟩ : ∃ r, r = rootG (splitV a b x y) := ⟨_, rfl⟩
  obtain ⟨k, hk⟩ : ∃ k, k = coreG (splitV a b x y) := ⟨_, rfl⟩
  rw [← hr] at r1 r2 ec ⊢
  rw [← hk] at ec h2
  have hp := h3 p (by simp)
  have hq := h3 q (by simp)
  have hs := h3 s (by simp)
  have B : ∀ (u : Nat) (n : Int), u ≤ 23 → -60 ≤ n → n ≤ 60 → -2000 ≤ (u : Int) * n ∧ (u : Int) * n ≤ 2000 := fun u n hu h1 h2 => by
    have : ((u : Int) * n).natAbs ≤ 23 * 60 := by rw [Int.natAbs_mul, Int.natAbs_natCast]; exact Nat.mul_le_mul hu (by omega)
    omega
  refine ⟨⟨_, _, _, _, rfl⟩, ?_, ?_, ?_⟩
  · rw [val3] at h2
    show valI [a, b, c, d] [(x : Int) * s, (y : Int) * s, (r : Int) * p, (r : Int) * q] 4 = 0
    rw [val4]
    unfold splitV at ec
    have e : a * ((x : Int) * s) * ((x : Int) * s) + b * ((y : Int) * s) * ((y : Int) * s) + c * ((r : Int) * p) * ((r : Int) * p) + d * ((r : Int) * q) * ((r : Int) * q) = (a * x * x + b * y * y) * (s * s) + (r : Int) * r * (c * p * p + d * q * q) := by
      simp only [Int.mul_add, Int.add_mul, Int.mul_assoc, Int.mul_comm, Int.mul_left_comm]
      omega
    rw [e, ← ec]
    have e3 : k * ((r : Int) * r) * (s * s) = (r : Int) * r * (k * s * s) := by simp only [Int.mul_assoc, Int.mul_comm, Int.mul_left_comm]
    have e2 : k * ((r : Int) * r) * (s * s) + (r : Int) * r * (c * p * p + d * q * q) = (r : Int) * r * (c * p * p + d * q * q + k * s * s) := by
      rw [e3, Int.mul_add _ _ (k * s * s), Int.add_comm]
    rw [e2, h2, Int.mul_zero]
  · intro u hu
    have g1 := B x s (by omega) hs.1 hs.2
    have g2 := B y s (by omega) hs.1 hs.2
    have g3 := B r p r2 hp.1 hp.2
    have g4 := B r q r2 hq.1 hq.2
    have hu : u ∈ [(x : Int) * s, (y : Int) * s, (r : Int) * p, (r : Int) * q] := hu
    simp only [List.mem_cons, List.not_mem_nil, or_false] at hu
    rcases hu with rfl | rfl | rfl | rfl
    · exact g1
    · exact g2
    · exact g3
    · exact g4
  · show ∃ u ∈ [(x : Int) * s, (y : Int) * s, (r : Int) * p, (r : Int) * q], u ≠ 0
    by_cases hs0 : s = 0
    · obtain ⟨u, hu, hu0⟩ := h4
      simp only [List.mem_cons, List.not_mem_nil, or_false] at hu
      rcases hu with rfl | rfl | rfl
      · exact ⟨(r : Int) * u, by simp, Int.mul_ne_zero (by omega) hu0⟩
      · exact ⟨(r : Int) * u, by simp, Int.mul_ne_zero (by omega) hu0⟩
      · exact absurd hs0 hu0
    · by_cases hx0 : x = 0
      · exact ⟨(y : Int) * s, by simp, Int.mul_ne_zero (fun e => h0 ⟨hx0, by omega⟩) hs0⟩
      · exact ⟨(x : Int) * s, by simp, Int.mul_ne_zero (by omega) hs0⟩
structure Ok4 (a b c d : Int) : Prop where
  a0 : a ≠ 0
  b0 : b ≠ 0
  c0 : c ≠ 0
  d0 : d ≠ 0
  a1 : -30 ≤ a
  a2 : a ≤ 30
  b1 : -30 ≤ b
  b2 : b ≤ 30
  c1 : -30 ≤ c
  c2 : c ≤ 30
  d1 : -30 ≤ d
  d2 : d ≤ 30
theorem ok4_of {a b c d : Int} (h : fvB [a, b, c, d] = true) : Ok4 a b c d := by
  have h1 := (fvB_iff.1 h).1
  have ha := h1 a (by simp)
  have hb := h1 b (by simp)
  have hc := h1 c (by simp)
  have hd := h1 d (by simp)
  exact ⟨ha.1, hb.1, hc.1, hd.1, ha.2.1, ha.2.2, hb.2.1, hb.2.2, hc.2.1, hc.2.2, hd.2.1, hd.2.2⟩
theorem Ok4.ok3 {a b c d t : Int} (h : Ok4 a b c d) (h0 : t ≠ 0) (ht : (coreG t).natAbs ≤ 30) : Ok3 c d (coreG t) :=
  ⟨h.c0, h.d0, (core_small h0).1, h.c1, h.c2, h.d1, h.d2, by omega, by omega⟩
theorem splitO_ok {a b c d : Int} {x y : Nat} (h : Ok4 a b c d) (hx : x ≤ 3) (hy : y ≤ 3) {v : List Int} (hv : splitO a b c d x y = some v) : Four a b c d v ∧ plainL v = v := by
  unfold splitO at hv
  by_cases h0 : x = 0 ∧ y = 0
  · rw [if_pos h0] at hv; cases hv
  · rw [if_neg h0] at hv
    have hb := splitV_bd h.a1 h.a2 h.b1 h.b2 hx hy
    have t1 : -540 ≤ splitV a b x y := by unfold splitV; omega
    have t2 : splitV a b x y ≤ 540 := by unfold splitV; omega
    by_cases hz : splitV a b x y = 0
    · rw [if_pos hz] at hv
      cases hv
      have h1 := axis_four (c := c) (d := d) hx hy h0 hz
      exact ⟨plain_four h1, plain_plain h1.some⟩
    · rw [if_neg hz] at hv
      by_cases hc : (coreG (splitV a b x y)).natAbs ≤ 30
      · rw [if_pos hc] at hv
        cases h3 : threeO c d (coreG (splitV a b x y)) with
        | none => rw [h3] at hv; cases hv
        | some l =>
          rw [h3] at hv
          cases hv
          have h4 := vec4_ok hx hy h0 hz t1 t2 (threeO_ok (h.ok3 hz hc) h3).1
          exact ⟨plain_four h4, plain_plain h4.some⟩
      · rw [if_neg hc] at hv; cases hv
theorem fourO_ok {a b c d : Int} (h : Ok4 a b c d) {v : List Int} (hv : fourO a b c d = some v) : Four a b c d v ∧ plainL v = v := by
  obtain ⟨x, hx, h1⟩ := firstR_mem hv
  obtain ⟨y, hy, h2⟩ := firstR_mem h1
  exact splitO_ok h (by omega) (by omega) h2

/-- what ZeroFind answers -/
def twoO (a b : Int) : Option (List Int) := if coreG a + coreG b = 0 then some (plainL [(rootG b : Int), (rootG a : Int)]) else none
def findL : List Int → Option (List Int)
  | [a, b] => twoO a b
  | [a, b, c] => threeO a b c
  | [a, b, c, d] => fourO a b c d
  | _ => none
def zfindO (xs : List Int) : Option (List Int) := if fvB xs then findL xs else none
theorem two_zero {a b : Int} (ha : a ≠ 0) (hb : b ≠ 0) (h : coreG a + coreG b = 0) : a * (rootG b : Int) * (rootG b : Int) + b * (rootG a : Int) * (rootG a : Int) = 0 := by
  have ea := (core_is ha).eq
  have eb := (core_is hb).eq
  obtain ⟨r, hr⟩ : ∃ r : Int, r = rootG a := ⟨_, rfl⟩
  obtain ⟨s, hs⟩ : ∃ s : Int, s = rootG b := ⟨_, rfl⟩
  obtain ⟨A, hA⟩ : ∃ A, A = coreG a := ⟨_, rfl⟩
  rw [show coreG b = -A by omega] at eb
  rw [← hr] at ea ⊢
  rw [← hs] at eb ⊢
  rw [← hA] at ea
  rw [← ea, ← eb]
  simp only [Int.mul_comm, Int.mul_left_comm, Int.mul_neg]
  omega
theorem root_30 {x : Int} (h0 : x ≠ 0) (h1 : -30 ≤ x) (h2 : x ≤ 30) : 1 ≤ rootG x ∧ rootG x ≤ 5 := by
  obtain ⟨c0, e, _, _, r1⟩ := core_small h0
  refine ⟨r1, sq_small (n := 5) (N := 30) ?_ (by decide)⟩
  have := Nat.le_mul_of_pos_left (rootG x * rootG x) (show 0 < (coreG x).natAbs by omega)
  omega
/-- what is found: a zero, a plain one, of small integers -/
structure Got (xs v : List Int) : Prop where
  zero : zeroB xs v = true
  plain : plainL v = v
  small : ∀ u ∈ v, -2000 ≤ u ∧ u ≤ 2000
theorem got_of {xs v : List Int} (hf : fvB xs = true) (hl : v.length = xs.length) (hz : valI xs v xs.length = 0) (hs : ∃ u ∈ v, u ≠ 0) (hb : ∀ u ∈ v, -2000 ≤ u ∧ u ≤ 2000) (hp : plainL v = v) : Got xs v :=
  ⟨zeroB_iff.2 ⟨fun u hu => by have := hb u hu; omega, hf, hl, hs, hz⟩, hp, hb⟩
theorem find_got {xs v : List Int} (h : zfindO xs = some v) : Got xs v := by
  unfold zfindO at h
  cases hf : fvB xs with
  | false => rw [hf] at h; cases h
  | true =>
    rw [hf, if_pos rfl] at h
    have hb := fvB_iff.1 hf
    have hc : xs.length = 1 ∨ xs.length = 2 ∨ xs.length = 3 ∨ xs.length = 4 := by omega
    rcases hc with e | e | e | e
    · obtain ⟨a, rfl⟩ := list_one e
      cases h
    · obtain ⟨a, b, rfl⟩ := list_two e
      have ha := hb.1 a (by simp)
      have hbb := hb.1 b (by simp)
      have h : twoO a b = some v := h
      unfold twoO at h
      by_cases h0 : coreG a + coreG b = 0
      · rw [if_pos h0] at h
        cases h
        obtain ⟨r1, r2⟩ := root_30 ha.1 ha.2.1 ha.2.2
        obtain ⟨s1, s2⟩ := root_30 hbb.1 hbb.2.1 hbb.2.2
        have hs : ∃ u ∈ [(rootG b : Int), (rootG a : Int)], u ≠ 0 := ⟨(rootG b : Int), by simp, by omega⟩
        have hz : zeroB [a, b] [(rootG b : Int), (rootG a : Int)] = true := zeroB_iff.2 ⟨fun u hu => by
          simp only [List.mem_cons, List.not_mem_nil, or_false] at hu
          omega, hf, rfl, hs, by show valI [a, b] [(rootG b : Int), (rootG a : Int)] 2 = 0; rw [val2]; exact two_zero ha.1 hbb.1 h0⟩
        exact ⟨plain_zero hz, plain_plain hs, plain_small (by decide) fun u hu => by
          simp only [List.mem_cons, List.not_mem_nil, or_false] at hu
          omega⟩
      · rw [if_neg h0] at h; cases h
    · obtain ⟨a, b, c, rfl⟩ := list_three e
      have h1 := threeO_ok (ok3_of hf) (show threeO a b c = some v from h)
      obtain ⟨⟨x, y, z, rfl⟩, h2, h3, h4⟩ := h1.1
      exact got_of hf rfl h2 h4 (fun u hu => by have := h3 u hu; omega) h1.2
    · obtain ⟨a, b, c, d, rfl⟩ := list_four e
      have h1 := fourO_ok (ok4_of hf) (show fourO a b c d = some v from h)
      obtain ⟨⟨x, y, z, w, rfl⟩, h2, h3, h4⟩ := h1.1
      exact got_of hf rfl h2 h4 h3 h1.2

end Go.Proofs.Ytbhlgdleklfonaa

set_option linter.unusedVariables false
namespace Go.Proofs.Ytbhlgdleklfonaa
open Go.RowKit

/-- the plain one of a list that has just been laid -/
theorem plainLitN_any (V : List Int) (cur : Array Value) (hc : cur = (V.map (Value.int .i64)).toArray) (hl : V.length ≤ 4) (h6 : Vec6 V) (hs : ∃ x ∈ V, x ≠ 0) (W : World) : Calls Try.prog 66 #[.slice (some ⟨W.heap.size, 0, none⟩) V.length V.length] (W.alloc (.cells cur 3)) fun e w' => ∃ u, e = .returned u ∧ Owns w' W.heap.size u (plainL V) ∧ Below W.heap.size W w' := by
  have hb : Below W.heap.size W (W.alloc (.cells cur 3)) := (Below.refl _ _).alloc (Nat.le_refl _) _
  have ho := owns_lit (W := W) (B := W.heap.size) V cur hc (Nat.le_refl _) (by unfold maxLen; omega)
  refine (l5Plain_any _ V _ ho.rd hl h6 hs).mono ?_
  rintro e w' ⟨u, rfl, h1, h2⟩
  exact ⟨u, rfl, h1.down hb.size, hb.trans (h2.mono hb.size)⟩
/-- the plain one of a list that has just been laid, the order drawn -/
theorem plainLit_any (V : List Int) (cur : Array Value) (hc : cur = (V.map (Value.int .i64)).toArray) (hl : V.length ≤ 4) (h6 : Vec6 V) (hs : ∃ x ∈ V, x ≠ 0) (W : World) : Calls Try.prog 66 #[.slice (some ⟨W.heap.size, 0, none⟩) V.length V.length] (W.alloc (.cells cur 3)).drew fun e w' => ∃ u, e = .returned u ∧ Owns w' W.heap.size u (plainL V) ∧ Below W.heap.size W w' := by
  have hb : Below W.heap.size W (W.alloc (.cells cur 3)) := (Below.refl _ _).alloc (Nat.le_refl _) _
  have hb2 : Below W.heap.size W (W.alloc (.cells cur 3)).drew := ⟨hb.os, hb.tape, hb.output, hb.size, hb.block⟩
  have ho := owns_lit (W := W) (B := W.heap.size) V cur hc (Nat.le_refl _) (by unfold maxLen; omega)
  have hr : Rd (W.alloc (.cells cur 3)).drew (.slice (some ⟨W.heap.size, 0, none⟩) V.length V.length) V := ho.rd
  refine (l5Plain_any _ V _ hr hl h6 hs).mono ?_
  rintro e w' ⟨u, rfl, h1, h2⟩
  exact ⟨u, rfl, h1.down hb2.size, hb2.trans (h2.mono hb2.size)⟩
theorem wrap_s {x n : Int} (hn : n ≤ 1000000000) (h1 : -n ≤ x) (h2 : x ≤ n) : IntKind.i64.wrap x = x := by rw [IntKind.wrap_i64]; omega

set_option maxRecDepth 100000 in
set_option maxHeartbeats 4000000 in
theorem l5Three_any (v : Value) (a b c : Int) (ok : Ok3 a b c) (w : World) (h : Rd w v [a, b, c]) : Calls Try.prog 88 #[v] w (SearchPost (threeO a b c) w) := by
  have HH := hid h
  have HOK := hid ok
  have hn := ok.nrm
  have hml := hn.minv.le hn.nz
  have HLIM := hid (T3.lim_of hn.nz (Nat.le_trans hn.lim (by omega)))
  obtain ⟨ad, cap, rfl, _⟩ := h.form
  have ET : Hid (threeO a b c = (searchO (nT a b c)).map (fun l => plainL (vec3 a b c l))) := hid rfl
  have HV : Hid (∀ l, searchO (nT a b c) = some l → Three a b c (vec3 a b c l)) := hid (fun l hl => vec3_ok ok hl)
  have HFD : Hid (∀ l, searchO (nT a b c) = some l → ∃ x y z, l = [x, y, z]) := hid (fun l hl => by
    obtain ⟨x, y, z, e, _⟩ := search_found hl
    exact ⟨_, _, _, e⟩)
  clear h ok hn hml
  go_enter Try.func88, Try.ntmps88
  go_wp2_with fail
  refine (l5Normal_any _ a b c HOK.out _ HH.out).mono ?_
  rintro e w2 ⟨u, z, rfl, ho, hm, hne, hb2⟩
  have HO := hid ho
  have HM := hid hm
  have HB2 := hid hb2
  obtain ⟨gt, ct, rfl, _, _⟩ := ho.block_of (by simp [T3.toL])
  clear ho hne hb2
  go_wp2_with fail
  refine (l5Search_any _ (nT a b c) HLIM.out _ HO.out.rd).mono ?_
  rintro e w3 ⟨s, rfl, hos, hb3⟩
  have HB3 := hid (HB2.out.trans (hb3.mono HB2.out.size))
  have HM3 := hid (HM.out.keep HM.out.lt hb3)
  clear hb3 hm
  cases hs : searchO (nT a b c) with
  | none =>
    have HE : Hid (threeO a b c = none) := hid (by rw [ET.out, hs]; rfl)
    rw [hs] at hos
    clear hs hos
    go_wp2_with fail
    go_ret2
    have hs3 := HB3.out.size
    refine ⟨_, by rw [HE.out]; rfl, ?_, HB3.out.alloc hs3 _⟩
    rw [HE.out]
    exact World.ownsRow_made (size := 1) _ #[] 0 hs3 (by unfold maxLen; omega) rfl
  | some l =>
    have HE : Hid (threeO a b c = some (plainL (vec3 a b c l))) := hid (by rw [ET.out, hs]; rfl)
    have h3 := HV.out l hs
    obtain ⟨x, y, q, rfl⟩ := HFD.out l hs
    rw [hs] at hos
    have hos' : Owns w3 w2.heap.size s [x, y, q] := hos
    obtain ⟨m, hm⟩ : ∃ m, m = nM a b c := ⟨_, rfl⟩
    have EV : vec3 a b c [x, y, q] = [m.a * x, m.b * y, m.c * q] := by rw [hm]; rfl
    rw [EV] at h3 HE
    rw [← hm] at HM3
    have k1 := h3.small (m.a * x) (by simp)
    have k2 := h3.small (m.b * y) (by simp)
    have k3 := h3.small (m.c * q) (by simp)
    have h31 := k1.1
    have h32 := k1.2
    have h33 := k2.1
    have h34 := k2.2
    have h35 := k3.1
    have h36 := k3.2
    have hw1 := wrap_s (by decide) k1.1 k1.2
    have hw2 := wrap_s (by decide) k2.1 k2.2
    have hw3 := wrap_s (by decide) k3.1 k3.2
    have HP := hid (plainLitN_any [m.a * x, m.b * y, m.c * q] _ rfl (by simp) (fun u hu => by have := h3.small u hu; omega) h3.some)
    obtain ⟨gs, cs, rfl, _, _⟩ := hos'.block_of (by simp)
    have HMX : Owns w3 w.heap.size z [m.a, m.b, m.c] := HM3.out
    obtain ⟨gm, cm, rfl, _, _⟩ := HMX.block_of (by simp)
    have p0 := hos'.elem (i := 0) (by simp)
    have p1 := hos'.elem (i := 1) (by simp)
    have p2 := hos'.elem (i := 2) (by simp)
    have q0 : w3.cell? ⟨gm, 0, none⟩ = some (.int .i64 m.a) := HMX.elem (i := 0) (by simp)
    have q1 : w3.cell? ⟨gm, 1, none⟩ = some (.int .i64 m.b) := HMX.elem (i := 1) (by simp)
    have q2 : w3.cell? ⟨gm, 2, none⟩ = some (.int .i64 m.c) := HMX.elem (i := 2) (by simp)
    clear HM3 HMX
    simp only [List.getD_cons_zero, List.getD_cons_succ] at p0 p1 p2
    have hs3 := HB3.out.size
    clear hs hos hos' h3 k1 k2 k3 hm EV
    go_wp2_with fail
    have HBD : Hid (Below w.heap.size w w3.drew) := hid ⟨HB3.out.os, HB3.out.tape, HB3.out.output, HB3.out.size, HB3.out.block⟩
    go_still_tail 21, (by kernel_rfl)
    change wpList _ _ _ _ _ w3.drew
    generalize w3.drew = wd at HBD ⊢
    have hsd := HBD.out.size
    go_wp2_with (go_at_call 66; refine (HP.out _).mono ?_; rintro e w4 ⟨u, rfl, ho4, hb4⟩)
    go_ret2
    exact ⟨_, by rw [HE.out]; rfl, by rw [HE.out]; exact ho4.down hsd, HBD.out.trans (hb4.mono hsd)⟩

end Go.Proofs.Ytbhlgdleklfonaa

set_option linter.unusedVariables false
namespace Go.Proofs.Ytbhlgdleklfonaa
open Go.RowKit

theorem rd_four {w : World} {v : Value} {a b c d : Int} (h : Rd w v [a, b, c, d]) : ∃ g o cap, v = .slice (some ⟨g, o, none⟩) 4 cap ∧ w.cell? ⟨g, o, none⟩ = some (.int .i64 a) ∧ w.cell? ⟨g, o + 1, none⟩ = some (.int .i64 b) ∧ w.cell? ⟨g, o + 2, none⟩ = some (.int .i64 c) ∧ w.cell? ⟨g, o + 3, none⟩ = some (.int .i64 d) := by
  obtain ⟨ad, cap, rfl, hform⟩ := h.form
  obtain ⟨g, o, rfl, _, hc⟩ := hform (by simp)
  exact ⟨g, o, cap, rfl, hc 0 (by simp), hc 1 (by simp), hc 2 (by simp), hc 3 (by simp)⟩
theorem rd_two {w : World} {v : Value} {a b : Int} (h : Rd w v [a, b]) : ∃ g o cap, v = .slice (some ⟨g, o, none⟩) 2 cap ∧ w.cell? ⟨g, o, none⟩ = some (.int .i64 a) ∧ w.cell? ⟨g, o + 1, none⟩ = some (.int .i64 b) := by
  obtain ⟨ad, cap, rfl, hform⟩ := h.form
  obtain ⟨g, o, rfl, _, hc⟩ := hform (by simp)
  exact ⟨g, o, cap, rfl, hc 0 (by simp), hc 1 (by simp)⟩
theorem below_drew {n : Nat} {w w' : World} (h : Below n w w') : Below n w w'.drew := ⟨h.os, h.tape, h.output, h.size, h.block⟩
theorem split_zero {a b c d : Int} {x y : Nat} (h : x = 0 ∧ y = 0) : splitO a b c d x y = none := by unfold splitO; rw [if_pos h]
theorem split_axis {a b c d : Int} {x y : Nat} (h : ¬ (x = 0 ∧ y = 0)) (hz : splitV a b x y = 0) : splitO a b c d x y = some (plainL [(x : Int), (y : Int), 0, 0]) := by unfold splitO; rw [if_neg h, if_pos hz]
theorem split_big {a b c d : Int} {x y : Nat} (h : ¬ (x = 0 ∧ y = 0)) (hz : splitV a b x y ≠ 0) (hc : ¬ (coreG (splitV a b x y)).natAbs ≤ 30) : splitO a b c d x y = none := by unfold splitO; rw [if_neg h, if_neg hz, if_neg hc]
theorem split_go {a b c d : Int} {x y : Nat} (h : ¬ (x = 0 ∧ y = 0)) (hz : splitV a b x y ≠ 0) (hc : (coreG (splitV a b x y)).natAbs ≤ 30) : splitO a b c d x y = (threeO c d (coreG (splitV a b x y))).map (fun v => plainL (vec4 (rootG (splitV a b x y)) x y v)) := by unfold splitO; rw [if_neg h, if_neg hz, if_pos hc]

set_option maxRecDepth 100000 in
set_option maxHeartbeats 8000000 in
theorem l5Four_any (v : Value) (a b c d : Int) (ok : Ok4 a b c d) (w : World) (h : Rd w v [a, b, c, d]) : Calls Try.prog 89 #[v] w (SearchPost (fourO a b c d) w) := by
  have HH := hid h
  have HOK := hid ok
  obtain ⟨g, o, cap, rfl, k0, k1, k2, k3⟩ := rd_four h
  have HK : Hid (∀ W : World, Below w.heap.size w W → W.cell? ⟨g, o, none⟩ = some (.int .i64 a) ∧ W.cell? ⟨g, o + 1, none⟩ = some (.int .i64 b) ∧ W.cell? ⟨g, o + 2, none⟩ = some (.int .i64 c) ∧ W.cell? ⟨g, o + 3, none⟩ = some (.int .i64 d)) := hid (fun W hW => by
    obtain ⟨g2, o2, cap2, e, j⟩ := rd_four (HH.out.keep hW)
    cases e
    exact j)
  have HB0 := hid (Below.refl w.heap.size w)
  have EF : Hid (fourO a b c d = firstR (rowF a b c d) 4) := hid rfl
  have ER : Hid (∀ x, rowF a b c d x = firstR (splitO a b c d x) 4) := hid (fun _ => rfl)
  clear h ok k0 k1 k2 k3
  go_enter Try.func89, Try.ntmps89
  go_wp2_with fail
  go_loopw [4] (fun sx wr => ∃ X : Nat, sx = .int .i64 X ∧ X ≤ 4 ∧ Hid (∀ i, i < X → rowF a b c d i = none) ∧ Hid (Below w.heap.size w wr)) (fun sx _ => 5 - (intOf sx).toNat)
  case atStart => exact ⟨0, rfl, by omega, hid (fun i hi => by omega), HB0⟩
  case round =>
    obtain ⟨X, rfl, hX, HX, HB⟩ := hrel
    rename World => wx
    by_cases hlx : X ≤ 3
    · have hlxi : (X : Int) ≤ 3 := by omega
      go_wp2_with fail
      go_loopw [5] (fun sy wr => ∃ Y : Nat, sy = .int .i64 Y ∧ Y ≤ 4 ∧ Hid (∀ i, i < Y → splitO a b c d X i = none) ∧ Hid (Below w.heap.size w wr)) (fun sy _ => 5 - (intOf sy).toNat)
      case atStart => exact ⟨0, rfl, by omega, hid (fun i hi => by omega), HB⟩
      case round =>
        obtain ⟨Y, rfl, hY, HY, HBy⟩ := hrel
        rename World => wy
        by_cases hly : Y ≤ 3
        · have hlyi : (Y : Int) ≤ 3 := by omega
          have hsy := HBy.out.size
          have NEXT : Hid (splitO a b c d X Y = none → ∀ i, i < Y + 1 → splitO a b c d X i = none) := hid (fun h i hi => by
            by_cases e : i = Y
            · rw [e]; exact h
            · exact HY.out i (by omega))
          have FOUND : Hid (∀ l, splitO a b c d X Y = some l → fourO a b c d = some l) := hid (fun l hl => by
            rw [EF.out]
            refine firstR_some HX.out (by omega) ?_
            rw [ER.out]
            exact firstR_some HY.out (by omega) hl)
          by_cases hz : X = 0 ∧ Y = 0
          · have HN2 := hid (NEXT.out (split_zero hz))
            obtain ⟨hX0, hY0⟩ := hz
            have X0 : ((X : Int) == 0) = true := by rw [beq_iff_eq]; omega
            have Y0 : ((Y : Int) == 0) = true := by rw [beq_iff_eq]; omega
            clear hX0 hY0
            go_wp2_with fail
            go_roundw
            case measure => simp only [intOf]; omega
            case rel => exact ⟨Y + 1, by go_num, by omega, HN2, HBy⟩
          · obtain ⟨j0, j1, j2, j3⟩ := HK.out wy HBy.out
            have hb := splitV_bd (x := X) (y := Y) HOK.out.a1 HOK.out.a2 HOK.out.b1 HOK.out.b2 hlx hly
            obtain ⟨⟨ax1, ax2⟩, ⟨axx1, axx2⟩, ⟨by1, by2⟩, byy1, byy2⟩ := hb
            have HSV : Hid (a * (X : Int) * (X : Int) + b * (Y : Int) * (Y : Int) = splitV a b X Y) := hid rfl
            have HXY := hid hz
            have HBD := hid (fun n => below_drewN HBy.out n)
            have xz : ((X : Int) == 0) = true → ((Y : Int) == 0) = false := fun h1 => by
              rw [beq_iff_eq] at h1
              rw [beq_eq_false_iff_ne]
              exact fun h2 => hz ⟨by omega, by omega⟩
            have HXZ := hid xz
            have hXc : ((X : Int) == 0) = true ∧ ((Y : Int) == 0) = false ∨ ((X : Int) == 0) = false := by
              cases hx : ((X : Int) == 0) with
              | true => exact .inl ⟨rfl, xz hx⟩
              | false => exact .inr rfl
            clear hz xz
            rcases hXc with ⟨X0, Y0⟩ | X0
            all_goals
              go_wp2_with fail
              go_quiet (fail)
              rw [HSV.out]
              have HKD := HK.out (wy.drewN nq) (HBD.out nq)
              have HBQ := hid (HBD.out nq)
              generalize wy.drewN nq = wq at HKD HBQ ⊢
              obtain ⟨l0, l1, l2, l3⟩ := HKD
              have hsq := HBQ.out.size
              have t1 : -540 ≤ splitV a b X Y := by unfold splitV; omega
              have t2 : splitV a b X Y ≤ 540 := by unfold splitV; omega
              by_cases ht : splitV a b X Y = 0
              · have HF := hid (FOUND.out _ (split_axis HXY.out ht))
                have T0 : (splitV a b X Y == 0) = true := by rw [beq_iff_eq]; exact ht
                have h4 := axis_four (c := c) (d := d) hlx hly HXY.out ht
                have HP := hid (plainLitN_any [(X : Int), (Y : Int), 0, 0] _ rfl (by simp) (fun u hu => by have := h4.small u hu; omega) h4.some wq)
                clear h4 ht t1 t2
                go_wp2_with (go_at_call 66; refine (HP.out).mono ?_; rintro e w4 ⟨u, rfl, ho4, hb4⟩)
                go_ret2
                exact ⟨_, by rw [HF.out]; rfl, by rw [HF.out]; exact ho4.down hsq, HBQ.out.trans (hb4.mono hsq)⟩
              · have T0 : (splitV a b X Y == 0) = false := by rw [beq_eq_false_iff_ne]; exact ht
                have HT0 := hid ht
                have hrt := root_24 ht t1 t2
                have hrt1 := hrt.1
                have hrt2 := hrt.2
                have hci := core_small ht
                have hcle := hci.2.2.1
                have HSB := hid (split_big (c := c) (d := d) HXY.out ht)
                have HSG := hid (split_go (c := c) (d := d) HXY.out ht)
                have HV4 : Hid (∀ l, Three c d (coreG (splitV a b X Y)) l → Four a b c d (vec4 (rootG (splitV a b X Y)) X Y l)) := hid (fun l hl => vec4_ok hlx hly HXY.out ht t1 t2 hl)
                have HO3 : Hid ((coreG (splitV a b X Y)).natAbs ≤ 30 → Ok3 c d (coreG (splitV a b X Y))) := hid (fun hc => HOK.out.ok3 ht hc)
                obtain ⟨t, hte⟩ : ∃ t, t = splitV a b X Y := ⟨_, rfl⟩
                rw [← hte] at T0 HT0 HSB HSG HV4 HO3 t1 t2 hrt1 hrt2 hcle ⊢
                obtain ⟨k, hk⟩ : ∃ k, k = coreG t := ⟨_, rfl⟩
                obtain ⟨r, hr⟩ : ∃ r, r = rootG t := ⟨_, rfl⟩
                have HKE : Hid (coreG t = k) := hid hk.symm
                have HRE : Hid (rootG t = r) := hid hr.symm
                rw [← hk] at HSB HSG HV4 HO3 hcle
                rw [← hr] at HSG HV4 hrt1 hrt2
                clear hci hrt ht hte hk hr HSV
                by_cases hc : k.natAbs ≤ 30
                · have hci : ¬ (30 : Int) < (k.natAbs : Int) := by omega
                  have HG := hid (HSG.out hc)
                  have HOK3 := hid (HO3.out hc)
                  go_wp2_with (first | (go_at_call 87; refine (l1CoreG_any _ HT0.out (by omega) (by omega) _).mono ?_; rw [HKE.out, HRE.out]; rintro e w' ⟨rfl, rfl⟩) | (go_at_call 98; refine (l1Size_any _ (by omega) (by omega) _).mono ?_; rintro e w' ⟨rfl, rfl⟩))
                  have HT5 : Hid (Calls Try.prog 88 #[.slice (some ⟨wq.heap.size, 0, none⟩) 3 3] (wq.alloc (.cells #[.int .i64 c, .int .i64 d, .int .i64 k] 3)).drew fun e w5 => ∃ u, e = .returned (.tuple #[u, .bool (threeO c d k).isSome]) ∧ Hid (Owns w5 w.heap.size u ((threeO c d k).getD [])) ∧ Hid (Below w.heap.size w w5)) := hid (by
                    have hol := owns_lit (W := wq) (B := wq.heap.size) [c, d, k] _ rfl (Nat.le_refl _) (by unfold maxLen; simp)
                    have hr3 : Rd (wq.alloc (.cells #[.int .i64 c, .int .i64 d, .int .i64 k] 3)).drew (.slice (some ⟨wq.heap.size, 0, none⟩) 3 3) [c, d, k] := hol.rd
                    have hbl := below_drew (HBQ.out.alloc hsq (.cells #[.int .i64 c, .int .i64 d, .int .i64 k] 3))
                    refine (l5Three_any _ c d k HOK3.out _ hr3).mono ?_
                    rintro e w5 ⟨u, rfl, ho5, hb5⟩
                    exact ⟨u, rfl, hid (ho5.down hbl.size), hid (hbl.trans (hb5.mono hbl.size))⟩)
                  go_region_with (go_at_call 88; refine (HT5.out).mono ?_; rintro e w5 ⟨u, rfl, ho5, HB5⟩)
                  all_goals
                   clear l0 l1 l2 l3 j0 j1 j2 j3
                   have hs5 := HB5.out.size
                   cases h3 : threeO c d k with
                   | none =>
                     have HN2 := hid (NEXT.out (by rw [HG.out, h3]; rfl))
                     rw [h3] at ho5
                     clear h3 ho5
                     go_wp2_with fail
                     go_roundw
                     case measure => simp only [intOf]; omega
                     case rel => exact ⟨Y + 1, by go_num, by omega, HN2, HB5⟩
                   | some l =>
                     have h3o := (threeO_ok HOK3.out h3).1
                     have h4 := HV4.out l h3o
                     have HF : Hid (fourO a b c d = some (plainL (vec4 (r : Int) (X : Int) (Y : Int) l))) := hid (FOUND.out _ (by rw [HG.out, h3]; rfl))
                     rw [h3] at ho5
                     obtain ⟨⟨p, q, s, rfl⟩, _, _, _⟩ := h3o
                     have ho5' : Owns w5 w.heap.size u [p, q, s] := ho5.out
                     obtain ⟨gu, cu, rfl, _, _⟩ := ho5'.block_of (by simp)
                     have p0 : w5.cell? ⟨gu, 0, none⟩ = some (.int .i64 p) := ho5'.elem (i := 0) (by simp)
                     have p1 : w5.cell? ⟨gu, 1, none⟩ = some (.int .i64 q) := ho5'.elem (i := 1) (by simp)
                     have p2 : w5.cell? ⟨gu, 2, none⟩ = some (.int .i64 s) := ho5'.elem (i := 2) (by simp)
                     have EV : vec4 (r : Int) X Y [p, q, s] = [(X : Int) * s, (Y : Int) * s, (r : Int) * p, (r : Int) * q] := rfl
                     rw [EV] at h4 HF
                     have k1 := h4.small ((X : Int) * s) (by simp)
                     have k2 := h4.small ((Y : Int) * s) (by simp)
                     have k3 := h4.small ((r : Int) * p) (by simp)
                     have k4 := h4.small ((r : Int) * q) (by simp)
                     have hw1 := wrap_s (by decide) k1.1 k1.2
                     have hw2 := wrap_s (by decide) k2.1 k2.2
                     have hw3 := wrap_s (by decide) k3.1 k3.2
                     have hw4 := wrap_s (by decide) k4.1 k4.2
                     have HP := hid (plainLitN_any [(X : Int) * s, (Y : Int) * s, (r : Int) * p, (r : Int) * q] _ rfl (by simp) (fun u hu => by have := h4.small u hu; omega) h4.some)
                     clear h3 ho5 ho5' h4 k1 k2 k3 k4 EV
                     go_wp2_with fail
                     go_still_tail 20, (by kernel_rfl)
                     change wpList _ _ _ _ _ w5.drew
                     have HB6 := hid (below_drew HB5.out)
                     generalize w5.drew = w6 at HB6 ⊢
                     have hs6 := HB6.out.size
                     go_wp2_with (go_at_call 66; refine (HP.out _).mono ?_; rintro e w7 ⟨u, rfl, ho7, hb7⟩)
                     go_ret2
                     exact ⟨_, by rw [HF.out]; rfl, by rw [HF.out]; exact ho7.down hs6, HB6.out.trans (hb7.mono hs6)⟩
                · have hci : (30 : Int) < (k.natAbs : Int) := by omega
                  have HN2 := hid (NEXT.out (HSB.out hc))
                  go_wp2_with (first | (go_at_call 87; refine (l1CoreG_any _ HT0.out (by omega) (by omega) _).mono ?_; rw [HKE.out, HRE.out]; rintro e w' ⟨rfl, rfl⟩) | (go_at_call 98; refine (l1Size_any _ (by omega) (by omega) _).mono ?_; rintro e w' ⟨rfl, rfl⟩))
                  go_roundw
                  case measure => simp only [intOf]; omega
                  case rel => exact ⟨Y + 1, by go_num, by omega, HN2, HBQ⟩
        · obtain rfl : Y = 4 := by omega
          have HR : Hid (rowF a b c d X = none) := hid (by rw [ER.out]; exact firstR_none HY.out)
          go_wp2_with fail
          go_roundw
          case measure => simp only [intOf]; omega
          case rel => exact ⟨X + 1, by go_num, by omega, hid (fun i hi => by
            by_cases e : i = X
            · rw [e]; exact HR.out
            · exact HX.out i (by omega)), HBy⟩
    · obtain rfl : X = 4 := by omega
      have HE : Hid (fourO a b c d = none) := hid (by rw [EF.out]; exact firstR_none HX.out)
      have hsx := HB.out.size
      go_wp2_with fail
      go_ret2
      refine ⟨_, by rw [HE.out]; rfl, ?_, HB.out.alloc hsx _⟩
      rw [HE.out]
      exact World.ownsRow_made (size := 1) _ #[] 0 hsx (by unfold maxLen; omega) rfl

theorem search_empty {w w2 : World} {o : Option (List Int)} (ho : o = none) (hb : Below w.heap.size w w2) : SearchPost o w (.returned (.tuple #[.slice (some ⟨w2.heap.size, 0, none⟩) 0 0, .bool false])) (w2.alloc (.cells #[] 3)) := by
  subst ho
  exact ⟨_, rfl, World.ownsRow_made (size := 1) _ #[] 0 hb.size (by unfold maxLen; omega) rfl, hb.alloc hb.size _⟩
set_option maxRecDepth 100000 in
set_option maxHeartbeats 2000000 in
theorem zeroFindS_any (v : Value) (xs : List Int) (w : World) (h : Rd w v xs) : Calls Try.prog 34 #[v] w (SearchPost (zfindO xs) w) := by
  have HH := hid h
  have hmx := rd_max h
  have HE0 : Hid (∀ o : Option (List Int), o = none → SearchPost o w (.returned (.tuple #[.slice (some ⟨w.heap.size, 0, none⟩) 0 0, .bool false])) (w.alloc (.cells #[] 3))) := hid (fun o ho => search_empty ho (Below.refl _ _))
  cases hf : fvB xs with
  | false =>
    have HF := hid hf
    have HR : Hid (zfindO xs = none) := hid (by unfold zfindO; rw [hf]; rfl)
    obtain ⟨ad, cap, rfl, _⟩ := h.form
    clear hf h
    go_enter Try.func34, Try.ntmps34
    go_wp2_with (go_at_call 73; refine (formValidS_any _ xs _ HH.out).mono ?_; rw [HF.out]; rintro e w' ⟨rfl, rfl⟩)
    go_ret2
    exact HE0.out _ HR.out
  | true =>
    have HF := hid hf
    have EZ : Hid (zfindO xs = findL xs) := hid (by unfold zfindO; rw [hf]; rfl)
    have hb := fvB_iff.1 hf
    have hc : xs.length = 1 ∨ xs.length = 2 ∨ xs.length = 3 ∨ xs.length = 4 := by omega
    rcases hc with e | e | e | e
    · obtain ⟨a, rfl⟩ := list_one e
      have HR : Hid (zfindO [a] = none) := hid (by rw [EZ.out]; rfl)
      obtain ⟨ad, cap, rfl, _⟩ := h.form
      clear hf h hb e EZ
      go_enter Try.func34, Try.ntmps34
      go_wp2_with (go_at_call 73; refine (formValidS_any _ _ _ HH.out).mono ?_; rw [HF.out]; rintro e w' ⟨rfl, rfl⟩)
      go_ret2
      exact HE0.out _ HR.out
    · obtain ⟨a, b, rfl⟩ := list_two e
      have ha := hb.1 a (by simp)
      have hbb := hb.1 b (by simp)
      have ET : Hid (zfindO [a, b] = if coreG a + coreG b = 0 then some (plainL [(rootG b : Int), (rootG a : Int)]) else none) := hid (by rw [EZ.out]; rfl)
      obtain ⟨g, o, cap, rfl, k0, k1⟩ := rd_two h
      have HA0 := hid ha.1
      have HB0 := hid hbb.1
      have a1 := ha.2.1
      have a2 := ha.2.2
      have b1 := hbb.2.1
      have b2 := hbb.2.2
      have ra := root_30 ha.1 a1 a2
      have rb := root_30 hbb.1 b1 b2
      have ca := (core_small ha.1).2.2.1
      have cb := (core_small hbb.1).2.2.1
      obtain ⟨A, hA⟩ : ∃ A, A = coreG a := ⟨_, rfl⟩
      obtain ⟨B, hB⟩ : ∃ B, B = coreG b := ⟨_, rfl⟩
      obtain ⟨r, hr⟩ : ∃ r, r = rootG a := ⟨_, rfl⟩
      obtain ⟨s, hs⟩ : ∃ s, s = rootG b := ⟨_, rfl⟩
      rw [← hA, ← hB, ← hr, ← hs] at ET
      rw [← hA] at ca
      rw [← hB] at cb
      rw [← hr] at ra
      rw [← hs] at rb
      have QA := hid hA.symm
      have QB := hid hB.symm
      have QR := hid hr.symm
      have QS := hid hs.symm
      have ra1 := ra.1
      have ra2 := ra.2
      have rb1 := rb.1
      have rb2 := rb.2
      clear hf h hb e EZ ha hbb hA hB hr hs ra rb
      by_cases h0 : A + B = 0
      · have T0 : (A + B == 0) = true := by rw [beq_iff_eq]; exact h0
        have HR : Hid (zfindO [a, b] = some (plainL [(s : Int), (r : Int)])) := hid (by rw [ET.out, if_pos h0])
        have HP := hid (plainLitN_any [(s : Int), (r : Int)] _ rfl (by simp) (fun u hu => by simp only [List.mem_cons, List.not_mem_nil, or_false] at hu; omega) ⟨(s : Int), by simp, by omega⟩ w)
        have HBR := hid (Below.refl w.heap.size w)
        clear h0
        go_enter Try.func34, Try.ntmps34
        go_wp2_with fail
        refine (formValidS_any _ _ _ HH.out).mono ?_
        rw [HF.out]
        rintro e w' ⟨rfl, rfl⟩
        go_wp2_with fail
        refine (l1CoreG_any a HA0.out (by omega) (by omega) _).mono ?_
        rw [QA.out, QR.out]
        rintro e w' ⟨rfl, rfl⟩
        go_wp2_with fail
        refine (l1CoreG_any b HB0.out (by omega) (by omega) _).mono ?_
        rw [QB.out, QS.out]
        rintro e w' ⟨rfl, rfl⟩
        go_wp2_with (go_at_call 66; refine (HP.out).mono ?_; rintro e w4 ⟨u, rfl, ho4, hb4⟩)
        go_ret2
        exact ⟨_, by rw [HR.out]; rfl, by rw [HR.out]; exact ho4, hb4⟩
      · have T0 : (A + B == 0) = false := by rw [beq_eq_false_iff_ne]; exact h0
        have HR : Hid (zfindO [a, b] = none) := hid (by rw [ET.out, if_neg h0])
        clear h0
        go_enter Try.func34, Try.ntmps34
        go_wp2_with fail
        refine (formValidS_any _ _ _ HH.out).mono ?_
        rw [HF.out]
        rintro e w' ⟨rfl, rfl⟩
        go_wp2_with fail
        refine (l1CoreG_any a HA0.out (by omega) (by omega) _).mono ?_
        rw [QA.out, QR.out]
        rintro e w' ⟨rfl, rfl⟩
        go_wp2_with fail
        refine (l1CoreG_any b HB0.out (by omega) (by omega) _).mono ?_
        rw [QB.out, QS.out]
        rintro e w' ⟨rfl, rfl⟩
        go_wp2_with fail
        go_ret2
        exact HE0.out _ HR.out
    · obtain ⟨a, b, c, rfl⟩ := list_three e
      have HR : Hid (zfindO [a, b, c] = threeO a b c) := hid (by rw [EZ.out]; rfl)
      have HOK := hid (ok3_of hf)
      obtain ⟨ad, cap, rfl, _⟩ := h.form
      clear hf h hb e EZ HE0
      go_enter Try.func34, Try.ntmps34
      go_wp2_with (first | (go_at_call 73; refine (formValidS_any _ _ _ HH.out).mono ?_; rw [HF.out]; rintro e w' ⟨rfl, rfl⟩) | (go_at_call 88; refine (l5Three_any _ a b c HOK.out _ HH.out).mono ?_; rintro e w2 ⟨u, rfl, ho, hb2⟩))
      go_ret2
      exact ⟨u, by rw [HR.out]; rfl, by rw [HR.out]; exact ho, hb2⟩
    · obtain ⟨a, b, c, d, rfl⟩ := list_four e
      have HR : Hid (zfindO [a, b, c, d] = fourO a b c d) := hid (by rw [EZ.out]; rfl)
      have HOK := hid (ok4_of hf)
      obtain ⟨ad, cap, rfl, _⟩ := h.form
      clear hf h hb e EZ HE0
      go_enter Try.func34, Try.ntmps34
      go_wp2_with (first | (go_at_call 73; refine (formValidS_any _ _ _ HH.out).mono ?_; rw [HF.out]; rintro e w' ⟨rfl, rfl⟩) | (go_at_call 89; refine (l5Four_any _ a b c d HOK.out _ HH.out).mono ?_; rintro e w2 ⟨u, rfl, ho, hb2⟩))
      go_ret2
      exact ⟨u, by rw [HR.out]; rfl, by rw [HR.out]; exact ho, hb2⟩

end Go.Proofs.Ytbhlgdleklfonaa

set_option linter.unusedVariables false
namespace Go.Proofs.Ytbhlgdleklfonaa
open Go.RowKit

def VecZ (ys : List Int) : Prop := ys.length ≤ 6 ∧ ∀ y ∈ ys, -6000 ≤ y ∧ y ≤ 6000
def VecP4 (m : Nat) (w : World) (B R : Nat) (v : Value) (n p : Nat) (e : Ending) (w' : World) : Prop :=
  ∃ (u : Value) (ys : List Int) (q : Nat), e = .returned u ∧ VecOk m 4 ys ∧ Hid (Owns w' w.heap.size u ys) ∧ q ≤ p + m ∧ Hid (Rdr w' B R v n q) ∧ Hid (Only R w w')
theorem VecP4.mk {m : Nat} {w : World} {B R : Nat} {v : Value} {n p q : Nat} {u : Value} {ys : List Int} {w' : World} (h : VecOk m 4 ys) (ho : Hid (Owns w' w.heap.size u ys)) (hq : q ≤ p + m) (hr : Hid (Rdr w' B R v n q)) (hn : Hid (Only R w w')) : VecP4 m w B R v n p (.returned u) w' :=
  ⟨u, ys, q, rfl, h, ho, hq, hr, hn⟩
theorem VecOk.z {m : Nat} {ys : List Int} (h : VecOk m 4 ys) (hm : m ≤ 6) : VecZ ys := ⟨by rw [h.1]; exact hm, fun y hy => by have := h.2 y hy; omega⟩
def litK : Array Value := #[.int .i64 1, .int .i64 2, .int .i64 (-1), .int .i64 (-3), .int .i64 1]
theorem litK_at {y : Int} (h0 : 0 ≤ y) (h1 : y < 5) : ∃ p : Int, litK[y.toNat]? = some (.int .i64 p) ∧ -3 ≤ p ∧ p ≤ 2 := by
  have : y = 0 ∨ y = 1 ∨ y = 2 ∨ y = 3 ∨ y = 4 := by omega
  rcases this with rfl | rfl | rfl | rfl | rfl
  all_goals exact ⟨_, rfl, by omega, by omega⟩
theorem mul_k {k u : Int} (h1 : -3 ≤ k) (h2 : k ≤ 2) (h3 : -2000 ≤ u) (h4 : u ≤ 2000) : -6000 ≤ k * u ∧ k * u ≤ 6000 := by
  have : k = -3 ∨ k = -2 ∨ k = -1 ∨ k = 0 ∨ k = 1 ∨ k = 2 := by omega
  rcases this with rfl | rfl | rfl | rfl | rfl | rfl <;> omega

set_option maxRecDepth 100000 in
set_option maxHeartbeats 4000000 in
theorem vector4_any (B R : Nat) (v : Value) (n p m : Nat) (hp : p ≤ 700000000000000) (hm2 : m ≤ 6) (a : Option Addr) (cap : Nat) (w : World) (HR : Hid (Rdr w B R v n p)) (hB : B ≤ w.heap.size) :
    Calls Try.prog 99 #[.pointer (some ⟨R, 0, none⟩), .slice a m cap, .int .i64 4] w (VecP4 m w B R v n p) := by
  obtain ⟨i0, hi, hz0, hz1, hz2⟩ := info_parts infoInt
  have hRs := HR.out.lt
  have hBR := HR.out.1
  have HO0 : Hid (Owns (w.alloc (.cells #[] 3)) w.heap.size (.slice (some ⟨w.heap.size, 0, none⟩) 0 0) []) := hid (World.ownsRow_made (size := 1) w #[] 0 (Nat.le_refl _) (by unfold maxLen; omega) rfl)
  have HRA := hid (HR.out.alloc hB (.cells #[] 3))
  have HON := hid ((Only.refl R w).alloc (.cells #[] 3))
  go_enter Try.func99, Try.ntmps99
  go_wp2_with fail
  go_loopw [7, 8] (fun so si wr => ∃ (K r : Nat) (ys : List Int), si = .int .i64 K ∧ K ≤ m ∧ r ≤ p + K ∧ Hid (VecOk K 4 ys) ∧ Hid (Owns wr w.heap.size so ys) ∧ Hid (Rdr wr B R v n r) ∧ Hid (Only R w wr)) (fun _ si _ => 10 - (intOf si).toNat)
  case atStart => exact ⟨0, p, [], rfl, by omega, by omega, hid ⟨rfl, fun x hx => by cases hx⟩, HO0, HRA, HON⟩
  case round =>
    obtain ⟨K, r, ys, rfl, hK, hr, HT, HOr, HRr, HNr⟩ := hrel
    rename World => wr
    have hsr := HNr.out.size
    have hyl := HT.out.1
    by_cases hlt : K < m
    · have hKi : (K : Int) < (m : Int) := by omega
      have hRr := HRr.out.lt
      go_wp2_with (first | (go_at_call 67; refine (pick_any _ _ _ _ r 9 (by omega) (by omega) (by omega) _ HRr.out).mono ?_; rintro e wq ⟨k, s, rfl, hk0, hk1, _, hs, HC, HP⟩; replace hk1 := hk1 (by omega); have HO2 := hid (HOr.out.only HP.out (by omega)); have HN2 := hid (HNr.out.trans HP.out); have hs2 := HN2.out.size) | (at_builtin; refine wpList_append_own_at _ rfl _ _ 23 rfl w.heap.size 3 i0 (.int .i64 0) 1 8 Try.underlying23 hi hz0 hz1 hz2 rfl (by decide) _ _ _ rfl ((show World.ownsRow _ _ _ _ _ _ _ from HO2.out).alloc _) ⟨wq.heap.size, 0, none⟩ 1 1 [.int .i64 (k - 4)] rfl rfl (cell_one_new _ _ _) (by simp [Value.oneCell']) (by unfold maxLen; omega) (by omega) (by simp; omega) ?_; intro v' w3 hown' hgrow _ hat))
      have hsg := hgrow.size
      simp only [World.size_alloc] at hsg
      have HN4 := hid ((HN2.out.alloc (.cells #[.int .i64 (k - 4)] 3)).grown hgrow (fun k e => (HO2.out.ge k e)))
      have HR4 := hid (((HC.out.alloc (by omega) (.cells #[.int .i64 (k - 4)] 3)).kept (((Below.refl w.heap.size _).grown hgrow (by simp; omega) (fun k e => (HO2.out.ge k e)))) (by omega) (by omega)))
      go_roundw
      case measure => simp only [intOf]; omega
      case rel =>
        exact ⟨K + 1, s, ys ++ [k - 4], by go_num, by omega, by omega, hid (HT.out.snoc (by omega) (by omega)), hid (by unfold Owns; simpa using hown'), HR4, HN4⟩
    · obtain rfl : K = m := by omega
      go_wp2
      go_ret
      exact VecP4.mk HT.out HOr (by omega) HRr HNr

def ZeroPost (w : World) (R : Nat) (e : Ending) (w' : World) : Prop :=
  ∃ (u z : Value) (xs vs : List Int), e = .returned (.tuple #[u, z]) ∧ TermsOk xs ∧ VecZ vs ∧ Hid (Owns w' w.heap.size u xs) ∧ Hid (Owns w' w.heap.size z vs) ∧ Hid (Only R w w')
theorem ZeroPost.mk {w : World} {R : Nat} {u z : Value} {xs vs : List Int} {w' : World} (h : TermsOk xs) (hv : VecZ vs) (ho : Owns w' w.heap.size u xs) (hz : Owns w' w.heap.size z vs) (hn : Only R w w') : ZeroPost w R (.returned (.tuple #[u, z])) w' := ⟨u, z, xs, vs, rfl, h, hv, hid ho, hid hz, hid hn⟩

set_option maxRecDepth 100000 in
set_option maxHeartbeats 4000000 in
theorem zero5_any (B R : Nat) (v : Value) (n p : Nat) (hp : p ≤ 100000000) (w : World) (HR : Hid (Rdr w B R v n p)) (hB : B ≤ w.heap.size) :
    Calls Try.prog 49 #[.pointer (some ⟨R, 0, none⟩)] w (ZeroPost w R) := by
  obtain ⟨i0, hi, hz0, hz1, hz2⟩ := info_parts infoInt
  have hRs := HR.out.lt
  go_enter Try.func49, Try.ntmps49
  go_wp2_with fail
  refine (pick_any _ _ _ _ p 3 (by omega) (by omega) (by omega) _ (HR.out)).mono ?_
  rintro e wHC ⟨k, r, rfl, hk0, hk1, _, hr, HC, HP⟩
  replace hk1 := hk1 (by omega)
  have hs2 := HP.out.size
  obtain ⟨m, hm, hm1, hm4⟩ : ∃ m : Nat, 2 + k = (m : Int) ∧ 1 ≤ m ∧ m ≤ 4 := ⟨(2 + k).toNat, by omega, by omega, by omega⟩
  go_wp2_with fail
  refine (form5_any _ _ _ _ r m (by omega) (by omega) (by omega) _ HC (by omega)).mono ?_
  rintro e w2 ⟨u, xs, q, rfl, HT, HO, hq, HA, HN⟩
  have hs3 := HN.out.size
  have HN2 := hid (HP.out.trans HN.out)
  have HT1 := HT.out.1
  clear hm HP HC
  obtain ⟨ax, cx, rfl⟩ := HO.out.reads
  go_wp2_with fail
  refine (zeroFindS_any _ xs _ HO.out.rd).mono ?_
  rintro e w3 ⟨uv, rfl, hov, hb3⟩
  have hs4 := hb3.size
  have HO3 := hid (HO.out.keep HO.out.lt hb3)
  have HN3 := hid (HN2.out.trans (Only.of_below (R := R) hb3))
  have HR3 := hid (HA.out.kept hb3 (by have := HA.out.lt; omega) (by omega))
  have HV3 := hid hov
  have hxl := HT1.1
  clear hov hb3 HO HN2 HA HN
  cases hz : zfindO xs with
  | none =>
    go_wp2_with fail
    refine (vector4_any _ _ _ _ q xs.length (by omega) (by omega) ax cx _ HR3 (by omega)).mono ?_
    rintro e w4 ⟨uz, ys, s, rfl, HV, HOz, hs, HD, HQ⟩
    go_wp2
    go_ret2
    exact ZeroPost.mk HT1 (HV.z (by omega)) ((HO3.out.only HQ.out (by omega)).base (by omega)) (HOz.out.base (by omega)) (HN3.out.trans HQ.out)
  | some l =>
    have hgot := find_got hz
    have HG := hid hgot
    have hl6 : l.length ≤ 6 := by have := (zeroB_iff.1 hgot.zero).2.2.1; omega
    rw [hz] at HV3
    simp only [Option.getD_some] at HV3
    clear hz hgot
    go_wp2_with fail
    refine (pick_any _ _ _ _ q 4 (by omega) (by omega) (by omega) _ (HR3.out)).mono ?_
    rintro e wHD ⟨k2, s, rfl, hk20, hk21, _, hs, HD, HQ⟩
    replace hk21 := hk21 (by omega)
    have HO4 := hid (HO3.out.only HQ.out (by omega))
    have HV4 := hid (HV3.out.only HQ.out (by omega))
    have HN4 := hid (HN3.out.trans HQ.out)
    have hs5 := HN4.out.size
    have hs6 := HQ.out.size
    clear HO3 HV3 HN3 HQ
    by_cases hk2 : k2 > 0
    · have HO0 : Hid (Owns (wHD.alloc (.cells #[] 3)) wHD.heap.size (.slice (some ⟨wHD.heap.size, 0, none⟩) 0 0) []) := hid (World.ownsRow_made (size := 1) wHD #[] 0 (Nat.le_refl _) (by unfold maxLen; omega) rfl)
      have hRr := HD.out.lt
      go_wp2_with fail
      refine (pick_any _ _ _ _ s 5 (by omega) (by omega) (by omega) _ ((HD.out.alloc (by omega) _).alloc (by simp; omega) _)).mono ?_
      rintro e wHE ⟨k3, s2, rfl, hk30, hk31, _, hs2, HE, HS⟩
      replace hk31 := hk31 (by omega)
      obtain ⟨x, hx, hx1, hx2⟩ := litK_at hk30 hk31
      have c := (lit_cell (fr := (0, 0)) HS.out (by simp; omega) k3.toNat).trans hx
      rw [World.size_alloc] at c
      have HOE := hid (Owns.only (W' := wHE) (show Owns ((wHD.alloc (.cells #[] 3)).alloc (.cells litK 3)) wHD.heap.size _ [] from HO0.out.alloc _) HS.out hRr)
      have HNE := hid ((((Only.refl R wHD).alloc (.cells #[] 3)).alloc (.cells litK 3)).trans HS.out)
      clear HO0 HS HE HD hx
      go_wp2_with fail
      go_loopw [7, 9] (fun so si wr => ∃ K : Nat, si = .int .i64 K ∧ K ≤ l.length ∧ Hid (Owns wr wHD.heap.size so ((l.take K).map (fun y => x * y))) ∧ Hid (Only R wHD wr)) (fun _ si _ => 10 - (intOf si).toNat)
      case atStart => exact ⟨0, rfl, by omega, hid (by simpa using HOE.out), HNE⟩
      case round =>
        obtain ⟨K, rfl, hK, HOr, HNr⟩ := hrel
        rename World => wr
        have hsr := HNr.out.size
        by_cases hlt : K < l.length
        · have HVr := hid (HV4.out.only HNr.out (by omega)).rd
          obtain ⟨av, cv, e2, hform⟩ := HVr.out.form
          obtain ⟨bb, o, e3, hml, hc⟩ := hform (by omega)
          subst e3
          subst e2
          have hcell := hc K hlt
          have hb := HG.out.small (l.getD K 0) (by rw [getD_at _ _ hlt]; exact List.getElem_mem _)
          have HSN : Hid ((l.take (K + 1)).map (fun y => x * y) = (l.take K).map (fun y => x * y) ++ [x * l.getD K 0]) := hid (map_take hlt)
          obtain ⟨y, hy⟩ : ∃ y, y = l.getD K 0 := ⟨_, rfl⟩
          rw [← hy] at hcell hb HSN
          obtain ⟨hb1, hb2⟩ := hb
          obtain ⟨mb1, mb2⟩ := mul_k hx1 hx2 hb1 hb2
          have hi0 : (K : Int) < (l.length : Int) := by omega
          obtain ⟨pre, hpre⟩ : ∃ pre, pre = (l.take K).map (fun y => x * y) := ⟨_, rfl⟩
          have hprel : pre.length ≤ 1000 := by rw [hpre, List.length_map, List.length_take]; omega
          rw [← hpre] at HOr HSN
          have HLT := hid hlt
          unfold maxLen at hml
          clear hform hc hy hlt hpre HVr c
          go_wp2_with (at_builtin; refine wpList_append_own_at _ rfl _ _ 23 rfl wHD.heap.size 3 i0 (.int .i64 0) 1 8 Try.underlying23 hi hz0 hz1 hz2 rfl (by decide) _ _ _ rfl ((show World.ownsRow _ _ _ _ _ _ _ from HOr.out).alloc _) ⟨wr.heap.size, 0, none⟩ 1 1 [.int .i64 (x * y)] rfl rfl (cell_one_new _ _ _) (by simp [Value.oneCell']) (by unfold maxLen; omega) (by omega) (by simp; omega) ?_; intro v' w3 hown' hgrow _ hat)
          have hsg := hgrow.size
          simp only [World.size_alloc] at hsg
          go_roundw
          case measure => simp only [intOf]; have := HLT.out; omega
          case rel =>
            refine ⟨K + 1, by go_num, by have := HLT.out; omega, hid ?_, hid ((HNr.out.alloc (.cells #[.int .i64 (x * y)] 3)).grown hgrow (fun k e => (HOr.out.ge k e)))⟩
            rw [HSN.out]
            unfold Owns
            simpa using hown'
        · have hKL : K = l.length := by omega
          rw [hKL, List.take_length] at HOr
          have HZ : Hid (VecZ (l.map (fun y => x * y))) := hid ⟨by rw [List.length_map]; omega, fun z hz => by
            obtain ⟨y, hy, rfl⟩ := List.mem_map.1 hz
            have := HG.out.small y hy
            exact mul_k hx1 hx2 this.1 this.2⟩
          have hge : ¬ (K : Int) < (l.length : Int) := by omega
          obtain ⟨av, cv, rfl⟩ := HV4.out.reads
          clear c
          go_wp2_with fail
          go_ret2
          exact ZeroPost.mk HT1 HZ.out ((HO4.out.only HNr.out (by omega)).base (by omega)) (HOr.out.base (by omega)) (HN4.out.trans HNr.out)
    · go_wp2_with fail
      refine (vector4_any _ _ _ _ s xs.length (by omega) (by omega) ax cx _ HD (by omega)).mono ?_
      rintro e w4 ⟨uz, ys, s2, rfl, HV, HOz, hs, HD2, HQ⟩
      go_wp2
      go_ret2
      exact ZeroPost.mk HT1 (HV.z (by omega)) ((HO4.out.only HQ.out (by omega)).base (by omega)) (HOz.out.base (by omega)) (HN4.out.trans HQ.out)

def DrewZ (w : World) (e : Ending) (w' : World) : Prop := ∃ (u z : Value) (xs vs : List Int), e = .returned (.tuple #[u, z]) ∧ TermsOk xs ∧ VecZ vs ∧ Hid (Owns w' w.heap.size u xs) ∧ Hid (Owns w' w.heap.size z vs) ∧ Below w.heap.size w w'

set_option maxRecDepth 100000 in
set_option maxHeartbeats 2000000 in
theorem drawZeroIs_any (v : Value) (n : Nat) (w : World) (h : CodeIn w v n) : Calls Try.prog 12 #[v] w (DrewZ w) := by
  go_enter Try.func12, Try.ntmps12
  go_wp2_with fail
  refine (open_any v n _ h).mono ?_
  rintro e w1 ⟨v1, n1, rfl, HR, HB⟩
  have hsz := HB.size
  go_wp2_with fail
  refine (zero5_any _ _ _ _ 0 (by omega) _ HR hsz).mono ?_
  rintro e w2 ⟨u, z, xs, vs, rfl, HT, HV, HO, HZ, HN⟩
  have HV2 := hid HV
  have HT2 := hid HT
  clear HV HT
  go_wp2
  go_ret2
  exact ⟨u, z, xs, vs, rfl, HT2.out, HV2.out, hid (HO.out.base hsz), hid (HZ.out.base hsz), only_below HB HN.out⟩

set_option maxRecDepth 100000 in
set_option maxHeartbeats 2000000 in
theorem drawZeroPlain_any (v : Value) (n : Nat) (w : World) (h : CodeIn w v n) : Calls Try.prog 18 #[v] w (DrewZ w) := by
  go_enter Try.func18, Try.ntmps18
  go_wp2_with fail
  refine (open_any v n _ h).mono ?_
  rintro e w1 ⟨v1, n1, rfl, HR, HB⟩
  have hsz := HB.size
  go_wp2_with fail
  refine (zero5_any _ _ _ _ 0 (by omega) _ HR hsz).mono ?_
  rintro e w2 ⟨u, z, xs, vs, rfl, HT, HV, HO, HZ, HN⟩
  have HV2 := hid HV
  have HT2 := hid HT
  clear HV HT
  go_wp2
  go_ret2
  exact ⟨u, z, xs, vs, rfl, HT2.out, HV2.out, hid (HO.out.base hsz), hid (HZ.out.base hsz), only_below HB HN.out⟩

set_option maxRecDepth 100000 in
set_option maxHeartbeats 2000000 in
theorem drawZeroHeight_any (v : Value) (n : Nat) (w : World) (h : CodeIn w v n) : Calls Try.prog 43 #[v] w (DrewZ w) := by
  go_enter Try.func43, Try.ntmps43
  go_wp2_with fail
  refine (open_any v n _ h).mono ?_
  rintro e w1 ⟨v1, n1, rfl, HR, HB⟩
  have hsz := HB.size
  go_wp2_with fail
  refine (zero5_any _ _ _ _ 0 (by omega) _ HR hsz).mono ?_
  rintro e w2 ⟨u, z, xs, vs, rfl, HT, HV, HO, HZ, HN⟩
  have HV2 := hid HV
  have HT2 := hid HT
  clear HV HT
  go_wp2
  go_ret2
  exact ⟨u, z, xs, vs, rfl, HT2.out, HV2.out, hid (HO.out.base hsz), hid (HZ.out.base hsz), only_below HB HN.out⟩

end Go.Proofs.Ytbhlgdleklfonaa

namespace Go.Proofs.Ytbhlgdleklfonaa.fnHeight
open Go.ChangeShapes Go.WideShapes Go.ChangeAt Go.RowKit
open Go.ChangeMaps (open_string shut_string)
set_option linter.unusedVariables false
theorem zplain_yes {xs vs : List Int} (h : zeroB xs vs = true) : zplainL xs vs = plainL vs := by unfold zplainL; rw [h, if_pos rfl]
theorem zplain_no {xs vs : List Int} (h : zeroB xs vs = false) : zplainL xs vs = [] := by unfold zplainL; rw [h]; rfl
theorem zhgt_yes {xs vs : List Int} (h : zeroB xs vs = true) : zhgtV xs vs = (hgtL vs : Nat) := by unfold zhgtV; rw [h, if_pos rfl]
theorem zhgt_no {xs vs : List Int} (h : zeroB xs vs = false) : zhgtV xs vs = -1 := by unfold zhgtV; rw [h]; rfl
theorem zero_some {xs vs : List Int} (h : zeroB xs vs = true) : ∃ v ∈ vs, v ≠ 0 := (zeroB_iff.1 h).2.2.2.1
theorem vecZ_mild {vs : List Int} (h : VecZ vs) : MildT vs := ⟨by have := h.1; omega, fun x hx => by have := h.2 x hx; omega⟩
theorem plain_nat (vs : List Int) (K : Nat) : (vs.getD K 0).natAbs = gcdL vs * ((plainL vs).getD K 0).natAbs := by
  have h : vs.getD K 0 = signL vs * (gcdL vs : Int) * (plainL vs).getD K 0 := by
    conv => lhs; rw [← plain_back vs]
    exact getD_map0 (fun v => signL vs * (gcdL vs : Int) * v) (by simp) _ _
  rw [h, Int.natAbs_mul, Int.natAbs_mul, Int.natAbs_natCast]
  rcases signL_pm vs with e | e <;> rw [e] <;> simp
theorem any_take {vs : List Int} {H K : Nat} (h : K < vs.length) : (vs.take (K + 1)).any (fun v => v.natAbs == H) = ((vs.take K).any (fun v => v.natAbs == H) || ((vs.getD K 0).natAbs == H)) := by
  rw [takeD_snoc h, List.any_append]
  simp
theorem any_hgt {vs : List Int} (h : ∃ v ∈ vs, v ≠ 0) : vs.any (fun v => v.natAbs == hgtL vs) = true := by
  obtain ⟨v, hv, e⟩ := hgt_at h
  exact List.any_eq_true.2 ⟨v, hv, by rw [beq_iff_eq]; exact e⟩
theorem mul_6 {a b : Nat} (ha : a ≤ 6000) (hb : b ≤ 6000) : (0 : Int) ≤ (a : Int) * (b : Int) ∧ (a : Int) * (b : Int) ≤ 36000000 := by
  have h := Nat.mul_le_mul ha hb
  have e : (a : Int) * (b : Int) = ((a * b : Nat) : Int) := by push_cast; rfl
  rw [e]
  omega
theorem hgt_rest {vs : List Int} (h : ∃ v ∈ vs, v ≠ 0) : ((hgtL vs : Nat) : Int) % ((hgtL (plainL vs) : Nat) : Int) = 0 := by
  have e := hgt_plain h
  rw [e]
  push_cast
  exact Int.mul_emod_left _ _
set_option maxRecDepth 100000 in
set_option maxHeartbeats 4000000 in
theorem walk  (a0 : Option Addr) (len0 cap0 : Nat) (z0 : List Int) (w : World) (w0 : IsRow .u8 w a0 len0 cap0 z0) :
    Calls Try.prog 10 #[.slice a0 len0 cap0] w fun e w' => e = .returned (.bool true) ∧ Below w.heap.size w w' := by
  have HC := hid (codeIn_of w0)
  clear w0
  by_cases hl0 : (1048576 : Int) < (len0 : Int)
  · go_enter Try.func10, Try.ntmps10
    go_wp2
    go_ret
    exact ⟨rfl, Below.refl _ _⟩
  · go_enter Try.func10, Try.ntmps10
    go_wp2_with fail
    refine (drawZeroHeight_any _ len0 _ HC.out).mono ?_
    rintro e d1 ⟨u, v, xs, vs, rfl, HT, HV, HXo, HVo, hb0⟩
    have HB1 := hid hb0
    clear hb0
    have hxl := HT.1
    have hvl := HV.1
    have HVB := hid HV
    clear HT HV
    cases hz : zeroB xs vs with
    | false =>
      have HH := hid (zhgt_no hz)
      clear hz
      go_wp2_with fail
      refine (zeroHeight_any u v xs vs _ HXo.out.rd HVo.out.rd).mono ?_
      rw [HH.out]
      rintro e d2 ⟨rfl, hb2⟩
      have HB2 := hid (HB1.out.trans (hb2.mono HB1.out.size))
      have X_2 := hid (HXo.out.keep HXo.out.lt hb2)
      have V_2 := hid (HVo.out.keep HVo.out.lt hb2)
      clear hb2
      go_wp2_with fail
      refine (zeroHeightS_any u v xs vs _ X_2.out.rd V_2.out.rd).mono ?_
      rw [HH.out]
      rintro e d3 ⟨rfl, k3, hw3⟩
      have hb3 : Below d2.heap.size d2 d3 := by rw [hw3]; exact below_dn (Below.refl _ _)
      have HB3 := hid (HB2.out.trans (hb3.mono HB2.out.size))
      have X_3 := hid (X_2.out.keep X_2.out.lt hb3)
      have V_3 := hid (V_2.out.keep V_2.out.lt hb3)
      clear hw3 hb3
      go_wp2
      go_ret
      exact ⟨rfl, HB3.out⟩
    | true =>
      have hsm := zero_some hz
      have HZ := hid hz
      have HH := hid (zhgt_yes hz)
      have HP := hid (zplain_yes hz)
      have HHP := hid (zhgt_yes (plain_zero hz))
      have HPL := hid (plainL_len vs)
      have HXK : Hid (∀ K, K < vs.length → (vs.getD K 0).natAbs ≤ hgtL vs ∧ ((vs.getD K 0).natAbs : Int) * (hgtL (plainL vs) : Nat) = (((plainL vs).getD K 0).natAbs : Int) * (hgtL vs : Nat) ∧ ((plainL vs).getD K 0).natAbs ≤ 6000 ∧ (vs.getD K 0).natAbs ≤ 6000) := hid (fun K hK => by
        have hm : vs.getD K 0 ∈ vs := by rw [getD_at _ _ hK]; exact List.getElem_mem _
        have h1 := hgt_ge hm
        have h2 := plain_nat vs K
        have h3 := HVB.out.2 _ hm
        have h4 := gcdL_pos hsm
        have h5 := Nat.le_mul_of_pos_left ((plainL vs).getD K 0).natAbs h4
        refine ⟨h1, ?_, by omega, by omega⟩
        rw [hgt_plain hsm, h2]
        push_cast
        simp only [Int.mul_assoc, Int.mul_left_comm])
      have hb1 : hgtL vs ≤ 6000 := hgt_le (fun v hv => by have := HVB.out.2 v hv; omega)
      have hb0 : 1 ≤ hgtL vs := hgt_pos hsm
      have hp0 : 1 ≤ hgtL (plainL vs) := hgt_pos (plain_some hsm)
      have hp1 : hgtL (plainL vs) ≤ hgtL vs := by
        rw [hgt_plain hsm]
        exact Nat.le_mul_of_pos_left _ (gcdL_pos hsm)
      have HANY := hid (any_hgt hsm)
      have hrest := hgt_rest hsm
      have HAT : Hid (∀ K, K < vs.length → (vs.take (K + 1)).any (fun v => v.natAbs == hgtL vs) = ((vs.take K).any (fun v => v.natAbs == hgtL vs) || ((vs.getD K 0).natAbs == hgtL vs))) := hid (fun K hK => any_take hK)
      obtain ⟨H, hH⟩ : ∃ H, H = hgtL vs := ⟨_, rfl⟩
      obtain ⟨h, hh⟩ : ∃ h, h = hgtL (plainL vs) := ⟨_, rfl⟩
      rw [← hH] at HH HXK hb0 hb1 hp1 HANY hrest HAT
      rw [← hh] at HHP HXK hp0 hp1 hrest
      obtain ⟨J, hJ⟩ : ∃ J, J = plainL vs := ⟨_, rfl⟩
      rw [← hJ] at HP HHP HXK HPL
      clear hz hsm hH hh hJ
      go_wp2_with fail
      refine (zeroHeight_any u v xs vs _ HXo.out.rd HVo.out.rd).mono ?_
      rw [HH.out]
      rintro e d2 ⟨rfl, hb2⟩
      have HB2 := hid (HB1.out.trans (hb2.mono HB1.out.size))
      have X_2 := hid (HXo.out.keep HXo.out.lt hb2)
      have V_2 := hid (HVo.out.keep HVo.out.lt hb2)
      clear hb2
      go_wp2_with fail
      refine (zeroHeightS_any u v xs vs _ X_2.out.rd V_2.out.rd).mono ?_
      rw [HH.out]
      rintro e d3 ⟨rfl, k3, hw3⟩
      have hb3 : Below d2.heap.size d2 d3 := by rw [hw3]; exact below_dn (Below.refl _ _)
      have HB3 := hid (HB2.out.trans (hb3.mono HB2.out.size))
      have X_3 := hid (X_2.out.keep X_2.out.lt hb3)
      have V_3 := hid (V_2.out.keep V_2.out.lt hb3)
      clear hw3 hb3
      go_wp2_with fail
      refine (zeroPlain_any u v xs vs _ X_3.out.rd V_3.out.rd).mono ?_
      rw [HZ.out, HP.out]
      rintro e d4 ⟨P_o, rfl, hO4, hb4⟩
      have HB4 := hid (HB3.out.trans (hb4.mono HB3.out.size))
      have X_4 := hid (X_3.out.keep X_3.out.lt hb4)
      have V_4 := hid (V_3.out.keep V_3.out.lt hb4)
      have P_4 := hid hO4
      clear hO4
      clear hb4
      go_wp2_with fail
      refine (zeroHeight_any u P_o xs J _ X_4.out.rd P_4.out.rd).mono ?_
      rw [HHP.out]
      rintro e d5 ⟨rfl, hb5⟩
      have HB5 := hid (HB4.out.trans (hb5.mono HB4.out.size))
      have X_5 := hid (X_4.out.keep X_4.out.lt hb5)
      have V_5 := hid (V_4.out.keep V_4.out.lt hb5)
      have P_5 := hid (P_4.out.keep P_4.out.lt hb5)
      clear hb5
      obtain ⟨va, vcap, rfl⟩ := (V_5.out).reads
      obtain ⟨pa, pcap, rfl⟩ := (P_5.out).reads
      have HVK : Hid (∀ wx : World, Below d5.heap.size d5 wx → Rd wx (.slice va vs.length vcap) vs) := hid (fun wx hbx => (V_5.out.rd).keep hbx)
      have HPK : Hid (∀ wx : World, Below d5.heap.size d5 wx → Rd wx (.slice pa J.length pcap) J) := hid (fun wx hbx => (P_5.out.rd).keep hbx)
      have HD : Hid (Below d5.heap.size d5 d5) := hid (Below.refl _ _)
      go_wp2_with fail
      go_loopw [10, 11] (fun sf si wr => ∃ (K : Nat) (b : Bool), sf = .bool b ∧ si = .int .i64 K ∧ K ≤ vs.length ∧ Hid (b = (vs.take K).any (fun v => v.natAbs == H)) ∧ Hid (Below d5.heap.size d5 wr)) (fun _ si _ => 10 - (intOf si).toNat)
      case atStart => exact ⟨0, false, rfl, rfl, by omega, hid rfl, HD⟩
      case round =>
        obtain ⟨K, b, rfl, rfl, hK, Hb, HBW⟩ := hrel
        rename World => wr
        by_cases hlt : K < vs.length
        · obtain ⟨x1, x2, x3, x4⟩ := HXK.out K hlt
          obtain ⟨a2, c2, e2, hform⟩ := (HVK.out wr HBW.out).form
          cases e2
          obtain ⟨bb, o, rfl, hml, hc⟩ := hform (by omega)
          have hcell := hc K hlt
          obtain ⟨a3, c3, e3, hform3⟩ := (HPK.out wr HBW.out).form
          cases e3
          have hltp : K < J.length := by rw [HPL.out]; exact hlt
          obtain ⟨b3, o3, rfl, hml3, hc3⟩ := hform3 (by omega)
          have hcell3 := hc3 K hltp
          have HNX := hid (HAT.out K hlt)
          obtain ⟨x, hx⟩ : ∃ x, x = vs.getD K 0 := ⟨_, rfl⟩
          obtain ⟨y, hy⟩ : ∃ y, y = J.getD K 0 := ⟨_, rfl⟩
          rw [← hx] at hcell x1 x2 x4 HNX
          rw [← hy] at hcell3 x2 x3
          have HSX : Hid (∀ W, Calls Try.prog 26 #[.int .i64 x] W fun e w' => e = .returned (.int .i64 (x.natAbs : Nat)) ∧ W = w') := hid (fun W => sizeOf_any x (by omega) (by omega) W)
          have HSY : Hid (∀ W, Calls Try.prog 26 #[.int .i64 y] W fun e w' => e = .returned (.int .i64 (y.natAbs : Nat)) ∧ W = w') := hid (fun W => sizeOf_any y (by omega) (by omega) W)
          obtain ⟨X, hX⟩ : ∃ X, X = x.natAbs := ⟨_, rfl⟩
          obtain ⟨Y, hY⟩ : ∃ Y, Y = y.natAbs := ⟨_, rfl⟩
          rw [← hX] at x1 x2 x4 HNX HSX
          rw [← hY] at x2 x3 HSY
          have HQX : Hid (∀ (w : World) (n : Nat), Calls Try.prog 26 #[.int .i64 x] (w.drewN n) fun e w'' => e = .returned (.int .i64 (X : Nat)) ∧ ∃ m, w'' = w.drewN m) := hid (fun w n => Calls.quiet_of_same ((HSX.out _).mono fun _ _ h => ⟨h.1, h.2.symm⟩))
          have HQY : Hid (∀ (w : World) (n : Nat), Calls Try.prog 26 #[.int .i64 y] (w.drewN n) fun e w'' => e = .returned (.int .i64 (Y : Nat)) ∧ ∃ m, w'' = w.drewN m) := hid (fun w n => Calls.quiet_of_same ((HSY.out _).mono fun _ _ h => ⟨h.1, h.2.symm⟩))
          obtain ⟨m1, m2⟩ := mul_6 (a := X) (b := h) (by omega) (by omega)
          obtain ⟨m3, m4⟩ := mul_6 (a := Y) (b := H) (by omega) (by omega)
          have wm1 := wrap_9 (x := (X : Int) * (h : Int)) (by omega) (by omega)
          have wm2 := wrap_9 (x := (Y : Int) * (H : Int)) (by omega) (by omega)
          have TE : ((X : Int) * (h : Int) != (Y : Int) * (H : Int)) = false := by rw [bne_eq_false_iff_eq]; exact x2
          have TG : decide ((H : Int) < (X : Int)) = false := decide_eq_false (by omega)
          have hi0 : (K : Int) < (vs.length : Int) := by omega
          have hi1 : (K : Int) < (J.length : Int) := by omega
          have HLT := hid hlt
          unfold maxLen at hml hml3
          clear hform hform3 hc hc3 hx hy hlt hltp x2 hX hY
          cases b with
          | true =>
            have HB2 : Hid (true = (vs.take (K + 1)).any (fun v => v.natAbs == H)) := hid (by rw [HNX.out, ← Hb.out]; rfl)
            go_wp2_with fail
            go_quiet ((first | (go_at_call 26; exact HQX.out _ _) | (go_at_call 26; exact HQY.out _ _)))
            go_wp2_with fail
            go_roundw
            case measure => simp only [intOf]; have := HLT.out; omega
            case rel => exact ⟨K + 1, true, rfl, by go_num, by have := HLT.out; omega, HB2, hid (below_drewN HBW.out _)⟩
          | false =>
            have HB2 : Hid (((X : Int) == (H : Int)) = (vs.take (K + 1)).any (fun v => v.natAbs == H)) := hid (by
              rw [HNX.out, ← Hb.out, Bool.false_or, Bool.eq_iff_iff, beq_iff_eq, beq_iff_eq]
              omega)
            obtain ⟨t, ht⟩ : ∃ t, t = ((X : Int) == (H : Int)) := ⟨_, rfl⟩
            rw [← ht] at HB2
            have ht2 := ht.symm
            clear ht
            go_wp2_with (go_at_call 26; refine (HSX.out _).mono ?_; rintro e w' ⟨rfl, rfl⟩)
            go_quiet ((first | (go_at_call 26; exact HQX.out _ _) | (go_at_call 26; exact HQY.out _ _)))
            go_wp2_with fail
            go_roundw
            case measure => simp only [intOf]; have := HLT.out; omega
            case rel => exact ⟨K + 1, t, rfl, by go_num, by have := HLT.out; omega, HB2, hid (below_drewN HBW.out _)⟩
        · have hKL : K = vs.length := by omega
          rw [hKL, List.take_length, HANY.out] at Hb
          obtain rfl := Hb.out
          have hge : ¬ (K : Int) < (vs.length : Int) := by omega
          have HB9 := hid (HB5.out.trans (HBW.out.mono HB5.out.size))
          have hh1 : (1 : Int) ≤ (H : Int) := by omega
          have hh0 : ((h : Int) == 0) = false := by rw [beq_eq_false_iff_ne]; omega
          clear hKL hlt
          go_wp2
          go_ret
          exact ⟨rfl, HB9.out⟩
theorem own : ownKnob Try.prog.godebug = none := by kernel_rfl
theorem laidOut : laidOutB Try.prog = true := by kernel_rfl
set_option maxRecDepth 100000 in
theorem lifted (os : Os) (started : os.Started) (H : Type) (enc : TypeId × Value → H) :
    ReturnsInHanded {} Try.checked os 10 .any (Rows.fnHeightSpec.pre6 enc Try.prog Try.f10 Rows.fnHeightRow.domain false) (Rows.fnHeightSpec.post enc Try.prog Try.f10 false true false false) := by
  refine returnsInHanded_of_change (C := Try.checked) own started (by kernel_rfl) Try.func10
    (ChangeSpec.witness6 (enc := enc) (C := Try.checked) false ⟨#[], #[.slice none 0 0], []⟩ 8 (by kernel_rfl) (by kernel_rfl) (by kernel_rfl) (by kernel_rfl)) ?_
  intro W base args ds gs before hval0 hW hcnd _
  have hval : ∀ (j : Nat) t v, Try.f10.params[j]? = some t → args[j]? = some v → Value.okWide Try.prog W .any base t v := hval0
  have hW' := hW
  obtain ⟨p, q, hA0, hV, rfl, hfz, hnd⟩ := hW
  have hA : DataW.TrodAll enc Try.prog W 0 (fun _ => true) true Try.f10.params.toList args.toList ds p := hA0
  rw [Try.params10] at hA hval
  obtain ⟨v0, vs0, d0, ds0, p0, q0, hargs, rfl, rfl, h0, r0⟩ := trodAll_cons hA
  obtain ⟨rfl, rfl, rfl⟩ := trodAll_nil r0
  obtain rfl : args = #[v0] := by cases args; simp_all
  obtain ⟨rfl, rfl⟩ := trodVars_none hV
  obtain ⟨a0, len0, cap0, rfl⟩ := okWide_slice Try.underlying22 (hval 0 22 v0 rfl rfl)
  have k0 := h0
  have lt0 : ∀ x ∈ p0, x.block < W.heap.size := by obtain ⟨m, hm⟩ := k0; exact DataW.trod_lt m _ _ _ hm
  obtain ⟨z0, w0⟩ : ∃ zs, IsRow .u8 W a0 len0 cap0 zs := by
    obtain ⟨fuel, hf⟩ := h0
    rcases open_ints Try.underlying22 Try.underlying5 (by kernel_rfl) hf with ⟨hcs, _⟩ | ⟨x, l, c, zs, hcs, _, hl, hm, hz, _, hcell, hwz⟩
    · simp [Value.cells] at hcs
      obtain ⟨rfl, rfl, rfl⟩ := hcs
      exact ⟨[], .inl ⟨rfl, rfl, rfl, rfl⟩⟩
    · simp [Value.cells] at hcs
      obtain ⟨rfl, rfl, rfl⟩ := hcs
      exact ⟨zs, .inr ⟨_, rfl, hl, hm, by simpa using hz, hcell, hwz⟩⟩
  clear hA0 hval0
  refine (walk a0 len0 cap0 z0 W w0).mono fun e W' ⟨he, bel⟩ => ?_
  subst he
  exact ⟨_, rfl, _, _, _, [], _, [], hW', trodAll_mk1 (shut_bool Try.underlying4 _), (trodAll_cons_mk (Below.trod laidOut (by kernel_rfl) (of_decide_eq_true (by kernel_rfl)) k0 bel lt0) trodAll_mk0), rfl, bel.frame _, fun h => by cases h⟩
theorem over : Rows.fnHeightRow.holds Try.pinned (OpenSpec.ofChange Rows.fnHeightSpec) :=
  OpenClaim.holds_of_wide 10 Try.f10 rfl rfl rfl rfl rfl rfl rfl ⟨rfl, rfl, rfl, rfl, rfl⟩ rfl rfl rfl rfl rfl (by kernel_rfl) Try.func10 (by kernel_rfl)
    (of_decide_eq_true (by kernel_rfl)) (by unfold Func.isWrapper; first | (rw [if_pos (by decide +kernel)]; kernel_rfl) | (rw [if_neg (by decide +kernel)]; exact ⟨rfl, rfl⟩))
    (fun os started H enc _ => lifted os started H enc)
theorem proved : Rows.FnHeightSaid := over
end Go.Proofs.Ytbhlgdleklfonaa.fnHeight
