/-
  Plain arithmetic behind the laws of chapter 3: equations up to a power of 2 and of 3; how many ways up to a prime.
-/
import Derived.Test.YtciajpimpjpnfacLaw4K
set_option linter.unusedVariables false
namespace Go.Proofs.Ytciajpimpjpnfac
open Go.RowKit

theorem ways_of {P : Nat} (hP : 1 ≤ P) (h : waysOk P = true) (a b : Int) : ((a % (P : Int) = 0) ≠ (b % (P : Int) = 0)) ∨ cntX a b P P = P * P - 1 := by
  have a1 := Int.emod_nonneg a (show (P : Int) ≠ 0 by omega)
  have a2 := Int.emod_lt_of_pos a (show (0 : Int) < P by omega)
  have b1 := Int.emod_nonneg b (show (P : Int) ≠ 0 by omega)
  have b2 := Int.emod_lt_of_pos b (show (0 : Int) < P by omega)
  rw [cntX_mod]
  obtain ⟨r, hr⟩ := Int.eq_ofNat_of_zero_le a1
  obtain ⟨s, hs⟩ := Int.eq_ofNat_of_zero_le b1
  rw [hr, hs]
  rw [hr] at a2
  rw [hs] at b2
  have := List.all_eq_true.1 (List.all_eq_true.1 h r (List.mem_range.2 (by omega))) s (List.mem_range.2 (by omega))
  rw [Bool.or_eq_true, decide_eq_true_eq, beq_iff_eq] at this
  rcases this with h | h
  · left
    intro e
    apply h
    have e1 : ((r : Int) = 0) = (r = 0) := propext ⟨fun h => by omega, fun h => by omega⟩
    have e2 : ((s : Int) = 0) = (s = 0) := propext ⟨fun h => by omega, fun h => by omega⟩
    rw [e1, e2] at e
    exact e
  · exact .inr h

/-- solutions depend on the rests alone -/
theorem hitB_mod (a b : Int) (P m x y z : Nat) : hitB a b P m x y z = hitB (a % (m : Int)) (b % (m : Int)) P m x y z := by
  unfold hitB
  congr 2
  simp only [Int.sub_emod, Int.add_emod, Int.mul_emod, Int.emod_emod_of_dvd _ (Int.dvd_refl (m : Int))]
theorem anyHit_mod (a b : Int) (P m : Nat) : anyHit a b P m = anyHit (a % (m : Int)) (b % (m : Int)) P m := by
  unfold anyHit
  congr 1
  funext x
  congr 1
  funext y
  congr 1
  funext z
  exact hitB_mod a b P m x y z
theorem anyHit_iff {a b : Int} {P m : Nat} : anyHit a b P m = true ↔ ∃ x y z, x < m ∧ y < m ∧ z < m ∧ hitB a b P m x y z = true := by
  constructor
  · intro h
    obtain ⟨x, hx, h1⟩ := List.any_eq_true.1 h
    obtain ⟨y, hy, h2⟩ := List.any_eq_true.1 h1
    obtain ⟨z, hz, h3⟩ := List.any_eq_true.1 h2
    exact ⟨x, y, z, List.mem_range.1 hx, List.mem_range.1 hy, List.mem_range.1 hz, h3⟩
  · rintro ⟨x, y, z, hx, hy, hz, h⟩
    exact anyHit_yes hx hy hz h
/-- what is solved up to a multiple is solved up to the number -/
theorem anyHit_down {a b : Int} {P m M : Nat} (hm : 0 < m) (hP : P ∣ m) (hM : m ∣ M) (h : anyHit a b P M = true) : anyHit a b P m = true := by
  obtain ⟨x, y, z, _, _, _, h⟩ := anyHit_iff.1 h
  refine anyHit_yes (x := x % m) (y := y % m) (z := z % m) (Nat.mod_lt _ hm) (Nat.mod_lt _ hm) (Nat.mod_lt _ hm) ?_
  unfold hitB at h ⊢
  rw [Bool.and_eq_true, beq_iff_eq] at h
  rw [Bool.and_eq_true, beq_iff_eq]
  refine ⟨by rw [Nat.mod_mod_of_dvd _ hP, Nat.mod_mod_of_dvd _ hP, Nat.mod_mod_of_dvd _ hP]; exact h.1, ?_⟩
  have h2 : (a * (x : Int) * (x : Int) + b * (y : Int) * (y : Int) - (z : Int) * (z : Int)) % (m : Int) = 0 :=
    Int.emod_eq_zero_of_dvd (Int.dvd_trans (Int.ofNat_dvd.2 hM) (Int.dvd_of_emod_eq_zero h.2))
  rw [← h2]
  push_cast
  simp only [Int.sub_emod, Int.add_emod, Int.mul_emod, Int.emod_emod_of_dvd _ (Int.dvd_refl (m : Int))]

theorem prime3 : primeN 3 = true := rfl
theorem pl3 : plI 3 = true := by decide
theorem c33 : ((3 : Nat) : Int) = 3 := rfl
theorem cls3_cong {n m : Int} (hn : n % 3 ≠ 0) (h : (n - m) % 3 = 0) : cls n 3 = cls m 3 :=
  cls_cong prime3 (by decide) (n := n) (m := m) (by rw [c33]; omega) (by rw [c33]; omega)
/-- the class at 3 of what 27 does not divide -/
theorem cls3_27 {a : Int} (h : a % 27 ≠ 0) : cls a 3 = cls (a % 27) 3 := by
  by_cases h1 : a % 3 = 0
  · obtain ⟨b, rfl⟩ : ∃ b, a = 3 * b := ⟨a / 3, by omega⟩
    by_cases h2 : b % 3 = 0
    · obtain ⟨c, rfl⟩ : ∃ c, b = 3 * c := ⟨b / 3, by omega⟩
      rw [show (3 * (3 * c)) % 27 = (c % 3) * (3 * 3) by omega, show 3 * (3 * c) = c * (3 * 3) by omega,
        cls_sqI (by omega) (by decide) pl3, cls_sqI (by omega) (by decide) pl3]
      exact cls3_cong (by omega) (by omega)
    · rw [show (3 * b) % 27 = 3 * (b % 9) by omega, cls_mul (by decide) (by omega) pl3, cls_mul (by decide) (by omega) pl3, cls3_cong (m := b % 9) h2 (by omega)]
  · exact cls3_cong h1 (by omega)
theorem cls3_9 {a : Int} (h : a % 9 ≠ 0) : cls a 3 = cls (a % 9) 3 := by
  by_cases h1 : a % 3 = 0
  · obtain ⟨b, rfl⟩ : ∃ b, a = 3 * b := ⟨a / 3, by omega⟩
    rw [show (3 * b) % 9 = 3 * (b % 3) by omega, cls_mul (by decide) (by omega) pl3, cls_mul (by decide) (by omega) pl3, cls3_cong (n := b) (m := b % 3) (by omega) (by omega)]
  · exact cls3_cong h1 (by omega)
/-- the class at 2 -/
theorem cls2_32 {a : Int} (h : a % 8 ≠ 0) : cls a 2 = cls (a % 32) 2 := by
  by_cases h1 : a % 2 = 1
  · rw [cls2_odd h1, cls2_odd (by omega)]
    congr 1; omega
  · obtain ⟨b, rfl⟩ : ∃ b, a = 2 * b := ⟨a / 2, by omega⟩
    by_cases h2 : b % 2 = 1
    · rw [show (2 * b) % 32 = 2 * (b % 16) by omega, cls2_two h2, cls2_two (by omega)]
      congr 1; omega
    · obtain ⟨c, rfl⟩ : ∃ c, b = 2 * c := ⟨b / 2, by omega⟩
      rw [show (2 * (2 * c)) % 32 = 4 * (c % 8) by omega, show 2 * (2 * c) = 4 * c by omega, cls2_four (by omega), cls2_four (by omega), cls2_odd (by omega), cls2_odd (by omega)]
      congr 1; omega
theorem cls2_16 {a : Int} (h : a % 4 ≠ 0) : cls a 2 = cls (a % 16) 2 := by
  by_cases h1 : a % 2 = 1
  · rw [cls2_odd h1, cls2_odd (by omega)]
    congr 1; omega
  · obtain ⟨b, rfl⟩ : ∃ b, a = 2 * b := ⟨a / 2, by omega⟩
    rw [show (2 * b) % 16 = 2 * (b % 8) by omega, cls2_two (by omega), cls2_two (by omega)]
    congr 1; omega

theorem rest_nat (a : Int) {m : Nat} (hm : 0 < m) : ∃ r : Nat, r < m ∧ a % (m : Int) = (r : Int) := by
  have a1 := Int.emod_nonneg a (show (m : Int) ≠ 0 by omega)
  have a2 := Int.emod_lt_of_pos a (show (0 : Int) < m by omega)
  exact ⟨(a % (m : Int)).toNat, by omega, by omega⟩
theorem high3 {a b : Int} (ha : a % 9 ≠ 0) (hb : b % 9 ≠ 0) (h : anyHit a b 3 27 = true) : symV a b 3 = 1 := by
  have h9 := anyHit_down (m := 9) (by decide) (by decide) (by decide) h
  rw [anyHit_mod] at h9
  rw [symV_congr (cls3_9 ha) (cls3_9 hb)]
  obtain ⟨r, hr, er⟩ := rest_nat a (show 0 < 9 by decide)
  obtain ⟨s, hs, es⟩ := rest_nat b (show 0 < 9 by decide)
  rw [er, es] at h9
  rw [show ((9 : Nat) : Int) = 9 from rfl] at er es
  rw [er, es]
  have := List.all_eq_true.1 (List.all_eq_true.1 fin3 r (List.mem_range.2 hr)) s (List.mem_range.2 hs)
  rw [h9, decide_eq_false (by omega), decide_eq_false (by omega)] at this
  simpa using this
theorem high2 {a b : Int} (ha : a % 4 ≠ 0) (hb : b % 4 ≠ 0) (h : anyHit a b 2 32 = true) : symV a b 2 = 1 := by
  have h9 := anyHit_down (m := 16) (by decide) (by decide) (by decide) h
  rw [anyHit_mod] at h9
  rw [symV_congr (cls2_16 ha) (cls2_16 hb)]
  obtain ⟨r, hr, er⟩ := rest_nat a (show 0 < 16 by decide)
  obtain ⟨s, hs, es⟩ := rest_nat b (show 0 < 16 by decide)
  rw [er, es] at h9
  rw [show ((16 : Nat) : Int) = 16 from rfl] at er es
  rw [er, es]
  have := List.all_eq_true.1 (List.all_eq_true.1 fin2 r (List.mem_range.2 hr)) s (List.mem_range.2 hs)
  obtain ⟨x, y, z, hx, hy, hz, hh⟩ := anyHit_iff.1 h9
  rw [hit16 hx hy hz hh, decide_eq_false (by omega), decide_eq_false (by omega)] at this
  simpa using this

theorem few_any {a b : Int} {P m : Nat} {X Y : List Nat} (hX : X.all (fun x => decide (x < m)) = true) (hY : Y.all (fun x => decide (x < m)) = true) (h : few a b P m X Y = true) : anyHit a b P m = true := by
  obtain ⟨x, hx, h1⟩ := List.any_eq_true.1 h
  obtain ⟨y, hy, h2⟩ := List.any_eq_true.1 h1
  obtain ⟨z, hz, h3⟩ := List.any_eq_true.1 h2
  exact anyHit_yes (of_decide_eq_true (List.all_eq_true.1 hX x hx)) (of_decide_eq_true (List.all_eq_true.1 hY y hy)) (List.mem_range.1 hz) h3
theorem back3 {a b : Int} (h : symV a b 3 = 1) : anyHit a b 3 27 = true := by
  by_cases ha : a % 27 = 0
  · refine anyHit_yes (x := 1) (y := 0) (z := 0) (by decide) (by decide) (by decide) ?_
    unfold hitB
    simp
    omega
  · by_cases hb : b % 27 = 0
    · refine anyHit_yes (x := 0) (y := 1) (z := 0) (by decide) (by decide) (by decide) ?_
      unfold hitB
      simp
      omega
    · rw [symV_congr (cls3_27 ha) (cls3_27 hb)] at h
      rw [anyHit_mod]
      obtain ⟨r, hr, er⟩ := rest_nat a (show 0 < 27 by decide)
      obtain ⟨s, hs, es⟩ := rest_nat b (show 0 < 27 by decide)
      rw [er, es]
      rw [show ((27 : Nat) : Int) = 27 from rfl] at er es
      rw [er, es] at h
      have := List.all_eq_true.1 (List.all_eq_true.1 back3_all r (List.mem_range.2 hr)) s (List.mem_range.2 hs)
      rw [decide_eq_true h, decide_eq_false (by omega), decide_eq_false (by omega)] at this
      exact few_any (X := [0, 1, 3, 9]) (Y := [0, 1, 2, 3, 9]) (by decide) (by decide) (by simpa using this)
theorem back2 {a b : Int} (h : symV a b 2 = 1) : anyHit a b 2 8 = true := by
  by_cases ha : a % 8 = 0
  · refine anyHit_yes (x := 1) (y := 0) (z := 0) (by decide) (by decide) (by decide) ?_
    unfold hitB
    simp
    omega
  · by_cases hb : b % 8 = 0
    · refine anyHit_yes (x := 0) (y := 1) (z := 0) (by decide) (by decide) (by decide) ?_
      unfold hitB
      simp
      omega
    · rw [symV_congr (cls2_32 ha) (cls2_32 hb)] at h
      obtain ⟨r, hr, er⟩ := rest_nat a (show 0 < 32 by decide)
      obtain ⟨s, hs, es⟩ := rest_nat b (show 0 < 32 by decide)
      rw [show ((32 : Nat) : Int) = 32 from rfl] at er es
      rw [er, es] at h
      have := List.all_eq_true.1 (List.all_eq_true.1 back2_all r (List.mem_range.2 hr)) s (List.mem_range.2 hs)
      rw [decide_eq_true h, decide_eq_false (by omega), decide_eq_false (by omega)] at this
      have h2 := few_any (by decide) (by decide) (show few (r : Int) (s : Int) 2 8 [0, 1, 2] [0, 1, 2] = true by simpa using this)
      rw [anyHit_mod, show ((8 : Nat) : Int) = 8 from rfl] at h2
      rw [anyHit_mod, show ((8 : Nat) : Int) = 8 from rfl, show a % 8 = (r : Int) % 8 by omega, show b % 8 = (s : Int) % 8 by omega]
      exact h2

theorem rootSq {n : Int} (h0 : n ≠ 0) (h : rootN n.natAbs = 1) : n % 4 ≠ 0 ∧ n % 9 ≠ 0 := by
  have := rootSqN (show n.natAbs ≠ 0 by omega) h
  omega

/-- what SymbolModulo answers, one power below -/
theorem smod_down {a b p k : Int} (h : smodV a b p k = true) : k = 1 ∨ smodV a b p (k - 1) = true := by
  unfold smodV at h ⊢
  rw [Bool.and_eq_true, Bool.and_eq_true, decide_eq_true_eq] at h
  obtain ⟨h1, h2, h3⟩ := h
  unfold modOk at h1 ⊢
  rw [Bool.and_eq_true, Bool.and_eq_true, Bool.and_eq_true] at h1
  obtain ⟨O, hp, h31, hk⟩ := h1
  have hpb := primeI_bd hp
  unfold inR at hk ⊢
  rw [Bool.and_eq_true, decide_eq_true_eq, decide_eq_true_eq] at hk
  by_cases hk1 : k = 1
  · exact .inl hk1
  · right
    obtain ⟨K, rfl⟩ : ∃ K : Nat, k = (K : Int) + 2 := ⟨(k - 2).toNat, by omega⟩
    obtain ⟨P, rfl⟩ := Int.eq_ofNat_of_zero_le (show 0 ≤ p by omega)
    rw [show ((K : Int) + 2).toNat = K + 2 by omega, Int.toNat_natCast] at h2 h3
    rw [show ((K : Int) + 2 - 1).toNat = K + 1 by omega, Int.toNat_natCast, O, hp, h31]
    have hle : P ^ (K + 1) ≤ P ^ (K + 2) := Nat.pow_le_pow_right (by omega) (by omega)
    rw [decide_eq_true (show 1 ≤ (K : Int) + 2 - 1 by omega), decide_eq_true (show (K : Int) + 2 - 1 ≤ 5 by omega), decide_eq_true (show P ^ (K + 1) ≤ 32 by omega)]
    simp only [Bool.true_and]
    exact anyHit_down (Nat.pow_pos (by omega)) ⟨P ^ K, by rw [Nat.pow_succ, Nat.mul_comm]⟩ (Nat.pow_dvd_pow _ (by omega)) h3
theorem smod_hit {a b p k : Int} (h : smodV a b p k = true) : okAB a b = true ∧ anyHit a b p.toNat (p.toNat ^ k.toNat) = true := by
  unfold smodV modOk at h
  simp only [Bool.and_eq_true] at h
  exact ⟨h.1.1, h.2.2⟩
theorem dvd_pow_one {P k : Nat} (h : 1 ≤ k) : P ∣ P ^ k := by
  obtain ⟨j, rfl⟩ : ∃ j, k = j + 1 := ⟨k - 1, by omega⟩
  exact ⟨P ^ j, by rw [Nat.pow_succ, Nat.mul_comm]⟩
theorem smod_two {a b : Int} (O : okAB a b = true) {k : Nat} (h1 : 1 ≤ k) (h3 : k ≤ 3) (h : symV a b 2 = 1) : smodV a b 2 (k : Int) = true := by
  unfold smodV modOk
  rw [O, show primeI 2 = true by decide, decide_eq_true (show (2 : Int) ≤ 31 by decide)]
  unfold inR
  rw [decide_eq_true (show (1 : Int) ≤ (k : Int) by omega), decide_eq_true (show (k : Int) ≤ 5 by omega), Int.toNat_natCast, show (2 : Int).toNat = 2 from rfl]
  have h8 := back2 h
  have e : 2 ^ k ∣ 8 := Nat.pow_dvd_pow 2 (show k ≤ 3 by omega)
  rw [decide_eq_true (show 2 ^ k ≤ 32 from Nat.le_trans (Nat.le_of_dvd (by decide) e) (by decide))]
  simp only [Bool.true_and]
  exact anyHit_down (Nat.pow_pos (by decide)) (dvd_pow_one h1) e h8
theorem smod_three {a b : Int} (O : okAB a b = true) {k : Nat} (h1 : 1 ≤ k) (h3 : k ≤ 3) (h : symV a b 3 = 1) : smodV a b 3 (k : Int) = true := by
  unfold smodV modOk
  rw [O, show primeI 3 = true by decide, decide_eq_true (show (3 : Int) ≤ 31 by decide)]
  unfold inR
  rw [decide_eq_true (show (1 : Int) ≤ (k : Int) by omega), decide_eq_true (show (k : Int) ≤ 5 by omega), Int.toNat_natCast, show (3 : Int).toNat = 3 from rfl]
  have h8 := back3 h
  have e : 3 ^ k ∣ 27 := Nat.pow_dvd_pow 3 (show k ≤ 3 by omega)
  rw [decide_eq_true (show 3 ^ k ≤ 32 from Nat.le_trans (Nat.le_of_dvd (by decide) e) (by decide))]
  simp only [Bool.true_and]
  exact anyHit_down (Nat.pow_pos (by decide)) (dvd_pow_one h1) e h8

end Go.Proofs.Ytciajpimpjpnfac
