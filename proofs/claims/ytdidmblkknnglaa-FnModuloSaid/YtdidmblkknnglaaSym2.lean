/-
  Plain arithmetic of chapter 3: symbols of classes, by the four kinds of places.
-/
import Derived.Test.YtdidmblkknnglaaSym
set_option linter.unusedVariables false
namespace Go.Proofs.Ytdidmblkknnglaa
open Go.RowKit

/-- the kind of a place: the real one, 2, a prime 1 more than a multiple of 4, another odd prime -/
def kOf (q : Int) : Nat := if q = 0 then 0 else if q = 2 then 1 else if (q - 1) / 2 % 2 = 0 then 2 else 3
def listK (k : Nat) : List (Nat × Int) := if k = 0 then [(0, 1), (0, -1)] else if k = 1 then [(0, 1), (0, 3), (0, 5), (0, 7), (1, 1), (1, 3), (1, 5), (1, 7)] else [(0, 1), (0, -1), (1, 1), (1, -1)]
def combK (k : Nat) (a b : Nat × Int) : Nat × Int := ((a.1 + b.1) % 2, if k = 1 then a.2 * b.2 % 8 else a.2 * b.2)
def symK (k : Nat) (c d : Nat × Int) : Int :=
  if k = 0 then (if c.2 = -1 ∧ d.2 = -1 then -1 else 1)
  else if k = 1 then halfI ((c.2 - 1) / 2 * ((d.2 - 1) / 2) + (c.1 : Int) * ((d.2 * d.2 - 1) / 8) + (d.1 : Int) * ((c.2 * c.2 - 1) / 8))
  else halfI ((c.1 : Int) * (d.1 : Int) * ((k : Int) - 2)) * (if d.1 = 1 then c.2 else 1) * (if c.1 = 1 then d.2 else 1)
def minusK (k : Nat) : Nat × Int := if k = 1 then (0, 7) else if k = 2 then (0, 1) else (0, -1)
theorem kOf_lt (q : Int) : kOf q < 4 := by unfold kOf; split; (· decide); (· split; (· decide); (· split <;> decide))
theorem kOf_zero (q : Int) : kOf q = 0 ↔ q = 0 := by
  unfold kOf; split
  · simp [*]
  · split
    · simp [*]
    · split <;> simp [*]
theorem kOf_one (q : Int) : kOf q = 1 ↔ q = 2 := by
  unfold kOf; split
  · constructor
    · intro h; cases h
    · intro h; omega
  · split
    · simp [*]
    · split <;> simp [*]
theorem clsList_k (q : Int) : clsList q = listK (kOf q) := by
  unfold clsList listK
  by_cases h0 : q = 0
  · rw [if_pos h0, if_pos ((kOf_zero q).2 h0)]
  · rw [if_neg h0, if_neg (fun h => h0 ((kOf_zero q).1 h))]
    by_cases h2 : q = 2
    · rw [if_pos h2, if_pos ((kOf_one q).2 h2)]
    · rw [if_neg h2, if_neg (fun h => h2 ((kOf_one q).1 h))]
theorem comb_k (q : Int) : comb q = combK (kOf q) := by
  funext a b
  unfold comb combK
  by_cases h2 : q = 2
  · rw [if_pos h2, if_pos ((kOf_one q).2 h2)]
  · rw [if_neg h2, if_neg (fun h => h2 ((kOf_one q).1 h))]
theorem sym_k (q : Int) (c d : Nat × Int) : symC q c d = symK (kOf q) c d := by
  unfold symC symK
  by_cases h0 : q = 0
  · rw [if_pos h0, if_pos ((kOf_zero q).2 h0)]
  · rw [if_neg h0, if_neg (fun h => h0 ((kOf_zero q).1 h))]
    by_cases h2 : q = 2
    · rw [if_pos h2, if_pos ((kOf_one q).2 h2)]
    · rw [if_neg h2, if_neg (fun h => h2 ((kOf_one q).1 h))]
      congr 2
      refine halfI_congr ?_
      rw [Int.mul_emod, Int.mul_emod _ ((kOf q : Int) - 2)]
      congr 2
      unfold kOf
      rw [if_neg h0, if_neg h2]
      split
      · next h => rw [h]; rfl
      · next h => rw [show (q - 1) / 2 % 2 = 1 by omega]; rfl

theorem K_all {Q : Nat → (Nat × Int) → (Nat × Int) → (Nat × Int) → Bool} (h : (List.range 4).all (fun k => (listK k).all (fun c => (listK k).all (fun d => (listK k).all (fun e => Q k c d e)))) = true)
    {q : Int} {c d e : Nat × Int} (hc : c ∈ clsList q) (hd : d ∈ clsList q) (he : e ∈ clsList q) : Q (kOf q) c d e = true := by
  rw [clsList_k] at hc hd he
  have h1 := List.all_eq_true.1 h (kOf q) (List.mem_range.2 (kOf_lt q))
  exact List.all_eq_true.1 (List.all_eq_true.1 (List.all_eq_true.1 h1 c hc) d hd) e he

theorem sym_val {q : Int} {c d : Nat × Int} (hc : c ∈ clsList q) (hd : d ∈ clsList q) : symC q c d = 1 ∨ symC q c d = -1 := by
  rw [sym_k]
  have := K_all (Q := fun k c d _ => symK k c d == 1 || symK k c d == -1) (by decide +kernel) hc hd hd
  rw [Bool.or_eq_true, beq_iff_eq, beq_iff_eq] at this
  exact this
theorem sym_comm {q : Int} {c d : Nat × Int} (hc : c ∈ clsList q) (hd : d ∈ clsList q) : symC q c d = symC q d c := by
  rw [sym_k, sym_k]
  have := K_all (Q := fun k c d _ => symK k c d == symK k d c) (by decide +kernel) hc hd hd
  exact beq_iff_eq.1 this
theorem sym_mul {q : Int} {c d e : Nat × Int} (hc : c ∈ clsList q) (hd : d ∈ clsList q) (he : e ∈ clsList q) : symC q c (comb q d e) = symC q c d * symC q c e := by
  rw [sym_k, sym_k, sym_k, comb_k]
  have := K_all (Q := fun k c d e => symK k c (combK k d e) == symK k c d * symK k c e) (by decide +kernel) hc hd he
  exact beq_iff_eq.1 this
theorem sym_one {q : Int} {c : Nat × Int} (hc : c ∈ clsList q) : symC q c (0, 1) = 1 := by
  rw [sym_k]
  have := K_all (Q := fun k c _ _ => symK k c (0, 1) == 1) (by decide +kernel) hc hc hc
  exact beq_iff_eq.1 this
theorem sym_minus {q : Int} {c : Nat × Int} (hc : c ∈ clsList q) : symC q c (comb q (minusK (kOf q)) c) = 1 := by
  rw [sym_k, comb_k]
  have := K_all (Q := fun k c _ _ => symK k c (combK k (minusK k) c) == 1) (by decide +kernel) hc hc hc
  exact beq_iff_eq.1 this

theorem pwm {P : Nat} (h : 2 ≤ P) : ∀ k, pw (P - 1) k P = if k % 2 = 0 then 1 else P - 1
  | 0 => by unfold pw; rw [Nat.pow_zero, Nat.mod_eq_of_lt (by omega)]; rfl
  | k + 1 => by
    rw [pw_succ, pwm h k]
    by_cases e : k % 2 = 0
    · rw [if_pos e, if_neg (by omega), Nat.one_mul, Nat.mod_eq_of_lt (by omega)]
    · rw [if_neg e, if_pos (by omega)]
      obtain ⟨q, rfl⟩ : ∃ q, P = q + 2 := ⟨P - 2, by omega⟩
      have e2 : (q + 2 - 1) * (q + 2 - 1) = 1 + (q + 2) * q := by
        rw [show q + 2 - 1 = q + 1 by omega]
        simp only [Nat.add_mul, Nat.mul_add]
        omega
      rw [e2, Nat.add_mul_mod_self_left, Nat.mod_eq_of_lt (show 1 < q + 2 by omega)]
theorem cls_minus {q : Int} (hq : plI q = true) : cls (-1) q = minusK (kOf q) := by
  rcases plI_cases hq with rfl | rfl | ⟨P, rfl, hP, h3, h5⟩
  · rfl
  · decide
  · have hd : ¬ P ∣ (-1 : Int).natAbs := by
      intro hd
      have := Nat.le_of_dvd (by decide) hd
      have : (-1 : Int).natAbs = 1 := rfl
      omega
    have hodd : P % 2 = 1 := by
      have := primeN_no hP (Nat.le_refl 2)
      by_cases h : P % 2 = 0
      · exact absurd h (this (by omega))
      · omega
    obtain ⟨a, b⟩ := unit_self hP hd (by decide)
    rw [cls_odd h3, a, b]
    have em : ((-1 : Int) % (P : Int)).toNat = P - 1 := by
      have : (-1 : Int) % (P : Int) = (P : Int) - 1 := by
        rw [← Int.add_emod_right (-1) (P : Int), Int.emod_eq_of_lt (by omega) (by omega)]; omega
      rw [this]; omega
    rw [em]
    by_cases h4 : (P - 1) / 2 % 2 = 0
    · have hk : kOf (P : Int) = 2 := by unfold kOf; rw [if_neg (by omega), if_neg (by omega), if_pos (by omega)]
      rw [hk]
      unfold resN
      rw [pwm (by omega), if_pos h4, if_neg (by omega)]
      rfl
    · have hk : kOf (P : Int) = 3 := by unfold kOf; rw [if_neg (by omega), if_neg (by omega), if_neg (by omega)]
      rw [hk]
      unfold resN
      rw [pwm (by omega), if_neg h4, if_pos rfl]
      rfl
theorem minus_mem {q : Int} (hq : plI q = true) : minusK (kOf q) ∈ clsList q := by rw [← cls_minus hq]; exact cls_mem (by decide) hq

/-- numbers -/
theorem symV_val {a b q : Int} (ha : a ≠ 0) (hb : b ≠ 0) (hq : plI q = true) : symV a b q = 1 ∨ symV a b q = -1 := sym_val (cls_mem ha hq) (cls_mem hb hq)
theorem symV_comm {a b q : Int} (ha : a ≠ 0) (hb : b ≠ 0) (hq : plI q = true) : symV a b q = symV b a q := sym_comm (cls_mem ha hq) (cls_mem hb hq)
theorem symV_mul {a b c q : Int} (ha : a ≠ 0) (hb : b ≠ 0) (hc : c ≠ 0) (hq : plI q = true) : symV a (b * c) q = symV a b q * symV a c q := by
  unfold symV
  rw [cls_mul hb hc hq]
  exact sym_mul (cls_mem ha hq) (cls_mem hb hq) (cls_mem hc hq)
theorem symV_minus {a q : Int} (ha : a ≠ 0) (hq : plI q = true) : symV a (-a) q = 1 := by
  unfold symV
  rw [show -a = -1 * a by omega, cls_mul (by decide) ha hq, cls_minus hq]
  exact sym_minus (cls_mem ha hq)
theorem symV_congr {a b c d q : Int} (h1 : cls a q = cls c q) (h2 : cls b q = cls d q) : symV a b q = symV c d q := by unfold symV; rw [h1, h2]
theorem symV_sq {a b q : Int} (ha : a ≠ 0) (hq : plI q = true) (h : sqAt b q = true) : symV a b q = 1 := by
  unfold symV sqAt at *
  rw [beq_iff_eq] at h
  rw [h]
  exact sym_one (cls_mem ha hq)

end Go.Proofs.Ytdidmblkknnglaa
