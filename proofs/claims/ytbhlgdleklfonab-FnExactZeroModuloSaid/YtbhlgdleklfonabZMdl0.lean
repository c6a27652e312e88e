/-
  Zeros up to powers of a prime: the program's test of a power, and the model's.
-/
import Derived.Test.YtbhlgdleklfonabPow32
import Derived.Test.YtbhlgdleklfonabBun33
import Derived.Test.YtbhlgdleklfonabVals5b
set_option linter.unusedVariables false
namespace Go.Proofs.Ytbhlgdleklfonab
open Go.RowKit

theorem zmod_pw {xs : List Int} {P : Nat} {k : Int} (hf : fvB xs = true) (hl : xs.length ≤ 3) (hP : primeN P = true) : zmodV xs (P : Int) k = (pw32 P k && (vecsL 0 (P ^ k.toNat) xs.length).any (modHit xs P (P ^ k.toNat))) := by
  have hp := primeN_bd hP
  have hm : zmodOk xs (P : Int) k = (decide (P ≤ 31) && inR k 1 5) := by
    unfold zmodOk
    rw [hf, decide_eq_true hl, show primeI (P : Int) = true from hP, Bool.true_and, Bool.true_and, Bool.true_and]
    congr 1
    rw [Bool.eq_iff_iff, decide_eq_true_eq, decide_eq_true_eq]
    omega
  unfold zmodV
  rw [hm, Int.toNat_natCast, mod_vecs xs P _ _ (Nat.pow_pos (by omega))]
  cases h : pw32 P k with
  | true =>
    unfold pw32 at h
    rw [Bool.and_eq_true, decide_eq_true_eq, decide_eq_true_eq] at h
    obtain ⟨h1, h2⟩ := h
    have h3 : P ^ 1 ≤ P ^ k.toNat := Nat.pow_le_pow_right (by omega) (by omega)
    rw [Nat.pow_one] at h3
    have h4 : P ≠ 32 := by rintro rfl; revert hP; decide
    have h5 : k ≤ 5 := by
      refine Classical.byContradiction fun hc => ?_
      have g1 : 2 ^ 6 ≤ P ^ 6 := Nat.pow_le_pow_left hp.1 6
      have g2 : P ^ 6 ≤ P ^ k.toNat := Nat.pow_le_pow_right (by omega) (by omega)
      omega
    rw [decide_eq_true (show P ≤ 31 by omega), show inR k 1 5 = true from by unfold inR; rw [decide_eq_true h1, decide_eq_true h5]; rfl, decide_eq_true h2]
    rfl
  | false =>
    rw [Bool.false_and]
    unfold pw32 at h
    by_cases h1 : 1 ≤ k
    · rw [decide_eq_true h1, Bool.true_and] at h
      rw [h, Bool.false_and, Bool.and_false]
    · have : inR k 1 5 = false := by unfold inR; rw [decide_eq_false h1, Bool.false_and]
      rw [this, Bool.and_false, Bool.false_and]
theorem zmod_no {xs : List Int} {p k : Int} (h : zmodOk xs p k = false) : zmodV xs p k = false := by unfold zmodV; rw [h, Bool.false_and]



end Go.Proofs.Ytbhlgdleklfonab
