/-
  Plain arithmetic behind the laws of chapter 3.
-/
import Derived.Test.YtdidmblkknnglaaSym5
import Derived.Test.YtdidmblkknnglaaLawCls
set_option linter.unusedVariables false
namespace Go.Proofs.Ytdidmblkknnglaa
open Go.RowKit

theorem symOf_yes {a b q : Int} (h : okAB a b = true) (hq : plI q = true) : symOfV a b q = symV a b q := by unfold symOfV; rw [h, hq]; rfl
theorem okAB_of {a b q : Int} (h1 : okAt a q = true) (h2 : okAt b q = true) : okAB a b = true := by
  unfold okAt at h1 h2
  unfold okAB
  rw [Bool.and_eq_true] at h1 h2
  rw [h1.1, h2.1]; rfl
theorem okAt_minus {a q : Int} (h : okAt a q = true) : okAt (0 - a) q = true := by
  obtain ⟨h1, h2, h0, hq⟩ := okAt_split h
  exact okAt_yes (by omega) (by omega) (by omega) hq
theorem symbol_split (a b q : Int) : symOfV a b q = 0 ∨ (okAt a q = true ∧ okAt b q = true ∧ symOfV a b q = symV a b q ∧ (symV a b q = 1 ∨ symV a b q = -1)) := by
  unfold symOfV
  by_cases h : (okAB a b && plI q) = true
  · rw [if_pos h]
    rw [Bool.and_eq_true] at h
    rcases okAB_cases a b with ⟨a1, a2, a0, b1, b2, b0, _⟩ | hO
    · exact .inr ⟨okAt_yes a1 a2 a0 h.2, okAt_yes b1 b2 b0 h.2, rfl, symV_val a0 b0 h.2⟩
    · rw [h.1] at hO; cases hO
  · rw [if_neg h]; exact .inl rfl

end Go.Proofs.Ytdidmblkknnglaa
