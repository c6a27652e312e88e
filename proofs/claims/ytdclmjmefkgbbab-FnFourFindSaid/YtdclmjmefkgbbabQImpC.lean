/-
  Contracts of the program's chapter 2: the document's functions over classes and names.
-/
import Derived.Test.YtdclmjmefkgbbabQImpB
set_option linter.unusedVariables false
namespace Go.Proofs.Ytdclmjmefkgbbab
open Go.RowKit

theorem Owns.low {W : World} {B C : Nat} {v : Value} {xs : List Int} (h : Owns W C v xs) (hb : B ≤ C) : Owns W B v xs := by
  obtain ⟨h1, h2⟩ := h
  refine ⟨h1, ?_⟩
  rcases h2 with h2 | ⟨g, cap, cur, hv, hg, r⟩
  · exact .inl h2
  · exact .inr ⟨g, cap, cur, hv, Nat.le_trans hb hg, r⟩
theorem factB_bd {n : Int} (h : factB n = true) : n ≠ 0 ∧ -5000 ≤ n ∧ n ≤ 5000 := by
  rcases factB_cases n with ⟨h1, h2, h0, _, _⟩ | ⟨_, e⟩ | ⟨_, _, e⟩
  · exact ⟨h0, h1, h2⟩
  · rw [h] at e; cases e
  · rw [h] at e; cases e

end Go.Proofs.Ytdclmjmefkgbbab
