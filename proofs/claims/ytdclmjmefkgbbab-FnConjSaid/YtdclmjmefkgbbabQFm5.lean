/-
  Contracts of the model's chapter 4: equal forms; joined forms; multiplied forms and cores.
-/
import Derived.Test.YtdclmjmefkgbbabQFm4
import Derived.Laws.AppendOwnNone
set_option linter.unusedVariables false
namespace Go.Proofs.Ytdclmjmefkgbbab
open Go.RowKit

theorem prod_join {xs ys : List Int} (hf : fvB xs = true) (hg : fvB ys = true) : prodI xs * prodI ys ≠ 0 ∧ -656100000000 ≤ prodI xs * prodI ys ∧ prodI xs * prodI ys ≤ 656100000000 ∧ (∀ q ∈ placesG (prodI xs * prodI ys), plI q = true) := by
  have hp := prod_full hf
  have hr := prod_full hg
  have hn := Int.mul_ne_zero hp.1 hr.1
  have hm : (prodI xs * prodI ys).natAbs ≤ 810000 * 810000 := by rw [Int.natAbs_mul]; exact Nat.mul_le_mul (by omega) (by omega)
  refine ⟨hn, by omega, by omega, ?_⟩
  rw [← prodI_app]
  refine places_small (fun x hx => ?_) (by rw [prodI_app]; exact hn)
  rcases List.mem_append.1 hx with h | h
  · exact (fvB_iff.1 hf).1 x h
  · exact (fvB_iff.1 hg).1 x h


theorem map_take {xs : List Int} {f : Int → Int} {i : Nat} (hi : i < xs.length) : (xs.take (i + 1)).map f = (xs.take i).map f ++ [f (xs.getD i 0)] := by
  rw [take_snoc _ _ hi, List.map_append, getD_at _ _ hi]; rfl




end Go.Proofs.Ytdclmjmefkgbbab
