/-
  A list that came in, as it is read; the form of what chapter 4's functions answer.
-/
import Derived.Test.YtenibnblibnocabToInt
import Derived.Test.YtenibnblibnocabBun45
import Derived.Test.YtenibnblibnocabBun7
set_option linter.unusedVariables false
namespace Go.Proofs.Ytenibnblibnocab
open Go.RowKit

theorem rd_row {w : World} {a : Option Addr} {len cap : Nat} {zs : List Int} (h : IsRow .i64 w a len cap zs) : ∃ xs : List Int, xs.length = len ∧ Rd w (.slice a len cap) xs := by
  rcases h with ⟨rfl, rfl, rfl, rfl⟩ | ⟨x, rfl, hl, hm, hz, hcell, hwz⟩
  · exact ⟨[], rfl, .inl ⟨_, _, rfl, rfl⟩⟩
  · refine ⟨zs.take len, by rw [List.length_take]; omega, ?_⟩
    by_cases h0 : len = 0
    · subst h0
      exact .inl ⟨_, _, rfl, by simp⟩
    · obtain ⟨b, off, spot⟩ := x
      have hspot : spot = none := by simpa [Addr.add] using World.cell?_spot (hcell 0 (by omega))
      subst hspot
      have hlen : (zs.take len).length = len := by rw [List.length_take]; omega
      refine .inr ⟨b, off, cap, by rw [hlen], by omega, by rw [hlen]; omega, fun i hi => ?_⟩
      rw [hlen] at hi
      have hc := hcell i (by omega)
      have hg : (zs.take len).getD i 0 = zs.getD i 0 := by
        rw [getD_at _ _ (by rw [hlen]; exact hi), getD_at _ _ (by omega), List.getElem_take]
      rw [hg]
      by_cases hi0 : i = 0
      · subst hi0; simpa [Addr.add] using hc
      · simpa [Addr.add, hi0] using hc
theorem fvalF (xs vs : List Int) : ∃ (x : Int) (c : Bool), fvalV xs vs = .tuple #[.int .i64 x, .bool c] := by
  unfold fvalV
  split
  · exact ⟨_, _, rfl⟩
  · exact ⟨_, _, rfl⟩
theorem signsF (xs : List Int) : ∃ (x : Int) (c : Bool), signsV xs = .tuple #[.int .i64 x, .bool c] := by
  unfold signsV
  split
  · exact ⟨_, _, rfl⟩
  · exact ⟨_, _, rfl⟩

end Go.Proofs.Ytenibnblibnocab
