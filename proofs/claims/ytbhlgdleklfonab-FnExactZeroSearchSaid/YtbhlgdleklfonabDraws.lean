/-
  What the drawing functions of chapter 1 hand out.
-/
import Derived.Test.YtbhlgdleklfonabDraw
import Derived.Test.YtbhlgdleklfonabLawMath
import Derived.OpenShut
set_option linter.unusedVariables false
namespace Go.Proofs.Ytbhlgdleklfonab
open Go.RowKit

theorem lit_cell {w w2 : World} {R : Nat} {cs : Array Value} {t : TypeId} {fr : Nat × Nat} (ho : Only R (w.alloc (.cells cs t)) w2) (hR : R < w.heap.size) (i : Nat) : w2.cell? ⟨w.heap.size, i, none⟩ = cs[i]? := by
  rw [ho.cell (by simp) (by omega)]
  exact Go.cell_of_row _ _ _ _ _ _ (World.alloc_heap_new w _)

/-- the code as it comes in -/
def CodeIn (w : World) (v : Value) (n : Nat) : Prop :=
  (∃ a cap, v = .slice a 0 cap ∧ n = 0) ∨ ∃ b o cap, v = .slice (some ⟨b, o, none⟩) n cap ∧ n ≤ cap ∧ cap ≤ maxLen ∧ b < w.heap.size ∧ 0 < n ∧ ∀ i, i < n → ∃ x, w.cell? ⟨b, o + i, none⟩ = some (.int .u8 x) ∧ 0 ≤ x ∧ x ≤ 255
theorem codeIn_of {w : World} {a : Option Addr} {len cap : Nat} {zs : List Int} (h : IsRow .u8 w a len cap zs) : CodeIn w (.slice a len cap) len := by
  rcases h with ⟨rfl, rfl, rfl, rfl⟩ | ⟨x, rfl, hl, hm, hz, hcell, hwz⟩
  · exact .inl ⟨_, _, rfl, rfl⟩
  · by_cases h0 : len = 0
    · subst h0; exact .inl ⟨_, _, rfl, rfl⟩
    · obtain ⟨b, off, spot⟩ := x
      have hc := hcell 0 (by omega)
      have hspot : spot = none := by simpa [Addr.add] using World.cell?_spot hc
      subst hspot
      have hb : b < w.heap.size := by
        obtain ⟨o, ho, _⟩ := cells_of_cell hc
        exact (Array.getElem?_eq_some_iff.1 ho).1
      refine .inr ⟨b, off, cap, rfl, hl, hm, hb, by omega, fun i hi => ?_⟩
      have hz' : i < zs.length := by omega
      have hca : w.cell? ⟨b, off + i, none⟩ = some (.int .u8 (zs.getD i 0)) := by
        have h5 := hcell i hz'
        by_cases hi0 : i = 0
        · subst hi0; simpa [Addr.add] using h5
        · simpa [Addr.add, hi0] using h5
      refine ⟨zs.getD i 0, hca, ?_⟩
      have e : zs.getD i 0 = zs[i] := by simp [List.getD, List.getElem?_eq_getElem hz']
      rw [e]
      exact bounds_u8 (hwz _ (List.getElem_mem hz'))

end Go.Proofs.Ytbhlgdleklfonab
