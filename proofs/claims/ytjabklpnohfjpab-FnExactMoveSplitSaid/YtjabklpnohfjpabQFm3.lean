/-
  Contracts of the model's chapter 4: forms at a place; forms that are alike.
-/
import Derived.Test.YtjabklpnohfjpabQFm2
set_option linter.unusedVariables false
namespace Go.Proofs.Ytjabklpnohfjpab
open Go.RowKit

theorem Rd.drewN {w : World} {v : Value} {xs : List Int} (h : Rd w v xs) (k : Nat) : Rd (w.drewN k) v xs := h
theorem Rd.keep {w w' : World} {v : Value} {xs : List Int} (h : Rd w v xs) (hb : Below w.heap.size w w') : Rd w' v xs := by
  rcases h with h | ⟨b, o, cap, hv, h0, hm, hc⟩
  · exact .inl h
  · refine .inr ⟨b, o, cap, hv, h0, hm, fun i hi => ?_⟩
    have hci := hc i hi
    obtain ⟨ob, ho, _⟩ := cells_of_cell hci
    have hlt : b < w.heap.size := (Array.getElem?_eq_some_iff.1 ho).1
    rw [hb.cell (p := ⟨b, o + i, none⟩) hlt]
    exact hci
theorem neg_bd {n : Int} (h : -810000 ≤ n ∧ n ≤ 810000) : -810000 ≤ -n ∧ -n ≤ 810000 := by omega





end Go.Proofs.Ytjabklpnohfjpab
