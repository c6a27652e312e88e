/-
  What is drawn has no prime above 113.
-/
import Derived.Test.YtdidmblkknnglaaProd
import Derived.Test.YtdidmblkknnglaaDraws2
set_option linter.unusedVariables false
namespace Go.Proofs.Ytdidmblkknnglaa
open Go.RowKit

def drawnNums : List Nat := List.range 119 ++ [5000, 4096, 3969]
theorem drawnNums_all : drawnNums.all (fun n => decide (n = 0) || (plistG n).all (fun p => decide (p ≤ 113))) = true := by decide +kernel
theorem smooth_num {n : Int} (h : numOk n) (hO : okN n = true) (h0 : n ≠ 0) : Smooth n := by
  refine ⟨h0, fun p hp hd => ?_⟩
  have hb := okN_iff.1 hO
  have hm : n.natAbs ∈ drawnNums := by
    unfold numOk at h
    unfold drawnNums
    rw [List.mem_append]
    rcases h with ⟨h1, h2⟩ | rfl | rfl | rfl | rfl | rfl
    · left; exact List.mem_range.2 (by omega)
    · right; decide
    · omega
    · omega
    · right; decide
    · right; decide
  have := List.all_eq_true.1 drawnNums_all _ hm
  rw [decide_eq_false (by omega), Bool.false_or] at this
  exact of_decide_eq_true (List.all_eq_true.1 this p ((plistG_spec (show 0 < n.natAbs by omega)).2.2 p hp hd))
theorem smooth_par {a b : Int} (ha : Smooth a) (h : parOk a b) (hO : okN b = true) (h0 : b ≠ 0) : Smooth b := by
  rcases h with h | ⟨x, x1, x8, rfl⟩
  · exact smooth_num h hO h0
  · refine ⟨h0, fun p hp hd => ?_⟩
    rw [Int.natAbs_mul, Int.natAbs_mul] at hd
    have hx : p ∣ x.natAbs → p ≤ 113 := fun h => by have := Nat.le_of_dvd (by omega) h; omega
    rcases prG_mul hp hd with hd | hd
    · rcases prG_mul hp hd with hd | hd
      · exact ha.2 p hp hd
      · exact hx hd
    · exact hx hd
theorem okAB_split {a b : Int} (h : okAB a b = true) : okN a = true ∧ a ≠ 0 ∧ okN b = true ∧ b ≠ 0 := by
  rcases okAB_cases a b with ⟨a1, a2, a0, b1, b2, b0, _⟩ | hO
  · exact ⟨okN_iff.2 ⟨a1, a2⟩, a0, okN_iff.2 ⟨b1, b2⟩, b0⟩
  · rw [h] at hO; cases hO
/-- of two drawn numbers the symbols are -1 at an even number of places -/
theorem even_drawn {a b : Int} (ha : numOk a) (hb : parOk a b) (O : okAB a b = true) : halfI ((splL a b).length : Nat) = 1 := by
  obtain ⟨h1, h2, h3, h4⟩ := okAB_split O
  have sa := smooth_num ha h1 h2
  exact product_formula sa (smooth_par sa hb h3 h4) O
theorem sgn_drawn {a b : Int} (ha : numOk a) (hb : parOk a b) : sgnV a b = if okAB a b then 1 else 0 := by
  unfold sgnV
  cases O : okAB a b with
  | true => exact even_drawn ha hb O
  | false => rfl

end Go.Proofs.Ytdidmblkknnglaa
