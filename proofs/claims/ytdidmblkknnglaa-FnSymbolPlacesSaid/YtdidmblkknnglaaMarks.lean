/-
  The laws' own helpers on lists of integers: comparing, marking, looking at the marks.
-/
import Derived.Test.YtdidmblkknnglaaOwn
import Derived.BigQuiet
import Derived.Maps.AppendAt
set_option linter.unusedVariables false
namespace Go.Proofs.Ytdidmblkknnglaa
open Go.RowKit

theorem all_eq_of {xs ys : List Int} (hl : xs.length = ys.length) (h : ∀ j, j < xs.length → xs.getD j 0 = ys.getD j 0) : xs = ys := by
  refine List.ext_getElem hl fun j h1 h2 => ?_
  have := h j h1
  simpa [List.getD, List.getElem?_eq_getElem h1, List.getElem?_eq_getElem h2] using this

theorem eqs_len {a b : Int} (h : a ≠ b) : (a != b) = true := by rw [bne_iff_ne]; exact h
theorem eqs_same {a b : Int} (h : a = b) : (a != b) = false := by rw [h]; simp

/-- k, k + 1, .. -/
def marksL (k : Int) (n : Nat) : List Int := (List.range n).map (fun (i : Nat) => k + (i : Int))
theorem marksL_len (k : Int) (n : Nat) : (marksL k n).length = n := by simp [marksL]
theorem marksL_get (k : Int) (n i : Nat) (h : i < n) : (marksL k n).getD i 0 = k + i := by simp [marksL, List.getD, h]

/-- the first i numbers are marked -/
def halfL (k : Int) (i : Nat) (xs : List Int) : List Int := marksL k i ++ xs.drop i
theorem halfL_len (k : Int) (i : Nat) (xs : List Int) (h : i ≤ xs.length) : (halfL k i xs).length = xs.length := by simp [halfL, marksL_len]; omega
theorem halfL_step (k : Int) (i : Nat) (xs : List Int) (h : i < xs.length) : (halfL k i xs).set i (k + i) = halfL k (i + 1) xs := by
  unfold halfL
  rw [List.set_append_right _ _ (by simp [marksL_len]), marksL_len, Nat.sub_self, List.drop_eq_getElem_cons h, List.set_cons_zero]
  simp [marksL, List.range_succ]
theorem halfL_end (k : Int) (xs : List Int) : halfL k xs.length xs = marksL k xs.length := by simp [halfL]

end Go.Proofs.Ytdidmblkknnglaa
