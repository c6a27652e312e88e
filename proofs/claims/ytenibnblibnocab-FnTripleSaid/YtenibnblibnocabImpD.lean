/-
  Contracts of the program's chapter 2: lists of places.
-/
import Derived.Test.YtenibnblibnocabImpC
set_option linter.unusedVariables false
namespace Go.Proofs.Ytenibnblibnocab
open Go.RowKit Go.Shelf
attribute [local go_sem] Oper.semAt_some

def plcs (l : List Nat) : List Int := [0, 2] ++ (natsI l).filter (fun x => decide (2 < x))
theorem plcs_yes {l : List Nat} {x : Nat} (h : 2 < x) : plcs (l ++ [x]) = plcs l ++ [(x : Int)] := by
  unfold plcs
  rw [natsI_snoc, List.filter_append, List.filter_cons, if_pos (by rw [decide_eq_true_eq]; omega), List.append_assoc]
  rfl
theorem plcs_no {l : List Nat} {x : Nat} (h : ¬ 2 < x) : plcs (l ++ [x]) = plcs l := by
  unfold plcs
  rw [natsI_snoc, List.filter_append, List.filter_cons, if_neg (by rw [decide_eq_true_eq]; omega), List.filter_nil, List.append_nil]
theorem plcs_len (l : List Nat) : (plcs l).length ≤ l.length + 2 := by
  unfold plcs
  have h3 := List.length_filter_le (fun x : Int => decide (2 < x)) (natsI l)
  rw [natsI_len] at h3
  rw [List.length_append]
  simp only [List.length_cons, List.length_nil]
  omega
theorem fsts_len (l : List PP) : (fsts l).length = l.length := by unfold fsts; rw [List.length_map]

end Go.Proofs.Ytenibnblibnocab
