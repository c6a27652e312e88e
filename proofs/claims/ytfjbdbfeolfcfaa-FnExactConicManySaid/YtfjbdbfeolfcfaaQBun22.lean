/-
  Some texts in one file: ImpB ImpC ImpD.
-/
import Derived.Test.YtfjbdbfeolfcfaaQBun18
import Derived.Maps.OwnOps
import Derived.Maps.Views
import Derived.DeepKeys4
/-! ImpB -/
set_option linter.unusedVariables false
namespace Go.Proofs.Ytfjbdbfeolfcfaa
open Go.RowKit

theorem wf_small {u : Int} (h1 : -5000 ≤ u) (h2 : u ≤ 1000000000) : (Lit.int .i64 u).wf = true := by simp [Lit.wf, IntKind.min, IntKind.max, IntKind.signed, IntKind.bits]; omega

theorem cls_small {n q : Int} (hn : n ≠ 0) (hq : plI q = true) : (cls n q).1 < 2 ∧ -1 ≤ (cls n q).2 ∧ (cls n q).2 ≤ 7 := by
  have hm := cls_mem hn hq
  unfold clsList at hm
  split at hm
  · simp only [List.mem_cons, List.not_mem_nil, or_false] at hm
    rcases hm with h | h <;> rw [h] <;> decide
  · split at hm
    · simp only [List.mem_cons, List.not_mem_nil, or_false] at hm
      rcases hm with h | h | h | h | h | h | h | h <;> rw [h] <;> decide
    · simp only [List.mem_cons, List.not_mem_nil, or_false] at hm
      rcases hm with h | h | h | h <;> rw [h] <;> decide

theorem cls_one {q : Int} (hq : plI q = true) : cls 1 q = (0, 1) := by
  rcases plI_cases hq with rfl | rfl | ⟨P, rfl, hP, h3, h5⟩
  · rfl
  · rfl
  · have h := names_cls hq
    rw [names_odd h3] at h
    have e : clsList (P : Int) = [(0, 1), (0, -1), (1, 1), (1, -1)] := by unfold clsList; rw [if_neg (by omega), if_neg (by omega)]
    rw [e] at h
    simp only [List.map_cons, List.cons.injEq] at h
    exact h.1

end Go.Proofs.Ytfjbdbfeolfcfaa

/-! ImpC -/
set_option linter.unusedVariables false
namespace Go.Proofs.Ytfjbdbfeolfcfaa
open Go.RowKit

theorem Owns.low {W : World} {B C : Nat} {v : Value} {xs : List Int} (h : Owns W C v xs) (hb : B ≤ C) : Owns W B v xs := by
  obtain ⟨h1, h2⟩ := h
  refine ⟨h1, ?_⟩
  rcases h2 with h2 | ⟨g, cap, cur, hv, hg, r⟩
  · exact .inl h2
  · exact .inr ⟨g, cap, cur, hv, Nat.le_trans hb hg, r⟩
theorem factB_bd {n : Int} (h : factB n = true) : n ≠ 0 ∧ -5000 ≤ n ∧ n ≤ 5000 := by
  rcases factB_cases n with ⟨h1, h2, h0, _, _⟩ | ⟨_, e⟩ | ⟨_, _, e⟩
  · exact ⟨h0, h1, h2⟩
  · rw [h] at e; cases e
  · rw [h] at e; cases e

end Go.Proofs.Ytfjbdbfeolfcfaa

/-! ImpD -/
set_option linter.unusedVariables false
namespace Go.Proofs.Ytfjbdbfeolfcfaa
open Go.RowKit Go.Shelf
attribute [local go_sem] Oper.semAt_some

def plcs (l : List Nat) : List Int := [0, 2] ++ (natsI l).filter (fun x => decide (2 < x))
theorem plcs_yes {l : List Nat} {x : Nat} (h : 2 < x) : plcs (l ++ [x]) = plcs l ++ [(x : Int)] := by
  unfold plcs
  rw [natsI_snoc, List.filter_append, List.filter_cons, if_pos (by rw [decide_eq_true_eq]; omega), List.append_assoc]
  rfl
theorem plcs_no {l : List Nat} {x : Nat} (h : ¬ 2 < x) : plcs (l ++ [x]) = plcs l := by
  unfold plcs
  rw [natsI_snoc, List.filter_append, List.filter_cons, if_neg (by rw [decide_eq_true_eq]; omega), List.filter_nil, List.append_nil]
theorem plcs_len (l : List Nat) : (plcs l).length ≤ l.length + 2 := by
  unfold plcs
  have h3 := List.length_filter_le (fun x : Int => decide (2 < x)) (natsI l)
  rw [natsI_len] at h3
  rw [List.length_append]
  simp only [List.length_cons, List.length_nil]
  omega
theorem fsts_len (l : List PP) : (fsts l).length = l.length := by unfold fsts; rw [List.length_map]

end Go.Proofs.Ytfjbdbfeolfcfaa
