/-
  Contracts of the program's chapter 2: places, local squares, names (a map from classes to names).
-/
import Derived.Test.YtenibnblibnocabImpA
import Derived.Maps.OwnOps
import Derived.Maps.Views
import Derived.DeepKeys4
set_option linter.unusedVariables false
namespace Go.Proofs.Ytenibnblibnocab
open Go.RowKit

theorem wf_small {u : Int} (h1 : -5000 ≤ u) (h2 : u ≤ 1000000000) : (Lit.int .i64 u).wf = true := by simp [Lit.wf, IntKind.min, IntKind.max, IntKind.signed, IntKind.bits]; omega

theorem cls_small {n q : Int} (hn : n ≠ 0) (hq : plI q = true) : (cls n q).1 < 2 ∧ -1 ≤ (cls n q).2 ∧ (cls n q).2 ≤ 7 := by
  have hm := cls_mem hn hq
  unfold clsList at hm
  split at hm
  · simp only [List.mem_cons, List.not_mem_nil, or_false] at hm
    rcases hm with h | h <;> rw [h] <;> decide
  · split at hm
    · simp only [List.mem_cons, List.not_mem_nil, or_false] at hm
      rcases hm with h | h | h | h | h | h | h | h <;> rw [h] <;> decide
    · simp only [List.mem_cons, List.not_mem_nil, or_false] at hm
      rcases hm with h | h | h | h <;> rw [h] <;> decide

theorem cls_one {q : Int} (hq : plI q = true) : cls 1 q = (0, 1) := by
  rcases plI_cases hq with rfl | rfl | ⟨P, rfl, hP, h3, h5⟩
  · rfl
  · rfl
  · have h := names_cls hq
    rw [names_odd h3] at h
    have e : clsList (P : Int) = [(0, 1), (0, -1), (1, 1), (1, -1)] := by unfold clsList; rw [if_neg (by omega), if_neg (by omega)]
    rw [e] at h
    simp only [List.map_cons, List.cons.injEq] at h
    exact h.1

end Go.Proofs.Ytenibnblibnocab
