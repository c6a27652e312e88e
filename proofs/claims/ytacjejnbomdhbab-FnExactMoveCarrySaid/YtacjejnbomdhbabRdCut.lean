/-
  Slices of slices of numbers.
-/
import Derived.Test.YtacjejnbomdhbabQBun5
set_option linter.unusedVariables false
namespace Go.Proofs.Ytacjejnbomdhbab
open Go.RowKit

theorem Rd.drop {W : World} {g o n cap k : Nat} {xs : List Int} (h : Rd W (.slice (some ⟨g, o, none⟩) n cap) xs) (hk : k ≤ n) (hn : xs.length = n) : Rd W (.slice (some ⟨g, o + k, none⟩) (n - k) (cap - k)) (xs.drop k) := by
  subst hn
  by_cases h0 : xs.length = k
  · exact .inl ⟨_, _, by rw [h0, Nat.sub_self], List.drop_eq_nil_of_le (by omega)⟩
  · rcases h with ⟨a, c, hv, hx⟩ | ⟨b, o', c, hv, hl, hm, hc⟩
    · subst hx; have e : ([] : List Int).length = 0 := rfl; omega
    · simp only [Value.slice.injEq, Option.some.injEq, Addr.mk.injEq, and_true, true_and] at hv
      obtain ⟨⟨rfl, rfl⟩, rfl⟩ := hv
      refine .inr ⟨g, o + k, cap - k, by rw [List.length_drop], by rw [List.length_drop]; omega, by rw [List.length_drop]; omega, fun i hi => ?_⟩
      rw [List.length_drop] at hi
      have := hc (k + i) (by omega)
      rw [show o + k + i = o + (k + i) by omega, this]
      simp [List.getD]
theorem Rd.cut {W : World} {g o n cap k : Nat} {xs : List Int} (h : Rd W (.slice (some ⟨g, o, none⟩) n cap) xs) (hk : k ≤ n) (hn : xs.length = n) (hc : n ≤ cap) : Rd W (.slice (if cap = k then some ⟨g, o, none⟩ else some ⟨g, o + k, none⟩) (n - k) (cap - k)) (xs.drop k) := by
  by_cases e : cap = k
  · exact .inl ⟨_, _, by rw [show n - k = 0 by omega], List.drop_eq_nil_of_le (by omega)⟩
  · rw [if_neg e]
    exact h.drop hk hn
theorem Rd.take {W : World} {g o n cap k c : Nat} {xs : List Int} (h : Rd W (.slice (some ⟨g, o, none⟩) n cap) xs) (hk : k ≤ n) (hn : xs.length = n) (hcc : cap ≤ c := by exact Nat.le_refl _) : Rd W (.slice (some ⟨g, o, none⟩) k c) (xs.take k) := by
  subst hn
  by_cases h0 : k = 0
  · exact .inl ⟨_, _, by rw [h0], by rw [h0]; rfl⟩
  · rcases h with ⟨a, c, hv, hx⟩ | ⟨b, o', c', hv, hl, hm, hc⟩
    · subst hx; simp at hk; omega
    · simp only [Value.slice.injEq, Option.some.injEq, Addr.mk.injEq, and_true, true_and] at hv
      obtain ⟨⟨rfl, rfl⟩, rfl⟩ := hv
      have e : (xs.take k).length = k := by rw [List.length_take]; omega
      refine .inr ⟨g, o, c, by rw [e], by omega, by omega, fun i hi => ?_⟩
      rw [e] at hi
      rw [hc i (by omega)]
      simp [List.getD, hi]

end Go.Proofs.Ytacjejnbomdhbab
