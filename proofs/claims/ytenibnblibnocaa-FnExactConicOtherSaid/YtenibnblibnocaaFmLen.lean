/-
  How long the lists are that chapter 4's functions answer.
-/
import Derived.Test.YtenibnblibnocaaBun16
set_option linter.unusedVariables false
namespace Go.Proofs.Ytenibnblibnocaa
open Go.RowKit

theorem fpl_len (xs : List Int) : (fplL xs).length ≤ 1000 := by
  unfold fplL
  cases hf : fvB xs with
  | false => simp
  | true =>
    have hp := prod_full hf
    obtain ⟨h1, h2, _⟩ := plistG_spec (show 0 < (prodI xs).natAbs by have := hp.1; omega)
    have h3 := asc_len _ 0 30 h2 (fun x hx => ⟨Nat.zero_le _, (small_prime (fvB_iff.1 hf).1 (h1 x hx).1 (h1 x hx).2).1⟩)
    rw [if_pos rfl]
    unfold placesG
    have h4 := List.length_filter_le (fun x : Int => decide (2 < x)) (natsI (plistG (prodI xs).natAbs))
    rw [natsI_len] at h4
    rw [List.length_append]
    simp only [List.length_cons, List.length_nil]
    omega
theorem bad_len (xs : List Int) : (badL xs).length ≤ 1000 := Nat.le_trans (List.length_filter_le _ _) (fpl_len xs)
theorem fcores_len (xs : List Int) : (fcoresL xs).length ≤ 1000 := by
  unfold fcoresL
  cases hf : fvB xs with
  | false => simp
  | true =>
    have := (fvB_iff.1 hf).2.2
    rw [if_pos rfl]
    unfold timesL
    rw [List.length_map]
    omega
theorem ftimes_len (xs : List Int) (n : Int) : (ftimesL xs n).length ≤ 1000 := by
  unfold ftimesL
  cases ht : timesOk xs n with
  | false => simp
  | true =>
    unfold timesOk at ht
    rw [Bool.and_eq_true] at ht
    have := (fvB_iff.1 ht.1).2.2
    rw [if_pos rfl]
    unfold timesL
    rw [List.length_map]
    omega
theorem join_len (xs ys : List Int) : (joinL xs ys).length ≤ 1000 := by
  unfold joinL
  cases ht : joinOk xs ys with
  | false => simp
  | true =>
    unfold joinOk at ht
    rw [Bool.and_eq_true, Bool.and_eq_true] at ht
    have := (fvB_iff.1 ht.2.2).2.2
    rw [if_pos rfl]
    omega

end Go.Proofs.Ytenibnblibnocaa
