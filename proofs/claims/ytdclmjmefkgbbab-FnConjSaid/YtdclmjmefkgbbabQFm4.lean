/-
  Contracts of the model's chapter 4: bad places; forms that are alike, everywhere or at a place.
-/
import Derived.Test.YtdclmjmefkgbbabQBun11
set_option linter.unusedVariables false
namespace Go.Proofs.Ytdclmjmefkgbbab
open Go.RowKit

theorem prG_prod : ∀ {xs : List Int} {x : Nat}, PrG x → x ∣ (prodI xs).natAbs → ∃ t ∈ xs, x ∣ t.natAbs
  | [], x, hp, hd => by
    have h1 := Nat.le_of_dvd (by decide) hd
    have := hp.1
    have e : (prodI []).natAbs = 1 := rfl
    omega
  | t :: xs, x, hp, hd => by
    rw [show prodI (t :: xs) = t * prodI xs from rfl, Int.natAbs_mul] at hd
    rcases prG_mul hp hd with h | h
    · exact ⟨t, List.mem_cons_self .., h⟩
    · obtain ⟨u, hu, hx⟩ := prG_prod hp h
      exact ⟨u, List.mem_cons_of_mem _ hu, hx⟩
/-- a prime that divides a product of small terms is small -/
theorem small_prime {xs : List Int} (h : ∀ x ∈ xs, x ≠ 0 ∧ -30 ≤ x ∧ x ≤ 30) {x : Nat} (hp : PrG x) (hd : x ∣ (prodI xs).natAbs) : x ≤ 30 ∧ primeN x = true := by
  obtain ⟨t, ht, hx⟩ := prG_prod hp hd
  have hb := h t ht
  have := Nat.le_of_dvd (by omega) hx
  exact ⟨by omega, prG_primeN hp (by omega)⟩
theorem places_small {xs : List Int} (h : ∀ x ∈ xs, x ≠ 0 ∧ -30 ≤ x ∧ x ≤ 30) (hn : prodI xs ≠ 0) : ∀ q ∈ placesG (prodI xs), plI q = true := by
  intro q hq
  unfold placesG at hq
  simp only [List.cons_append, List.nil_append, List.mem_cons] at hq
  rcases hq with rfl | rfl | hq
  · rfl
  · rfl
  · have hm := (List.mem_filter.1 hq).1
    unfold natsI at hm
    rw [List.mem_map] at hm
    obtain ⟨x, hx, rfl⟩ := hm
    have hs := (plistG_spec (show 0 < (prodI xs).natAbs by omega)).1 x hx
    have := (small_prime h hs.1 hs.2).2
    unfold plI
    rw [show primeI (x : Int) = true from this, Bool.or_true]
theorem places_fv {xs : List Int} (hf : fvB xs = true) : ∀ q ∈ placesG (prodI xs), plI q = true :=
  places_small (fvB_iff.1 hf).1 (prod_full hf).1
theorem fpl_all {xs : List Int} : (fplL xs).length ≤ 1000000000002 ∧ ∀ q ∈ fplL xs, fvB xs = true ∧ plI q = true := by
  unfold fplL
  cases hf : fvB xs with
  | false => exact ⟨by simp, fun q hq => by simp at hq⟩
  | true =>
    have hp := prod_full hf
    rw [if_pos rfl]
    exact ⟨placesG_len hp.1 (by omega) (by omega), fun q hq => ⟨rfl, places_fv hf q hq⟩⟩





end Go.Proofs.Ytdclmjmefkgbbab
