/-
  The vectors of so many integers from a least to a greatest one, by the first integer, then by the second one and so on: how one leads to the next.
-/
import Derived.Test.YtbhlgdleklfonaaOwn2
set_option linter.unusedVariables false
namespace Go.Proofs.Ytbhlgdleklfonaa
open Go.RowKit

def dig (b c K j : Nat) : Nat := K / b ^ (c - 1 - j) % b
/-- the K-th vector, its last t integers the least ones -/
def vecPart (lo : Int) (b c K t : Nat) : List Int := (List.range c).map (fun j => if j < c - t then lo + ((dig b c K j : Nat) : Int) else lo)
def vecAt (lo : Int) (b c K : Nat) : List Int := (List.range c).map (fun j => lo + ((dig b c K j : Nat) : Int))
def vecsL (lo : Int) (b c : Nat) : List (List Int) := (List.range (b ^ c)).map (vecAt lo b c)
theorem vecAt_len (lo : Int) (b c K : Nat) : (vecAt lo b c K).length = c := by unfold vecAt; simp
theorem vecPart_len (lo : Int) (b c K t : Nat) : (vecPart lo b c K t).length = c := by unfold vecPart; simp
theorem vecAt_get {lo : Int} {b c K j : Nat} (h : j < (vecAt lo b c K).length) : (vecAt lo b c K)[j] = lo + ((dig b c K j : Nat) : Int) := by
  simp [vecAt]
theorem vecPart_get {lo : Int} {b c K t j : Nat} (h : j < (vecPart lo b c K t).length) : (vecPart lo b c K t)[j] = if j < c - t then lo + ((dig b c K j : Nat) : Int) else lo := by
  simp [vecPart]
theorem vecPart_zero (lo : Int) (b c K : Nat) : vecPart lo b c K 0 = vecAt lo b c K := by
  unfold vecPart vecAt
  refine List.map_congr_left fun j hj => ?_
  have := List.mem_range.1 hj
  rw [if_pos (by omega)]
theorem vecAt_first (lo : Int) (b c : Nat) : vecAt lo b c 0 = List.replicate c lo := by
  unfold vecAt dig
  refine List.eq_replicate_iff.2 ⟨by simp, fun x hx => ?_⟩
  obtain ⟨j, _, rfl⟩ := List.mem_map.1 hx
  simp
theorem vecAt_bd {lo : Int} {b c K : Nat} (hb : 1 ≤ b) : ∀ x ∈ vecAt lo b c K, lo ≤ x ∧ x < lo + b := by
  intro x hx
  obtain ⟨j, _, rfl⟩ := List.mem_map.1 hx
  have : dig b c K j < b := Nat.mod_lt _ (by omega)
  omega
theorem vecPart_at {lo : Int} {b c K t : Nat} (ht : t < c) : (vecPart lo b c K t).getD (c - 1 - t) 0 = lo + ((K / b ^ t % b : Nat) : Int) := by
  rw [getD_at _ _ (by rw [vecPart_len]; omega), vecPart_get, if_pos (by omega)]
  unfold dig
  rw [show c - 1 - (c - 1 - t) = t by omega]
theorem part_lo {lo : Int} {b c K t : Nat} (ht : t < c) : (vecPart lo b c K t).set (c - 1 - t) lo = vecPart lo b c K (t + 1) := by
  refine List.ext_getElem (by rw [List.length_set, vecPart_len, vecPart_len]) fun j h1 h2 => ?_
  have h3 := h2
  rw [vecPart_len] at h3
  rw [List.getElem_set, vecPart_get h2]
  by_cases h : c - 1 - t = j
  · rw [if_pos h, if_neg (by omega)]
  · rw [if_neg h, vecPart_get (by rw [vecPart_len]; exact h3)]
    by_cases h4 : j < c - t
    · rw [if_pos h4, if_pos (by omega)]
    · rw [if_neg h4, if_neg (by omega)]
theorem carry {b K t : Nat} (hb : 1 ≤ b) (h : (K + 1) % b ^ t = 0) (hd : K / b ^ t % b = b - 1) : (K + 1) % b ^ (t + 1) = 0 := by
  have hp : 0 < b ^ t := Nat.pow_pos (by omega)
  have e : (K + 1) / b ^ t = K / b ^ t + 1 := by rw [Nat.succ_div_of_dvd (Nat.dvd_of_mod_eq_zero h)]
  have e2 : (K / b ^ t + 1) % b = 0 := by
    rw [Nat.add_mod, hd]
    by_cases h1 : b = 1
    · subst h1; exact Nat.mod_one _
    · rw [Nat.mod_eq_of_lt (show 1 < b by omega), show b - 1 + 1 = b by omega, Nat.mod_self]
  obtain ⟨m, hm⟩ := Nat.dvd_of_mod_eq_zero h
  rw [hm, Nat.mul_div_cancel_left _ hp] at e
  rw [← e] at e2
  obtain ⟨q, rfl⟩ := Nat.dvd_of_mod_eq_zero e2
  rw [hm, Nat.pow_succ, ← Nat.mul_assoc]
  exact Nat.mul_mod_right _ _
theorem carried {b K c : Nat} (h : (K + 1) % b ^ c = 0) (hK : K < b ^ c) : K + 1 = b ^ c := by
  obtain ⟨m, hm⟩ := Nat.dvd_of_mod_eq_zero h
  have h1 : m ≠ 0 := by rintro rfl; rw [Nat.mul_zero] at hm; omega
  by_cases h2 : m = 1
  · rw [hm, h2, Nat.mul_one]
  · have : b ^ c * 2 ≤ b ^ c * m := Nat.mul_le_mul_left _ (by omega)
    omega
theorem part_next {lo : Int} {b c K t : Nat} (hb : 1 ≤ b) (ht : t < c) (h : (K + 1) % b ^ t = 0) (hd : K / b ^ t % b ≠ b - 1) : (vecPart lo b c K t).set (c - 1 - t) (lo + ((K / b ^ t % b : Nat) : Int) + 1) = vecAt lo b c (K + 1) := by
  have hlt : K / b ^ t % b < b := Nat.mod_lt _ (by omega)
  have e : (K + 1) / b ^ t = K / b ^ t + 1 := by rw [Nat.succ_div_of_dvd (Nat.dvd_of_mod_eq_zero h)]
  have e2 : (K / b ^ t + 1) % b = K / b ^ t % b + 1 := by
    rw [Nat.add_mod, Nat.mod_eq_of_lt (show 1 < b by omega), Nat.mod_eq_of_lt (by omega)]
  refine List.ext_getElem (by rw [List.length_set, vecPart_len, vecAt_len]) fun j h1 h2 => ?_
  have h9 := h2
  rw [vecAt_len] at h9
  rw [List.getElem_set, vecAt_get h2]
  by_cases hj : c - 1 - t = j
  · subst hj
    rw [if_pos rfl]
    unfold dig
    rw [show c - 1 - (c - 1 - t) = t by omega, e, e2]
    push_cast
    omega
  · rw [if_neg hj, vecPart_get (by rw [vecPart_len]; exact h9)]
    by_cases h3 : j < c - t
    · rw [if_pos h3]
      congr 2
      unfold dig
      rw [Nat.succ_div_of_not_dvd]
      intro hdv
      have hd1 : b ^ (t + 1) ∣ K + 1 := Nat.dvd_trans (Nat.pow_dvd_pow b (show t + 1 ≤ c - 1 - j by omega)) hdv
      obtain ⟨m, hm⟩ := hd1
      rw [hm, Nat.pow_succ, Nat.mul_assoc, Nat.mul_div_cancel_left _ (Nat.pow_pos (by omega))] at e
      rw [← e, Nat.mul_mod_right] at e2
      omega
    · rw [if_neg h3]
      have hdv : b ^ (c - 1 - j + 1) ∣ K + 1 := Nat.dvd_trans (Nat.pow_dvd_pow b (show c - 1 - j + 1 ≤ t by omega)) (Nat.dvd_of_mod_eq_zero h)
      obtain ⟨m, hm⟩ := hdv
      unfold dig
      rw [hm, Nat.pow_succ, Nat.mul_assoc, Nat.mul_div_cancel_left _ (Nat.pow_pos (by omega)), Nat.mul_mod_right]
      simp
theorem vecs_len (lo : Int) (b c : Nat) : (vecsL lo b c).length = b ^ c := by unfold vecsL; simp
theorem vecs_take {lo : Int} {b c K : Nat} (h : K < b ^ c) : (vecsL lo b c).take (K + 1) = (vecsL lo b c).take K ++ [vecAt lo b c K] := by
  rw [List.take_add_one, List.getElem?_eq_getElem (by rw [vecs_len]; exact h)]
  unfold vecsL
  simp

end Go.Proofs.Ytbhlgdleklfonaa
