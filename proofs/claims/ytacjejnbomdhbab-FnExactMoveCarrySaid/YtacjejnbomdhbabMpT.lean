/-
  Contracts of the program's chapter 7: determinants: plain ones, and the walk up to its region.
-/
import Derived.Test.YtacjejnbomdhbabMpS
import Derived.Test.YtacjejnbomdhbabMx8
import Derived.Test.YtacjejnbomdhbabRdCut
set_option linter.unusedVariables false
namespace Go.Proofs.Ytacjejnbomdhbab
open Go.RowKit

theorem firm_cut7 (c : Prop) [Decidable c] (x y : Addr) (n k : Nat) : Firm (.slice (if c then some x else some y) n k) := by
  by_cases h : c
  · rw [if_pos h]; exact .inr ⟨_, _, _, rfl⟩
  · rw [if_neg h]; exact .inr ⟨_, _, _, rfl⟩
def cutL (r : List Int) (j : Nat) : List Int := r.take j ++ r.drop (j + 1)
def minorL (R : List (List Int)) (j : Nat) : List (List Int) := (R.drop 1).map (fun r => cutL r j)
def detR : Nat → List (List Int) → Int
  | 0, _ => 1
  | n + 1, R => sumF (fun j => alt j * at2 R 0 j * detR n (minorL R j)) (n + 1)
theorem cut_len {r : List Int} {n j : Nat} (h : r.length = n + 1) (hj : j < n + 1) : (cutL r j).length = n := by
  unfold cutL
  rw [List.length_append, List.length_take, List.length_drop, h]
  omega
theorem minor_sq {R : List (List Int)} {n j : Nat} (h : Sq (n + 1) R) (hj : j < n + 1) : Sq n (minorL R j) := by
  unfold minorL
  refine ⟨by rw [List.length_map, List.length_drop, h.1]; omega, fun r hr => ?_⟩
  obtain ⟨q, hq, rfl⟩ := List.mem_map.1 hr
  exact cut_len (h.2 q (List.mem_of_mem_drop hq)) hj
theorem minor_bd {R : List (List Int)} (h : ∀ r ∈ R, ∀ x ∈ r, -1000000 ≤ x ∧ x ≤ 1000000) (j : Nat) : ∀ r ∈ minorL R j, ∀ x ∈ r, -1000000 ≤ x ∧ x ≤ 1000000 := fun r hr x hx => by
  obtain ⟨q, hq, rfl⟩ := List.mem_map.1 hr
  rcases List.mem_append.1 hx with hx | hx
  · exact h q (List.mem_of_mem_drop hq) x (List.mem_of_mem_take hx)
  · exact h q (List.mem_of_mem_drop hq) x (List.mem_of_mem_drop hx)
theorem alt_pm (j : Nat) : alt j = 1 ∨ alt j = -1 := by unfold alt; split <;> simp
theorem det_bd1 {R : List (List Int)} (h : ∀ r ∈ R, ∀ x ∈ r, -1000000 ≤ x ∧ x ≤ 1000000) : -1000000 ≤ detR 1 R ∧ detR 1 R ≤ 1000000 := by
  have e : detR 1 R = 0 + alt 0 * at2 R 0 0 * 1 := rfl
  have := at2_bd h 0 0
  rw [e, show alt 0 = 1 from rfl]
  omega
theorem det_bd2 {R : List (List Int)} (h : ∀ r ∈ R, ∀ x ∈ r, -1000000 ≤ x ∧ x ≤ 1000000) : -2000000000000 ≤ detR 2 R ∧ detR 2 R ≤ 2000000000000 := by
  have e : detR 2 R = 0 + alt 0 * at2 R 0 0 * detR 1 (minorL R 0) + alt 1 * at2 R 0 1 * detR 1 (minorL R 1) := rfl
  have m0 := mul_bd12 (at2_bd h 0 0) (det_bd1 (minor_bd h 0))
  have m1 := mul_bd12 (at2_bd h 0 1) (det_bd1 (minor_bd h 1))
  rw [e, show alt 0 = 1 from rfl, show alt 1 = -1 from rfl, Int.one_mul, show (-1 : Int) * at2 R 0 1 * detR 1 (minorL R 1) = -(at2 R 0 1 * detR 1 (minorL R 1)) by grind]
  omega
theorem det_bdn {n : Nat} (hn : n ≤ 2) {R : List (List Int)} (h : ∀ r ∈ R, ∀ x ∈ r, -1000000 ≤ x ∧ x ≤ 1000000) : -2000000000000 ≤ detR n R ∧ detR n R ≤ 2000000000000 := by
  have hc : n = 0 ∨ n = 1 ∨ n = 2 := by omega
  rcases hc with rfl | rfl | rfl
  · have : detR 0 R = 1 := rfl
    omega
  · have := det_bd1 h; omega
  · exact det_bd2 h
theorem part_bd {n : Nat} (hn : n ≤ 2) {R : List (List Int)} (h : ∀ r ∈ R, ∀ x ∈ r, -1000000 ≤ x ∧ x ≤ 1000000) (j : Nat) : -(2000000000000000000 * (j : Int)) ≤ sumF (fun j => alt j * at2 R 0 j * detR n (minorL R j)) j ∧ sumF (fun j => alt j * at2 R 0 j * detR n (minorL R j)) j ≤ 2000000000000000000 * (j : Int) :=
  sum_bd (f := fun j => alt j * at2 R 0 j * detR n (minorL R j)) (m := 2000000000000000000) (by omega) j (fun r _ => by
    have := mul_bd18 (at2_bd h 0 r) (det_bdn hn (minor_bd h r))
    rcases alt_pm r with e | e <;> simp only [e]
    · rw [Int.one_mul]; exact this
    · rw [show (-1 : Int) * at2 R 0 r * detR n (minorL R r) = -(at2 R 0 r * detR n (minorL R r)) by grind]; omega)
theorem sq_one {R : List (List Int)} (h : Sq 1 R) : ∃ a, R = [[a]] := by
  obtain ⟨h1, h2⟩ := h
  match R, h1 with
  | [r], _ =>
    have := h2 r (List.mem_cons_self ..)
    match r, this with
    | [a], _ => exact ⟨a, rfl⟩
theorem sq_two {R : List (List Int)} (h : Sq 2 R) : ∃ a b c d, R = [[a, b], [c, d]] := by
  obtain ⟨h1, h2⟩ := h
  match R, h1 with
  | [r, s], _ =>
    have e1 := h2 r (by simp)
    have e2 := h2 s (by simp)
    match r, e1, s, e2 with
    | [a, b], _, [c, d], _ => exact ⟨a, b, c, d, rfl⟩
theorem sq_three {R : List (List Int)} (h : Sq 3 R) : ∃ a b c d e f g i j, R = [[a, b, c], [d, e, f], [g, i, j]] := by
  obtain ⟨h1, h2⟩ := h
  match R, h1 with
  | [r, s, t], _ =>
    have e1 := h2 r (by simp)
    have e2 := h2 s (by simp)
    have e3 := h2 t (by simp)
    match r, e1, s, e2, t, e3 with
    | [a, b, c], _, [d, e, f], _, [g, i, j], _ => exact ⟨a, b, c, d, e, f, g, i, j, rfl⟩
theorem det_is {n : Nat} (hn : n = 1 ∨ n = 2 ∨ n = 3) {R : List (List Int)} (h : Sq n R) : detR n R = detF n (at2 R) := by
  rcases hn with rfl | rfl | rfl
  · obtain ⟨a, rfl⟩ := sq_one h
    show 0 + (1 : Int) * a * 1 = a
    omega
  · obtain ⟨a, b, c, d, rfl⟩ := sq_two h
    show 0 + (1 : Int) * a * (0 + 1 * d * 1) + (-1) * b * (0 + 1 * c * 1) = a * d - b * c
    grind
  · obtain ⟨a, b, c, d, e, f, g, i, j, rfl⟩ := sq_three h
    show 0 + (1 : Int) * a * (0 + 1 * e * (0 + 1 * j * 1) + (-1) * f * (0 + 1 * i * 1)) + (-1) * b * (0 + 1 * d * (0 + 1 * j * 1) + (-1) * f * (0 + 1 * g * 1)) + 1 * c * (0 + 1 * d * (0 + 1 * i * 1) + (-1) * e * (0 + 1 * g * 1)) = a * (e * j - f * i) + b * (f * g - d * j) + c * (d * i - e * g)
    grind

end Go.Proofs.Ytacjejnbomdhbab
