/-
  Tried by the kernel: which numbers are sums of two, three and four squares, for the numbers that laws draw.
-/
import Derived.Test.YtdclmjmefkgbbabSuK
set_option linter.unusedVariables false
namespace Go.Proofs.Ytdclmjmefkgbbab
open Go.RowKit

theorem scan_is {f : Int → Option (List Int)} : ∀ (k : Nat) (x : Int), (scanO f k x).isSome = (List.range k).any (fun i => (f (x + (i : Int))).isSome)
  | 0, _ => rfl
  | k + 1, x => by
    rw [List.range_succ_eq_map, List.any_cons, List.any_map]
    have ih := scan_is (f := f) k (x + 1)
    cases e : f x with
    | some l =>
      rw [scan_some e]
      simp [e]
    | none =>
      rw [scan_skip e, ih]
      simp only [Int.natCast_zero, Int.add_zero, e, Option.isSome_none, Bool.false_or]
      congr 1
      funext i
      show _ = (f (x + ((i + 1 : Nat) : Int))).isSome
      rw [show x + 1 + (i : Int) = x + ((i + 1 : Nat) : Int) by push_cast; omega]
def exS (c N : Nat) (g : Nat → Nat → Bool) (n a : Nat) : Bool := (List.range N).any fun i => decide ((c + 1) * ((a + i) * (a + i)) ≤ n) && g (n - (a + i) * (a + i)) (a + i)
theorem exS_is {c N : Nat} {g : Nat → Nat → Bool} (hN : N ≤ 64) (hb : ∀ x : Nat, (c + 1) * (x * x) ≤ 2000 → x < N) (sub : ∀ m b : Nat, m ≤ 2000 → c * (b * b) ≤ m → (lvl c (m : Int) (b : Int)).isSome = g m b) {n : Nat} (hn : n ≤ 2000) (a : Nat) :
    (lvl (c + 1) (n : Int) (a : Int)).isSome = exS c N g n a := by
  rw [lvl_succ, scan_is]
  have key : ∀ i : Nat, (lvlF c (n : Int) ((a : Int) + (i : Int))).isSome = (decide ((c + 1) * ((a + i) * (a + i)) ≤ n) && g (n - (a + i) * (a + i)) (a + i)) := fun i => by
    obtain ⟨x, hx⟩ : ∃ x, x = a + i := ⟨_, rfl⟩
    rw [← hx, show (a : Int) + (i : Int) = (x : Int) by rw [hx]; push_cast; rfl]
    have e : ((c : Int) + 1) * (x : Int) * x ≤ (n : Int) ↔ (c + 1) * (x * x) ≤ n := by
      rw [Int.mul_assoc]
      constructor
      · intro h; exact_mod_cast h
      · intro h; exact_mod_cast h
    unfold lvlF
    by_cases h : (c + 1) * (x * x) ≤ n
    · rw [if_pos (e.2 h), decide_eq_true h, Bool.true_and, Option.isSome_map]
      have h1 : x * x ≤ n := by
        have := Nat.mul_le_mul_right (x * x) (show 1 ≤ c + 1 by omega)
        omega
      have h2 : c * (x * x) ≤ n - x * x := by
        rw [Nat.add_mul] at h
        omega
      rw [show (n : Int) - (x : Int) * x = ((n - x * x : Nat) : Int) by rw [Int.ofNat_sub h1]; push_cast; rfl]
      exact sub _ _ (by omega) h2
    · rw [if_neg (fun q => h (e.1 q)), decide_eq_false h, Bool.false_and]; rfl
  unfold exS
  rw [Bool.eq_iff_iff, List.any_eq_true, List.any_eq_true]
  constructor
  · rintro ⟨i, hi, h⟩
    rw [key i] at h
    refine ⟨i, List.mem_range.2 ?_, h⟩
    rw [Bool.and_eq_true, decide_eq_true_eq] at h
    have := hb (a + i) (by omega)
    omega
  · rintro ⟨i, hi, h⟩
    have := List.mem_range.1 hi
    exact ⟨i, List.mem_range.2 (by omega), by rw [key i]; exact h⟩
theorem one_is (m b : Nat) (hm : m ≤ 2000) (h : 1 * (b * b) ≤ m) : (lvl 1 (m : Int) (b : Int)).isSome = (fun m _ => isqM m) m b := by
  rw [lvl_one (by omega) (by have : b * b ≤ m := by omega
                             exact_mod_cast this) (by omega), Option.isSome_map]
  exact (isq_root hm).symm
theorem lt_of_sq {k x N : Nat} (h : k * (x * x) ≤ 2000) (hN : 2000 < k * (N * N)) : x < N := by
  rcases Nat.lt_or_ge x N with h1 | h1
  · exact h1
  · have := Nat.mul_le_mul_left k (Nat.mul_le_mul h1 h1)
    omega
def ex2 := exS 1 32 (fun m _ => isqM m)
def ex3 := exS 2 26 ex2
def ex4 := exS 3 23 ex3
theorem ex2_is {n : Nat} (hn : n ≤ 2000) (a : Nat) : (lvl 2 (n : Int) (a : Int)).isSome = ex2 n a := exS_is (by omega) (fun x h => lt_of_sq h (by omega)) one_is hn a
theorem ex3_is {n : Nat} (hn : n ≤ 2000) (a : Nat) : (lvl 3 (n : Int) (a : Int)).isSome = ex3 n a := exS_is (by omega) (fun x h => lt_of_sq h (by omega)) (fun m b hm _ => ex2_is hm b) hn a
theorem ex4_is {n : Nat} (hn : n ≤ 2000) (a : Nat) : (lvl 4 (n : Int) (a : Int)).isSome = ex4 n a := exS_is (by omega) (fun x h => lt_of_sq h (by omega)) (fun m b hm _ => ex3_is hm b) hn a

theorem two_a : allR (fun n => ex2 n 0 == twoIsB (n : Int)) 0 400 = true := by decide +kernel
theorem two_b : allR (fun n => ex2 n 0 == twoIsB (n : Int)) 400 323 = true := by decide +kernel
theorem two_c : (ex2 2000 0 == twoIsB 2000) = true := by decide +kernel
theorem two_kernel {n : Nat} (h : n < 723 ∨ n = 2000) : (lvl 2 (n : Int) 0).isSome = twoIsB (n : Int) := by
  have e := ex2_is (n := n) (by omega) 0
  rw [Int.natCast_zero] at e
  rw [e]
  rcases h with h | rfl
  · rcases Nat.lt_or_ge n 400 with a | a
    · have := allR_at two_a (n := n) (by omega) (by omega); rwa [beq_iff_eq] at this
    · have := allR_at two_b (n := n) (by omega) (by omega); rwa [beq_iff_eq] at this
  · have := two_c; rwa [beq_iff_eq] at this
theorem three_a : allR (fun n => ex3 n 0 == threeIsB (n : Int)) 0 250 = true := by decide +kernel
theorem three_b : allR (fun n => ex3 n 0 == threeIsB (n : Int)) 250 245 = true := by decide +kernel
theorem three_c : (ex3 2000 0 == threeIsB 2000) = true := by decide +kernel
theorem three_kernel {n : Nat} (h : n < 495 ∨ n = 2000) : (lvl 3 (n : Int) 0).isSome = threeIsB (n : Int) := by
  have e := ex3_is (n := n) (by omega) 0
  rw [Int.natCast_zero] at e
  rw [e]
  rcases h with h | rfl
  · rcases Nat.lt_or_ge n 250 with a | a
    · have := allR_at three_a (n := n) (by omega) (by omega); rwa [beq_iff_eq] at this
    · have := allR_at three_b (n := n) (by omega) (by omega); rwa [beq_iff_eq] at this
  · have := three_c; rwa [beq_iff_eq] at this
theorem fourx_a : allR (fun n => ex4 n 0) 0 250 = true := by decide +kernel
theorem fourx_b : allR (fun n => ex4 n 0) 250 245 = true := by decide +kernel
theorem fourx_c : ex4 2000 0 = true := by decide +kernel
theorem four_kernel {n : Nat} (h : n < 495 ∨ n = 2000) : ∃ l, lvl 4 (n : Int) 0 = some l ∧ decide (l.getD 0 0 = 0) = threeIsB (n : Int) := by
  have e := ex4_is (n := n) (by omega) 0
  rw [Int.natCast_zero] at e
  have h4 : ex4 n 0 = true := by
    rcases h with h | rfl
    · rcases Nat.lt_or_ge n 250 with a | a
      · exact allR_at fourx_a (n := n) (by omega) (by omega)
      · exact allR_at fourx_b (n := n) (by omega) (by omega)
    · exact fourx_c
  rw [h4] at e
  obtain ⟨l, hl⟩ := Option.isSome_iff_exists.1 e
  refine ⟨l, hl, ?_⟩
  have h3 := three_kernel h
  rw [← h3]
  rw [lvl_succ] at hl
  have hF : lvlF 3 (n : Int) 0 = (lvl 3 (n : Int) 0).map (0 :: ·) := by
    rw [lvlF_yes (by simp)]
    simp
  cases e3 : lvl 3 (n : Int) 0 with
  | some t =>
    rw [e3] at hF
    rw [scan_some (k := 63) hF] at hl
    simp only [Option.some.injEq] at hl
    rw [← hl]; rfl
  | none =>
    rw [e3] at hF
    rw [scan_skip (k := 63) hF] at hl
    obtain ⟨y, hy, hf⟩ := scan_mem _ _ hl
    unfold lvlF at hf
    split at hf
    · cases e : lvl 3 ((n : Int) - y * y) y with
      | none => rw [e] at hf; cases hf
      | some t =>
        rw [e] at hf
        simp only [Option.map_some, Option.some.injEq] at hf
        rw [← hf]
        show decide (y = 0) = false
        rw [decide_eq_false (by omega)]
    · cases hf

end Go.Proofs.Ytdclmjmefkgbbab
