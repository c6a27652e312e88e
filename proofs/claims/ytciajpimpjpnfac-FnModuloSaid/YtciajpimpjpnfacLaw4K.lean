/-
  Facts of chapter 3 over the rests, by the kernel.
-/
import Derived.Test.YtciajpimpjpnfacBun36
import Derived.Test.YtciajpimpjpnfacBun3
set_option linter.unusedVariables false
namespace Go.Proofs.Ytciajpimpjpnfac
open Go.RowKit

/-- where the symbol is 1, few candidates are enough -/
def few (a b : Int) (P m : Nat) (X Y : List Nat) : Bool := X.any (fun x => Y.any (fun y => (List.range m).any (fun z => hitB a b P m x y z)))
theorem fin2 : (List.range 16).all (fun r => (List.range 16).all (fun s => decide (r % 4 = 0) || (decide (s % 4 = 0) || (decide (symV (r : Int) (s : Int) 2 = 1) || !((List.range 4).any (fun x => (List.range 4).any (fun y => (List.range 4).any (fun z => hitB (r : Int) (s : Int) 2 16 x y z)))))))) = true := by decide +kernel
/-- squares up to 16 are those of 0, 1, 2 and 3 -/
theorem sq16 : ∀ x, x < 16 → ∃ t, t < 4 ∧ t % 2 = x % 2 ∧ t * t % 16 = x * x % 16 := by decide +kernel
theorem sq16I {t x : Nat} (h : t * t % 16 = x * x % 16) (a : Int) : a * (t : Int) * (t : Int) % 16 = a * (x : Int) * (x : Int) % 16 := by
  have h2 : ((t : Int) * (t : Int)) % 16 = ((x : Int) * (x : Int)) % 16 := by exact_mod_cast h
  rw [Int.mul_assoc, Int.mul_assoc, Int.mul_emod, h2, ← Int.mul_emod]
theorem hit16 {a b : Int} {x y z : Nat} (hx : x < 16) (hy : y < 16) (hz : z < 16) (h : hitB a b 2 16 x y z = true) : ((List.range 4).any (fun x => (List.range 4).any (fun y => (List.range 4).any (fun z => hitB a b 2 16 x y z)))) = true := by
  obtain ⟨x', h1, h2, h3⟩ := sq16 x hx
  obtain ⟨y', k1, k2, k3⟩ := sq16 y hy
  obtain ⟨z', l1, l2, l3⟩ := sq16 z hz
  refine List.any_eq_true.2 ⟨x', List.mem_range.2 h1, List.any_eq_true.2 ⟨y', List.mem_range.2 k1, List.any_eq_true.2 ⟨z', List.mem_range.2 l1, ?_⟩⟩⟩
  unfold hitB at h ⊢
  rw [Bool.and_eq_true, beq_iff_eq, show ((16 : Nat) : Int) = 16 from rfl] at h
  rw [Bool.and_eq_true, beq_iff_eq, show ((16 : Nat) : Int) = 16 from rfl, h2, k2, l2]
  refine ⟨h.1, ?_⟩
  have e1 := sq16I h3 a
  have e2 := sq16I k3 b
  have e3 := sq16I l3 1
  rw [Int.one_mul, Int.one_mul] at e3
  have e := h.2
  omega
theorem fin3 : (List.range 9).all (fun r => (List.range 9).all (fun s => decide (r = 0) || (decide (s = 0) || (decide (symV (r : Int) (s : Int) 3 = 1) || !anyHit (r : Int) (s : Int) 3 9)))) = true := by decide +kernel
theorem back3_all : (List.range 27).all (fun r => (List.range 27).all (fun s => decide (r = 0) || (decide (s = 0) || (!decide (symV (r : Int) (s : Int) 3 = 1) || few (r : Int) (s : Int) 3 27 [0, 1, 3, 9] [0, 1, 2, 3, 9])))) = true := by decide +kernel
theorem back2_all : (List.range 32).all (fun r => (List.range 32).all (fun s => decide (r % 8 = 0) || (decide (s % 8 = 0) || (!decide (symV (r : Int) (s : Int) 2 = 1) || few (r : Int) (s : Int) 2 8 [0, 1, 2] [0, 1, 2])))) = true := by decide +kernel

/-- the root part is 1 only for what neither 4 nor 9 divides -/
theorem coreGo_ge : ∀ (f p n r : Nat), 1 ≤ p → r ≤ (coreGo f p n r).2
  | 0, _, _, _, _ => Nat.le_refl _
  | f + 1, p, n, r, hp => by
    unfold coreGo
    split
    · exact Nat.le_trans (Nat.le_mul_of_pos_right r (Nat.pow_pos (by omega))) (coreGo_ge f (p + 1) _ _ (by omega))
    · exact Nat.le_refl _
theorem rootSqN {N : Nat} (h0 : N ≠ 0) (h : rootN N = 1) : N % 4 ≠ 0 ∧ N % 9 ≠ 0 := by
  unfold rootN at h
  by_cases h4 : 2 * 2 ≤ N
  · rw [show coreGo 70 2 N 1 = coreGo 69 3 (N / (2 * 2) ^ val N (2 * 2)) (1 * 2 ^ val N (2 * 2)) by conv => { lhs; unfold coreGo }; rw [if_pos h4]] at h
    have hge := coreGo_ge 69 3 (N / (2 * 2) ^ val N (2 * 2)) (1 * 2 ^ val N (2 * 2)) (by omega)
    rw [h] at hge
    have hv : val N (2 * 2) = 0 := by
      rcases Nat.eq_zero_or_pos (val N (2 * 2)) with e | e
      · exact e
      · have := Nat.pow_le_pow_right (show 1 ≤ 2 by decide) e
        omega
    have n4 : N % 4 ≠ 0 := by
      intro e
      have := val_step (n := N) (p := 4) (by decide) (by omega) e
      rw [show 2 * 2 = 4 from rfl] at hv
      omega
    refine ⟨n4, fun e => ?_⟩
    rw [hv, Nat.pow_zero, Nat.div_one, Nat.mul_one] at h
    have h9 : 3 * 3 ≤ N := by omega
    rw [show coreGo 69 3 N 1 = coreGo 68 4 (N / (3 * 3) ^ val N (3 * 3)) (1 * 3 ^ val N (3 * 3)) by conv => { lhs; unfold coreGo }; rw [if_pos h9]] at h
    have hge := coreGo_ge 68 4 (N / (3 * 3) ^ val N (3 * 3)) (1 * 3 ^ val N (3 * 3)) (by omega)
    rw [h] at hge
    have h1 := val_step (n := N) (p := 9) (by decide) (by omega) e
    have h2 := Nat.pow_le_pow_right (show 1 ≤ 3 by decide) (show 1 ≤ val N (3 * 3) by rw [show 3 * 3 = 9 from rfl]; omega)
    omega
  · omega

end Go.Proofs.Ytciajpimpjpnfac
