/-
  Plain arithmetic: the core of a number is the core of the greater numbers.
-/
import Derived.Test.YtenibnblibnocabBun4
import Derived.Test.YtenibnblibnocabBun7
set_option linter.unusedVariables false
namespace Go.Proofs.Ytenibnblibnocab
open Go.RowKit

theorem coreInv_go {n : Int} : ∀ (k L R p : Nat), L ≤ k → 2 ≤ p → CoreInv n (L : Int) R p → 0 < L → CoreInv n ((L / (p * p) ^ val L (p * p) : Nat) : Int) (R * p ^ val L (p * p)) (p + 1) ∧ 0 < L / (p * p) ^ val L (p * p) ∧ L / (p * p) ^ val L (p * p) ≤ L
  | 0, L, R, p, hk, _, _, h0 => by omega
  | k + 1, L, R, p, hk, hp, h, h0 => by
    have hq : 2 * 2 ≤ p * p := Nat.mul_le_mul hp hp
    by_cases hd : L % (p * p) = 0
    · have hv := val_step (n := L) (p := p * p) (by omega) h0 hd
      have hdv := Nat.dvd_of_mod_eq_zero hd
      have hlt : L / (p * p) < L := Nat.div_lt_self h0 (by omega)
      have hpos : 0 < L / (p * p) := Nat.div_pos (Nat.le_of_dvd h0 hdv) (by omega)
      have hi := h.div hp (by rw [← Int.natCast_mul]; exact Int.natCast_dvd_natCast.2 hdv)
      rw [← Int.natCast_mul, ← Int.ofNat_tdiv] at hi
      obtain ⟨g1, g2, g3⟩ := coreInv_go k (L / (p * p)) (R * p) p (by omega) hp hi hpos
      have e1 : L / (p * p) ^ val L (p * p) = L / (p * p) / (p * p) ^ val (L / (p * p)) (p * p) := by rw [hv, Nat.pow_succ', Nat.div_div_eq_div_mul]
      have e2 : R * p ^ val L (p * p) = R * p * p ^ val (L / (p * p)) (p * p) := by rw [hv, Nat.pow_succ', Nat.mul_assoc]
      rw [e1, e2]
      exact ⟨g1, g2, by omega⟩
    · rw [val_stop hd, Nat.pow_zero, Nat.pow_zero, Nat.div_one, Nat.mul_one]
      refine ⟨h.next (fun hdd => hd ?_), h0, Nat.le_refl _⟩
      rw [← Int.natCast_mul] at hdd
      exact Nat.mod_eq_zero_of_dvd (Int.natCast_dvd_natCast.1 hdd)
theorem coreGo_is {n : Int} : ∀ (f p L R : Nat), CoreInv n (L : Int) R p → 0 < L → L ≤ 5000 → 2 ≤ p → 72 ≤ p + f → IsCore ((coreGo f p L R).1 : Int) (coreGo f p L R).2 n
  | 0, p, L, R, h, h0, h5, hp, hf => by
    refine h.core ?_
    have := Nat.mul_le_mul (show 72 ≤ p by omega) (show 72 ≤ p by omega)
    rw [Int.natAbs_natCast]
    omega
  | f + 1, p, L, R, h, h0, h5, hp, hf => by
    unfold coreGo
    by_cases hle : p * p ≤ L
    · rw [if_pos hle]
      obtain ⟨g1, g2, g3⟩ := coreInv_go L L R p (Nat.le_refl _) hp h h0
      exact coreGo_is f (p + 1) _ _ g1 g2 (by omega) (by omega) (by omega)
    · rw [if_neg hle]
      exact h.core (by rw [Int.natAbs_natCast]; exact hle)
theorem rootN_is {N : Nat} (h1 : 1 ≤ N) (h2 : N ≤ 5000) : ∃ c : Nat, IsCore (c : Int) (rootN N) (N : Int) :=
  ⟨(coreGo 70 2 N 1).1, coreGo_is 70 2 N 1 ⟨by omega, Nat.le_refl _, by simp, fun d hd hlt => by omega⟩ (by omega) h2 (Nat.le_refl _) (by decide)⟩
theorem coreI_G {n : Int} (h : factB n = true) : coreI n = coreG n ∧ (rootN n.natAbs : Nat) = rootG n := by
  rcases factB_cases n with ⟨b1, b2, h0, _, _⟩ | ⟨_, hf⟩ | ⟨_, _, hf⟩
  · obtain ⟨c, hc⟩ := rootN_is (N := n.natAbs) (by omega) (by omega)
    have hr := hc.pos
    obtain ⟨r, hre⟩ : ∃ r, r = rootN n.natAbs := ⟨_, rfl⟩
    rw [← hre] at hc hr
    have he : n.natAbs = c * (r * r) := by have := hc.eq; exact_mod_cast this.symm
    have hrr : 0 < r * r := Nat.mul_pos hr hr
    have hdv : ((r * r : Nat) : Int) ∣ n := Int.ofNat_dvd_left.2 ⟨c, by rw [he, Nat.mul_comm]⟩
    have hI : coreI n = n.tdiv ((r * r : Nat) : Int) := by unfold coreI; rw [← hre, Int.natCast_mul]
    have habs : (coreI n).natAbs = c := by rw [hI, tdiv_natAbs, Int.natAbs_natCast, he, Nat.mul_div_cancel _ hrr]
    have := core_eq h0 (c := coreI n) (r := r) ⟨by rw [hI, ← Int.natCast_mul]; exact Int.tdiv_mul_cancel hdv, hr, by rw [habs]; have := hc.free; rwa [Int.natAbs_natCast] at this⟩
    exact ⟨this.1.symm, by rw [← hre]; exact this.2.symm⟩
  · rw [h] at hf; cases hf
  · rw [h] at hf; cases hf
theorem coreV_G {n : Int} (h : factB n = true) : coreV n = .tuple #[.int .i64 (coreG n), .int .i64 (rootG n : Nat), .bool true] := by
  rw [coreV_yes h, (coreI_G h).1, (coreI_G h).2]

end Go.Proofs.Ytenibnblibnocab
