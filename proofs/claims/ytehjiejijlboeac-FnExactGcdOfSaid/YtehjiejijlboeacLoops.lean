/-
  Contracts of the loops of chapter 1 (program and model).
-/
import Derived.Test.YtehjiejijlboeacNum
import Derived.Test.YtehjiejijlboeacMath
set_option linter.unusedVariables false
namespace Go.Proofs.Ytehjiejijlboeac
open Go.RowKit

theorem tdiv_natAbs (a b : Int) : (a.tdiv b).natAbs = a.natAbs / b.natAbs := Int.natAbs_tdiv a b
theorem tmod_eqz {L p : Int} (hp : 2 ≤ p) : (L.tmod p == 0) = decide (L.natAbs % p.toNat = 0) := by
  rw [Bool.eq_iff_iff, beq_iff_eq, decide_eq_true_iff, ← Nat.dvd_iff_mod_eq_zero, ← Int.dvd_iff_tmod_eq_zero, ← Int.natAbs_dvd_natAbs, show p.natAbs = p.toNat by omega]

theorem ret2 {a b c d : Int} (h : a = b) (h' : c = d) : Ending.returned (.tuple #[.int .i64 a, .int .i64 c]) = .returned (.tuple #[.int .i64 b, .int .i64 d]) := by rw [h, h']
theorem vI {a b : Int} (h : a = b) : Value.int .i64 a = .int .i64 b := by rw [h]
theorem mul_bd {a b m : Nat} (ha : a ≤ m) (hb : b ≤ m) : 0 ≤ (a : Int) * b ∧ (a : Int) * b ≤ (m : Int) * m := by
  have := Nat.mul_le_mul ha hb
  constructor
  · exact_mod_cast Nat.zero_le _
  · exact_mod_cast this

theorem ediv_bd {a b : Nat} (h : a ≤ 5000) : 0 ≤ (a : Int) / b ∧ (a : Int) / b ≤ 5000 := by
  have h1 := Nat.div_le_self a b
  have e : (a : Int) / b = ((a / b : Nat) : Int) := by push_cast; rfl
  rw [e]
  exact ⟨Int.natCast_nonneg _, Int.ofNat_le.2 (Nat.le_trans h1 h)⟩

theorem l1Size_any (n : Int) (h1 : -4611686018427387904 ≤ n) (h2 : n ≤ 4611686018427387904) (w : World) : Calls Try.prog 11 #[.int .i64 n] w fun e w' => e = .returned (.int .i64 n.natAbs) ∧ w = w' := by
  by_cases h : n < 0
  · have hn : (n.natAbs : Int) = -n := by omega
    have HN := hid hn; clear hn
    go_enter Try.func11, Try.ntmps11
    go_wp2
    go_ret
    exact ⟨retI (by rw [HN.out]), rfl⟩
  · have hn : (n.natAbs : Int) = n := by omega
    have HN := hid hn; clear hn
    go_enter Try.func11, Try.ntmps11
    go_wp2
    go_ret
    exact ⟨retI (by rw [HN.out]), rfl⟩

/-- Is it the square of an integer? -/
def sqB (n : Int) : Bool := (List.range 72).any (fun x => ((x : Int) * x == n))
theorem sq_mono {a b : Nat} (h : a ≤ b) : (a : Int) * a ≤ (b : Int) * b := by exact_mod_cast Nat.mul_le_mul h h
theorem sqB_at {n : Int} {k : Nat} (hn : n ≤ 5000) (h1 : n ≤ (k : Int) * k) (h2 : ∀ j : Nat, j < k → (j : Int) * j < n) : ((k : Int) * k == n) = sqB n := by
  rw [Bool.eq_iff_iff, beq_iff_eq]
  unfold sqB
  rw [List.any_eq_true]
  constructor
  · intro h
    refine ⟨k, ?_, by simpa using h⟩
    rw [List.mem_range]
    by_cases hk : k < 72
    · exact hk
    · have := sq_mono (show 72 ≤ k by omega)
      omega
  · rintro ⟨j, _, hj⟩
    rw [beq_iff_eq] at hj
    by_cases hjk : j < k
    · have := h2 j hjk
      omega
    · have := sq_mono (show k ≤ j by omega)
      omega



/-- what PowerMod answers -/
def pmB (n e m : Int) : Bool := okN n && (inR e 0 5000 && inR m 1 5000)
def pmV (n e m : Int) : Value := if pmB n e m then .tuple #[.int .i64 (pw (n % m).toNat e.toNat m.toNat : Nat), .bool true] else .tuple #[.int .i64 0, .bool false]
theorem pmV_yes {n e m : Int} (h : pmB n e m = true) : pmV n e m = .tuple #[.int .i64 (pw (n % m).toNat e.toNat m.toNat : Nat), .bool true] := by unfold pmV; rw [if_pos h]
theorem pmV_no {n e m : Int} (h : pmB n e m = false) : pmV n e m = .tuple #[.int .i64 0, .bool false] := by unfold pmV; rw [if_neg (by rw [h]; decide)]

end Go.Proofs.Ytehjiejijlboeac
