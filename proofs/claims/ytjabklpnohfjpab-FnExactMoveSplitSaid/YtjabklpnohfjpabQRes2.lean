/-
  Contracts: the program's ResidueIs; the least integer that is no residue.
-/
import Derived.Test.YtjabklpnohfjpabQBun2
import Derived.Test.YtjabklpnohfjpabQFermat
set_option linter.unusedVariables false
namespace Go.Proofs.Ytjabklpnohfjpab
open Go.RowKit

theorem primeI_N {p : Int} (h : primeI p = true) : primeN p.toNat = true := h

/-- the least integer from 2 on with -1 -/
def noneF (p : Nat) : Nat := (((List.range 64).find? (fun k => decide (2 ≤ k) && (resN (k % p) p == -1))).getD 0)
def noneOk (p : Nat) : Bool := decide (p < 3) || !primeN p || (decide (2 ≤ noneF p) && decide (noneF p < 64) && decide (noneF p < p) && resN (noneF p % p) p == -1 && (List.range (noneF p)).all (fun k => decide (k < 2) || resN (k % p) p == 1))
theorem noneOk_all : (List.range 5001).all noneOk = true := by decide +kernel
theorem noneF_spec {p : Nat} (h : primeN p = true) (h3 : 3 ≤ p) : 2 ≤ noneF p ∧ noneF p < 64 ∧ noneF p < p ∧ resN (noneF p % p) p = -1 ∧ ∀ k, 2 ≤ k → k < noneF p → resN (k % p) p = 1 := by
  have hb := (primeN_bd h).2.1
  have := List.all_eq_true.1 noneOk_all p (List.mem_range.2 (by omega))
  unfold noneOk at this
  rw [decide_eq_false (by omega), h] at this
  simp only [Bool.not_true, Bool.false_or, Bool.and_eq_true, decide_eq_true_eq, beq_iff_eq, List.all_eq_true, List.mem_range, Bool.or_eq_true] at this
  obtain ⟨⟨⟨⟨a, b⟩, c⟩, d⟩, f⟩ := this
  exact ⟨a, b, c, d, fun k k2 kn => by rcases f k kn with hk | hk; (· omega); (· exact hk)⟩

/-- what NonResidue answers -/
def nonV (p : Int) : Value := if oddP p then .tuple #[.int .i64 (noneF p.toNat : Nat), .bool true] else .tuple #[.int .i64 0, .bool false]
theorem nonV_form (p : Int) : ∃ (x : Int) (b : Bool), nonV p = .tuple #[.int .i64 x, .bool b] := by
  unfold nonV
  split
  · exact ⟨_, _, rfl⟩
  · exact ⟨_, _, rfl⟩
theorem nonV_yes {p : Int} (h : oddP p = true) : nonV p = .tuple #[.int .i64 (noneF p.toNat : Nat), .bool true] := by unfold nonV; rw [if_pos h]
theorem nonV_no {p : Int} (h : oddP p = false) : nonV p = .tuple #[.int .i64 0, .bool false] := by unfold nonV; rw [if_neg (by rw [h]; decide)]

end Go.Proofs.Ytjabklpnohfjpab
