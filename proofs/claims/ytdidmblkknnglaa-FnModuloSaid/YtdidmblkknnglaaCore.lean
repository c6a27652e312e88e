/-
  Contracts: cores and root parts (program and model).
-/
import Derived.Test.YtdidmblkknnglaaRes
import Derived.BigQuiet
set_option linter.unusedVariables false
namespace Go.Proofs.Ytdidmblkknnglaa
open Go.RowKit Go.Shelf
attribute [local go_sem] Oper.semAt_some

/-- the model's way: each p in turn, as often as its square divides -/
def coreGo : Nat → Nat → Nat → Nat → Nat × Nat
  | 0, _, n, r => (n, r)
  | f + 1, p, n, r => if p * p ≤ n then coreGo f (p + 1) (n / (p * p) ^ val n (p * p)) (r * p ^ val n (p * p)) else (n, r)
/-- the root part -/
def rootN (N : Nat) : Nat := (coreGo 70 2 N 1).2
/-- what a loop of k rounds makes of a root, wraps and all -/
def mulW (r : Int) (p : Nat) : Nat → Int
  | 0 => r
  | k + 1 => wrap64 (mulW r p k * p)
def rootW (l : List (Nat × Nat)) : Int := l.foldl (fun r x => mulW r x.1 (x.2 / 2)) 1
def rootOk (N : Nat) : Bool := decide (N = 0) || (rootW (ppow N) == (rootN N : Int) && decide (rootN N ≤ 70) && decide (1 ≤ rootN N))
theorem rootOk_all : (List.range 5001).all rootOk = true := by decide +kernel
theorem rootW_eq {N : Nat} (h1 : 1 ≤ N) (h2 : N ≤ 5000) : rootW (ppow N) = (rootN N : Int) ∧ rootN N ≤ 70 ∧ 1 ≤ rootN N := by
  have := List.all_eq_true.1 rootOk_all N (List.mem_range.2 (by omega))
  unfold rootOk at this
  rw [decide_eq_false (by omega)] at this
  simp only [Bool.false_or, Bool.and_eq_true, beq_iff_eq, decide_eq_true_eq] at this
  exact ⟨this.1.1, this.1.2, this.2⟩

/-- what CoreOf answers -/
def coreI (n : Int) : Int := n.tdiv ((rootN n.natAbs : Int) * (rootN n.natAbs : Int))
def coreV (n : Int) : Value := if factB n then .tuple #[.int .i64 (coreI n), .int .i64 (rootN n.natAbs : Nat), .bool true] else .tuple #[.int .i64 0, .int .i64 0, .bool false]
theorem coreV_yes {n : Int} (h : factB n = true) : coreV n = .tuple #[.int .i64 (coreI n), .int .i64 (rootN n.natAbs : Nat), .bool true] := by unfold coreV; rw [if_pos h]
theorem coreV_no {n : Int} (h : factB n = false) : coreV n = .tuple #[.int .i64 0, .int .i64 0, .bool false] := by unfold coreV; rw [if_neg (by rw [h]; decide)]
theorem coreV_form (n : Int) : ∃ (x y : Int) (b : Bool), coreV n = .tuple #[.int .i64 x, .int .i64 y, .bool b] := by
  unfold coreV
  split
  · exact ⟨_, _, _, rfl⟩
  · exact ⟨_, _, _, rfl⟩

theorem sq_toNat (p : Nat) : ((p : Int) * p).toNat = p * p := by exact_mod_cast Int.toNat_natCast (p * p)

theorem ret3 {a b c d : Int} {x y : Bool} (h : a = b) (h' : c = d) (h2 : x = y) : Ending.returned (.tuple #[.int .i64 a, .int .i64 c, .bool x]) = .returned (.tuple #[.int .i64 b, .int .i64 d, .bool y]) := by rw [h, h', h2]

end Go.Proofs.Ytdidmblkknnglaa
