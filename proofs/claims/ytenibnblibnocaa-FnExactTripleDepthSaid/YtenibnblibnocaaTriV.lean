/-
  Triples: plain values of what the functions answer.
-/
import Derived.Test.YtenibnblibnocaaTri
set_option linter.unusedVariables false
namespace Go.Proofs.Ytenibnblibnocaa
open Go.RowKit

theorem mul_bd2 {a : Int} (h1 : 1 ≤ a) (h2 : a ≤ 100000) : 0 ≤ a * a ∧ a * a ≤ 10000000000 := by
  have e1 := Int.mul_le_mul h2 h2 (by omega) (show (0 : Int) ≤ 100000 by omega)
  have e2 := Int.mul_nonneg (show 0 ≤ a by omega) (show 0 ≤ a by omega)
  omega
theorem triB_in {a b c : Int} (A : inR a 1 100000 = true) (B : inR b 1 100000 = true) (C : inR c 1 100000 = true) : triB a b c = (decide (a * a + b * b = c * c) && (decide (a % 2 = 1) && decide (Nat.gcd a.natAbs b.natAbs = 1))) := by
  unfold triB; rw [A, B, C]; rfl
theorem triB_noA {a b c : Int} (A : inR a 1 100000 = false) : triB a b c = false := by unfold triB; rw [A]; rfl
theorem triB_noB {a b c : Int} (B : inR b 1 100000 = false) : triB a b c = false := by unfold triB; rw [B, Bool.false_and, Bool.and_false]
theorem triB_noC {a b c : Int} (C : inR c 1 100000 = false) : triB a b c = false := by unfold triB; rw [C, Bool.false_and, Bool.and_false, Bool.and_false]
theorem tri_even {a b c : Int} (e : a * a + b * b = c * c) (o : a % 2 = 1) : b % 2 = 0 := by
  rcases sq_mod4 a with h1 | h1 <;> rcases sq_mod4 b with h2 | h2 <;> rcases sq_mod4 c with h3 | h3 <;> omega
/-- the triple of m and n -/
def triA (m n : Int) : Int := m * m - n * n
def triBb (m n : Int) : Int := 2 * m * n
theorem triBb_eq (m n : Int) : triBb m n = 2 * (m * n) := Int.mul_assoc ..
def triC (m n : Int) : Int := m * m + n * n
def v4 (ok : Bool) (a b c : Int) : Value := if ok then .tuple #[.int .i64 a, .int .i64 b, .int .i64 c, .bool true] else .tuple #[.int .i64 0, .int .i64 0, .int .i64 0, .bool false]
def v5 (ok : Bool) (a b c k : Int) : Value := if ok then .tuple #[.int .i64 a, .int .i64 b, .int .i64 c, .int .i64 k, .bool true] else .tuple #[.int .i64 0, .int .i64 0, .int .i64 0, .int .i64 0, .bool false]
def v3 (ok : Bool) (a b : Int) : Value := if ok then .tuple #[.int .i64 a, .int .i64 b, .bool true] else .tuple #[.int .i64 0, .int .i64 0, .bool false]
def makeOk (m n : Int) : Bool := inR m 2 316 && (inR n 1 (m - 1) && triB (triA m n) (triBb m n) (triC m n))
def makeV (m n : Int) : Value := v4 (makeOk m n) (triA m n) (triBb m n) (triC m n)
/-- m and n of a triple, as the least roots -/
def sqr (n : Nat) : Nat := ((List.range (n + 1)).find? (fun z => decide (z * z = n))).getD 0
def backM (a c : Int) : Nat := sqr ((c + a) / 2).toNat
def backN (a c : Int) : Nat := sqr ((c - a) / 2).toNat
theorem sqr_sq (m : Nat) : sqr (m * m) = m := by
  unfold sqr
  have h : (List.range (m * m + 1)).find? (fun z => decide (z * z = m * m)) = some m := by
    rw [List.find?_eq_some_iff_getElem]
    refine ⟨by simp, m, by simp; exact Nat.lt_succ_of_le (Nat.le_mul_self m), by simp, fun j hj => ?_⟩
    simp
    intro e
    have := Nat.mul_self_inj.1 e
    omega
  rw [h]; rfl
theorem back_nd {m n : Nat} (h : Nd m n) : backM (triA m n) (triC m n) = m ∧ backN (triA m n) (triC m n) = n := by
  unfold backM backN triA triC
  have e1 : ((m : Int) * m + n * n + (m * m - n * n)) / 2 = ((m * m : Nat) : Int) := by push_cast; omega
  have e2 : ((m : Int) * m + n * n - (m * m - n * n)) / 2 = ((n * n : Nat) : Int) := by push_cast; omega
  rw [e1, e2, Int.toNat_natCast, Int.toNat_natCast]
  exact ⟨sqr_sq m, sqr_sq n⟩
def tbackV (a b c : Int) : Value := v3 (triB a b c) (backM a c) (backN a c)
def nchiV (k : Int) (m n : Nat) : Value := v4 (inR k 0 2 && triB (triA (chiM k.toNat m n) (chiN k.toNat m n)) (triBb (chiM k.toNat m n) (chiN k.toNat m n)) (triC (chiM k.toNat m n) (chiN k.toNat m n))) (triA (chiM k.toNat m n) (chiN k.toNat m n)) (triBb (chiM k.toNat m n) (chiN k.toNat m n)) (triC (chiM k.toNat m n) (chiN k.toNat m n))
def childV (a b c k : Int) : Value := if triB a b c then nchiV k (backM a c) (backN a c) else v4 false 0 0 0
def nparV (m n : Nat) : Value := v5 (decide (m ≠ 2 * n)) (triA (parM m n) (parN m n)) (triBb (parM m n) (parN m n)) (triC (parM m n) (parN m n)) (parK m n : Nat)
def parentV (a b c : Int) : Value := if triB a b c then nparV (backM a c) (backN a c) else v5 false 0 0 0 0
def depthV (a b c : Int) : Int := if triB a b c then (depN (backM a c) (backN a c) : Nat) else -1
/-- a triple's m and n -/
theorem tri_back {a b c : Int} (h : triB a b c = true) : ∃ m n : Nat, Nd m n ∧ backM a c = m ∧ backN a c = n ∧ a = triA m n ∧ b = triBb m n ∧ c = triC m n ∧ m ≤ 316 ∧ n ≤ 316 := by
  obtain ⟨m, n, hn, ea, eb, ec⟩ := tri_nd h
  obtain ⟨_, _, ⟨_, hc⟩, _⟩ := triB_iff.1 h
  have hb := back_nd hn
  refine ⟨m, n, hn, ?_, ?_, ea, by rw [triBb_eq]; exact eb, ec, ?_, ?_⟩
  · rw [ea, ec]; exact hb.1
  · rw [ea, ec]; exact hb.2
  · refine Nat.not_lt.1 fun hl => ?_
    have h2 : 317 * 317 ≤ m * m := Nat.mul_le_mul hl hl
    have h3 : ((317 * 317 : Nat) : Int) ≤ (m : Int) * m := by exact_mod_cast h2
    have h4 : (0 : Int) ≤ (n : Int) * n := Int.mul_nonneg (by omega) (by omega)
    omega
  · refine Nat.not_lt.1 fun hl => ?_
    have h2 : 317 * 317 ≤ n * n := Nat.mul_le_mul hl hl
    have h3 : ((317 * 317 : Nat) : Int) ≤ (n : Int) * n := by exact_mod_cast h2
    have h4 : (0 : Int) ≤ (m : Int) * m := Int.mul_nonneg (by omega) (by omega)
    omega
theorem nd_tri2 {m n : Nat} (h : Nd m n) (hc : m * m + n * n ≤ 100000) : triB (triA m n) (triBb m n) (triC m n) = true := by rw [triBb_eq]; exact nd_tri h hc
theorem nd_c {m n : Nat} (h : Nd m n) (ht : triB (triA m n) (triBb m n) (triC m n) = true) : m * m + n * n ≤ 100000 := by
  obtain ⟨_, _, ⟨_, hc⟩, _⟩ := triB_iff.1 ht
  unfold triC at hc
  have e : ((m * m + n * n : Nat) : Int) = (m : Int) * m + n * n := by push_cast; rfl
  omega
theorem nd_316 {m n : Nat} (hc : m * m + n * n ≤ 100000) : m ≤ 316 ∧ n ≤ 316 := by
  constructor
  · refine Nat.not_lt.1 fun hl => ?_
    have h2 : 317 * 317 ≤ m * m := Nat.mul_le_mul hl hl
    omega
  · refine Nat.not_lt.1 fun hl => ?_
    have h2 : 317 * 317 ≤ n * n := Nat.mul_le_mul hl hl
    omega
theorem make_nd {m n : Nat} (h : Nd m n) : makeOk m n = triB (triA m n) (triBb m n) (triC m n) := by
  unfold makeOk
  cases ht : triB (triA m n) (triBb m n) (triC m n) with
  | false => rw [Bool.and_false, Bool.and_false]
  | true =>
    have hm := nd_316 (nd_c h ht)
    obtain ⟨n1, hl, _⟩ := h
    unfold inR
    rw [decide_eq_true (show (2 : Int) ≤ m by omega), decide_eq_true (show (m : Int) ≤ 316 by omega), decide_eq_true (show (1 : Int) ≤ n by omega), decide_eq_true (show (n : Int) ≤ m - 1 by omega)]
    rfl
theorem par_c {m n : Nat} (h : Nd m n) (e : m ≠ 2 * n) (hc : m * m + n * n ≤ 100000) : parM m n * parM m n + parN m n * parN m n ≤ 100000 := by
  obtain ⟨_, h2, h3⟩ := par_nd h e
  have q1 := Nat.mul_le_mul (Nat.le_of_lt h2) (Nat.le_of_lt h2)
  have q2 := Nat.mul_le_mul h3 h3
  omega
theorem make_par {m n : Nat} (h : Nd m n) (e : m ≠ 2 * n) (hc : m * m + n * n ≤ 100000) : makeOk (parM m n) (parN m n) = true := by
  have hp := (par_nd h e).1
  rw [make_nd hp]
  exact nd_tri2 hp (par_c h e hc)
theorem tri_nd2 {m n : Nat} (h : Nd m n) (hc : m * m + n * n ≤ 100000) : triB (triA m n) (triBb m n) (triC m n) = true ∧ backM (triA m n) (triC m n) = m ∧ backN (triA m n) (triC m n) = n := ⟨nd_tri2 h hc, back_nd h⟩

end Go.Proofs.Ytenibnblibnocaa
