/-
  Contracts: the program's ResidueIs; the least integer that is no residue.
-/
import Derived.Test.YtdclmjmefkgbbabQBun2
import Derived.Test.YtdclmjmefkgbbabQBun3
set_option linter.unusedVariables false
namespace Go.Proofs.Ytdclmjmefkgbbab
open Go.RowKit

theorem primeI_N {p : Int} (h : primeI p = true) : primeN p.toNat = true := h

set_option maxHeartbeats 400000 in
theorem residueIs_any (n p : Int) (w : World) : Calls Try.prog 108 #[.int .i64 n, .int .i64 p] w fun e w' => e = .returned (.int .i64 (resV n p)) ∧ Below w.heap.size w w' := by
  rcases okN_cases n with ⟨h1, h2, H⟩ | ⟨h1, H⟩ | ⟨h1, h2, H⟩
  · rcases oddP_cases p with ⟨c3, c5, c2, hp, C⟩ | ⟨rfl, C⟩ | ⟨c2, hp, C⟩
    · have P := resV_yes H C
      rw [← res_same (primeI_N hp) (by omega)] at P
      obtain ⟨x, hx⟩ : ∃ x, x = pw (n % p).toNat ((p - 1) / 2).toNat p.toNat := ⟨_, rfl⟩
      have hx2 : x = pw (n % p).toNat ((p.toNat - 1) / 2) p.toNat := by rw [hx]; congr 1; omega
      have HX := hid hx
      have HP : Hid (resV n p = if x = 0 then 0 else if x = 1 then 1 else -1) := by show _ = _; rw [P, hx2]; rfl
      clear hx hx2 P hp c2
      by_cases e0 : x = 0
      · have HQ : Hid (resV n p = 0) := by show _ = _; rw [HP.out, if_pos e0]
        subst e0
        go_enter Try.func108, Try.ntmps108
        go_wp2_with (first | (go_at_call 94; refine (valid_any _ _).mono ?_; rintro e w' ⟨rfl, rfl⟩) | (go_at_call 110; refine (oddPrime_any _ _).mono ?_; rintro e w' ⟨rfl, hb⟩) | (go_at_call 111; refine (power_any _ _ _ (by omega) (by omega) (by omega) (by omega) (by omega) (by omega) _).mono ?_; rw [← HX.out]; rintro e w' ⟨rfl, rfl⟩))
        go_ret
        exact ⟨retI HQ.out.symm, hb⟩
      · by_cases e1 : x = 1
        · have HQ : Hid (resV n p = 1) := by show _ = _; rw [HP.out, if_neg e0, if_pos e1]
          subst e1
          clear e0
          go_enter Try.func108, Try.ntmps108
          go_wp2_with (first | (go_at_call 94; refine (valid_any _ _).mono ?_; rintro e w' ⟨rfl, rfl⟩) | (go_at_call 110; refine (oddPrime_any _ _).mono ?_; rintro e w' ⟨rfl, hb⟩) | (go_at_call 111; refine (power_any _ _ _ (by omega) (by omega) (by omega) (by omega) (by omega) (by omega) _).mono ?_; rw [← HX.out]; rintro e w' ⟨rfl, rfl⟩))
          go_ret
          exact ⟨retI HQ.out.symm, hb⟩
        · have HQ : Hid (resV n p = -1) := by show _ = _; rw [HP.out, if_neg e0, if_neg e1]
          have T0 : ((x : Int) == 0) = false := by rw [beq_eq_false_iff_ne]; omega
          have T1 : ((x : Int) == 1) = false := by rw [beq_eq_false_iff_ne]; omega
          clear e0 e1
          go_enter Try.func108, Try.ntmps108
          go_wp2_with (first | (go_at_call 94; refine (valid_any _ _).mono ?_; rintro e w' ⟨rfl, rfl⟩) | (go_at_call 110; refine (oddPrime_any _ _).mono ?_; rintro e w' ⟨rfl, hb⟩) | (go_at_call 111; refine (power_any _ _ _ (by omega) (by omega) (by omega) (by omega) (by omega) (by omega) _).mono ?_; rw [← HX.out]; rintro e w' ⟨rfl, rfl⟩))
          go_ret
          exact ⟨retI HQ.out.symm, hb⟩
    all_goals
      have P := hid (resV_no (n := n) (.inr C))
      go_enter Try.func108, Try.ntmps108
      go_wp2_with (first | (go_at_call 94; refine (valid_any _ _).mono ?_; rintro e w' ⟨rfl, rfl⟩) | (go_at_call 110; refine (oddPrime_any _ _).mono ?_; rintro e w' ⟨rfl, hb⟩))
      go_ret
      exact ⟨retI P.out.symm, hb⟩
  all_goals
    have P := hid (resV_no (p := p) (.inl H))
    go_enter Try.func108, Try.ntmps108
    go_wp2_with (first | (go_at_call 94; refine (valid_any _ _).mono ?_; rintro e w' ⟨rfl, rfl⟩))
    go_ret
    exact ⟨retI P.out.symm, Below.refl _ _⟩

/-- the least integer from 2 on with -1 -/
def noneF (p : Nat) : Nat := (((List.range 64).find? (fun k => decide (2 ≤ k) && (resN (k % p) p == -1))).getD 0)
def noneOk (p : Nat) : Bool := decide (p < 3) || !primeN p || (decide (2 ≤ noneF p) && decide (noneF p < 64) && decide (noneF p < p) && resN (noneF p % p) p == -1 && (List.range (noneF p)).all (fun k => decide (k < 2) || resN (k % p) p == 1))
theorem noneOk_all : (List.range 5001).all noneOk = true := by decide +kernel
theorem noneF_spec {p : Nat} (h : primeN p = true) (h3 : 3 ≤ p) : 2 ≤ noneF p ∧ noneF p < 64 ∧ noneF p < p ∧ resN (noneF p % p) p = -1 ∧ ∀ k, 2 ≤ k → k < noneF p → resN (k % p) p = 1 := by
  have hb := (primeN_bd h).2.1
  have := List.all_eq_true.1 noneOk_all p (List.mem_range.2 (by omega))
  unfold noneOk at this
  rw [decide_eq_false (by omega), h] at this
  simp only [Bool.not_true, Bool.false_or, Bool.and_eq_true, decide_eq_true_eq, beq_iff_eq, List.all_eq_true, List.mem_range, Bool.or_eq_true] at this
  obtain ⟨⟨⟨⟨a, b⟩, c⟩, d⟩, f⟩ := this
  exact ⟨a, b, c, d, fun k k2 kn => by rcases f k kn with hk | hk; (· omega); (· exact hk)⟩

/-- what NonResidue answers -/
def nonV (p : Int) : Value := if oddP p then .tuple #[.int .i64 (noneF p.toNat : Nat), .bool true] else .tuple #[.int .i64 0, .bool false]
theorem nonV_form (p : Int) : ∃ (x : Int) (b : Bool), nonV p = .tuple #[.int .i64 x, .bool b] := by
  unfold nonV
  split
  · exact ⟨_, _, rfl⟩
  · exact ⟨_, _, rfl⟩
theorem nonV_yes {p : Int} (h : oddP p = true) : nonV p = .tuple #[.int .i64 (noneF p.toNat : Nat), .bool true] := by unfold nonV; rw [if_pos h]
theorem nonV_no {p : Int} (h : oddP p = false) : nonV p = .tuple #[.int .i64 0, .bool false] := by unfold nonV; rw [if_neg (by rw [h]; decide)]

end Go.Proofs.Ytdclmjmefkgbbab
