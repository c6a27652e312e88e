/-
  Contracts of the program's chapter 2: the class of a number at a place.
-/
import Derived.Test.YtbhlgdleklfonabBun6
import Derived.Test.YtbhlgdleklfonabRes2
import Derived.Laws.StructEq
import Derived.Laws.ResultCell
set_option linter.unusedVariables false
namespace Go.Proofs.Ytbhlgdleklfonab
open Go.RowKit

set_option maxHeartbeats 400000 in
theorem valuation2_any (n p : Int) (h0 : n ≠ 0) (h1 : -1000000000 ≤ n) (h2 : n ≤ 1000000000) (hp : 2 ≤ p) (hp2 : p ≤ 1000000) (w : World) :
    Calls Try.prog 88 #[.int .i64 n, .int .i64 p] w fun e w' => e = .returned (.int .i64 (val n.natAbs p.toNat)) ∧ w = w' := by
  go_enter Try.func88, Try.ntmps88
  go_wp2
  go_loop [5, 6] (fun k l => ∃ (K : Nat) (L : Int), k = .int .i64 K ∧ l = .int .i64 L ∧ L ≠ 0 ∧ -1000000000 ≤ L ∧ L ≤ 1000000000 ∧ K + L.natAbs ≤ n.natAbs ∧ Hid (val L.natAbs p.toNat + K = val n.natAbs p.toNat)) (fun _ l => (intOf l).natAbs)
  case atStart => exact ⟨0, n, rfl, rfl, h0, h1, h2, by omega, hid (by simp)⟩
  case round =>
    obtain ⟨K, L, rfl, rfl, hl0, hl1, hl2, hK, HV⟩ := hrel
    have T := tmod_eqz (L := L) hp
    by_cases hd : L.natAbs % p.toNat = 0
    · rw [decide_eq_true hd] at T
      have hs := hid (val_step (n := L.natAbs) (p := p.toNat) (by omega) (by omega) hd)
      have hA : L.natAbs / p.toNat < L.natAbs := Nat.div_lt_self (by omega) (by omega)
      have hB : 0 < L.natAbs / p.toNat := Nat.div_pos (Nat.le_of_dvd (by omega) (Nat.dvd_of_mod_eq_zero hd)) (by omega)
      have hq : (L.tdiv p).natAbs = L.natAbs / p.toNat := by rw [tdiv_natAbs, show p.natAbs = p.toNat by omega]
      have hq1 : (L.tdiv p).natAbs < L.natAbs := by omega
      have hq2 : L.tdiv p ≠ 0 := by omega
      have hq3 : -1000000000 ≤ L.tdiv p := by omega
      have hq4 : L.tdiv p ≤ 1000000000 := by omega
      have HQ := hid hq
      clear hq hd hA hB
      go_wp2
      go_round
      case rel => exact ⟨K + 1, L.tdiv p, by go_num, rfl, hq2, hq3, hq4, by omega, hid (by rw [HQ.out]; have := hs.out; have := HV.out; omega)⟩
      case measure => simp only [intOf]; omega
    · rw [decide_eq_false hd] at T
      have hs := hid (val_stop hd)
      clear hd
      go_wp2
      go_ret
      exact ⟨retI (by have := hs.out; have := HV.out; omega), rfl⟩

theorem tdiv_tdiv_nat (n : Int) (a b : Nat) : (n.tdiv (a : Int)).tdiv (b : Int) = n.tdiv ((a * b : Nat) : Int) := by
  rcases Int.natAbs_eq n with h | h
  · rw [h, ← Int.ofNat_tdiv, ← Int.ofNat_tdiv, ← Int.ofNat_tdiv, Nat.div_div_eq_div_mul]
  · rw [h, Int.neg_tdiv, Int.neg_tdiv, Int.neg_tdiv, ← Int.ofNat_tdiv, ← Int.ofNat_tdiv, ← Int.ofNat_tdiv, Nat.div_div_eq_div_mul]
theorem tdiv_step (n : Int) {p : Int} (hp : 2 ≤ p) (i : Nat) : (n.tdiv (p ^ i)).tdiv p = n.tdiv (p ^ (i + 1)) := by
  obtain ⟨P, rfl⟩ := Int.eq_ofNat_of_zero_le (show 0 ≤ p by omega)
  have e : ∀ k, ((P : Int) ^ k) = ((P ^ k : Nat) : Int) := fun k => by push_cast; rfl
  rw [e, e, tdiv_tdiv_nat, Nat.pow_succ]

theorem odd_beq (V : Nat) : ((V : Int) % 2 == 1) = (V % 2 == 1) := by
  rw [Bool.eq_iff_iff, beq_iff_eq, beq_iff_eq]; omega
def clsT (c : Nat × Int) : Value := .agg #[.bool (c.1 == 1), .int .i64 c.2]

end Go.Proofs.Ytbhlgdleklfonab
