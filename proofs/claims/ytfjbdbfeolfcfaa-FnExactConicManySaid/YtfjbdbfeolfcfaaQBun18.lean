/-
  Some texts in one file: Con6 ImpA.
-/
import Derived.Test.YtfjbdbfeolfcfaaQBun14
import Derived.Test.YtfjbdbfeolfcfaaQBun17
import Derived.Test.YtfjbdbfeolfcfaaQBun6
import Derived.Test.YtfjbdbfeolfcfaaQRes2
import Derived.Laws.StructEq
import Derived.Laws.ResultCell
/-! Con6 -/
set_option linter.unusedVariables false
namespace Go.Proofs.Ytfjbdbfeolfcfaa
open Go.RowKit

theorem plain2_back {p q : Int} (h : ¬ (p = 0 ∧ q = 0)) : ∃ s t k : Int, plainL [p, q] = [s, t] ∧ k ≠ 0 ∧ p = k * s ∧ q = k * t ∧ headB s t = true := by
  obtain ⟨u, v, k, e, hk, e1, e2, hB, _⟩ := head_plain h
  exact ⟨u, v, k, e, hk, e1, e2, hB⟩
theorem part_bd {p k s m : Int} (hk : k ≠ 0) (e : p = k * s) (h : -m ≤ p ∧ p ≤ m) : -m ≤ s ∧ s ≤ m := abs_less hk (by rw [← e]; exact h.1) (by rw [← e]; exact h.2)
theorem mul_bd3 {a b : Int} (ha : -30 ≤ a ∧ a ≤ 30) (hb : -1000 ≤ b ∧ b ≤ 1000) : -30000 ≤ a * b ∧ a * b ≤ 30000 := by
  have h : (a * b).natAbs = a.natAbs * b.natAbs := Int.natAbs_mul a b
  have h2 : a.natAbs * b.natAbs ≤ 30 * 1000 := Nat.mul_le_mul (by omega) (by omega)
  omega
/-- the tangent's heading -/
theorem tangent_head {a b c x y z : Int} (P : Pt a b c x y z) : ∃ s t : Int, plainL [atC [a, b, c] * atC [x, y, z], -(atB [x, y, z] [a, b, c] * atB [x, y, z] [x, y, z])] = [s, t] ∧ headB s t = true ∧ (-30000 ≤ s ∧ s ≤ 30000) ∧ (-30000 ≤ t ∧ t ≤ 30000) ∧ s * -(atB [x, y, z] [a, b, c] * atB [x, y, z] [x, y, z]) = t * (atC [a, b, c] * atC [x, y, z]) := by
  obtain ⟨s, t, k, e, hk, e1, e2, hB⟩ := plain2_back (tangent_ne P)
  have b1 : -30000 ≤ atC [a, b, c] * atC [x, y, z] ∧ atC [a, b, c] * atC [x, y, z] ≤ 30000 := mul_bd3 P.hc.2 P.hz
  have b2 : -30000 ≤ atB [x, y, z] [a, b, c] * atB [x, y, z] [x, y, z] ∧ atB [x, y, z] [a, b, c] * atB [x, y, z] [x, y, z] ≤ 30000 := by
    unfold atB
    split
    · exact mul_bd3 P.ha.2 P.hx
    · exact mul_bd3 P.hb.2 P.hy
  refine ⟨s, t, e, hB, part_bd hk e1 b1, part_bd hk e2 (by omega), ?_⟩
  rw [e1, e2]
  grind
theorem head_ok {a b c x y z s t : Int} (hf : fvB [a, b, c] = true) (hp : pointB [a, b, c] [x, y, z] = true) (P : Pt a b c x y z) (hst : ¬ (s = 0 ∧ t = 0)) :
    otherOk [a, b, c] [x, y, z] (headL [x, y, z] s t) = ((decide (-20 ≤ s ∧ s ≤ 20) && decide (-20 ≤ t ∧ t ≤ 20)) && decide (hgtL (plainL (lineL [a, b, c] [x, y, z] (headL [x, y, z] s t))) ≤ 1000000)) := by
  unfold otherOk
  rw [hp, head_mult P, decide_eq_false hst, Bool.true_and, Bool.not_false, Bool.true_and]
  congr 1
  rw [Bool.eq_iff_iff, Bool.and_eq_true, decide_eq_true_eq, decide_eq_true_eq, vecB_iff]
  constructor
  · rintro ⟨h, _⟩
    have h1 : s ∈ headL [x, y, z] s t := by unfold headL; split <;> simp
    have h2 : t ∈ headL [x, y, z] s t := by unfold headL; split <;> simp
    exact ⟨h s h1, h t h2⟩
  · rintro ⟨h1, h2⟩
    refine ⟨fun v hv => ?_, hf, head_len ..⟩
    rcases head_mem hv with rfl | rfl | rfl
    · exact h1
    · omega
    · exact h2
/-- a point is met from itself -/
theorem point_self {xs vs : List Int} (h : pointB xs vs = true) : ∃ s t : Int, backV xs vs vs = .tuple #[.int .i64 s, .int .i64 t, .bool true] ∧ (-30000 ≤ s ∧ s ≤ 30000) ∧ (-30000 ≤ t ∧ t ≤ 30000) ∧ otherOk xs vs (headL vs s t) = (decide (-20 ≤ s ∧ s ≤ 20) && decide (-20 ≤ t ∧ t ≤ 20)) ∧ (otherOk xs vs (headL vs s t) = true → otherL xs vs (headL vs s t) = vs) ∧ zeroB xs vs = true ∧ plainL vs = vs := by
  obtain ⟨_, hz, hpl, hh⟩ := pointB_iff.1 h
  obtain ⟨a, b, c, x, y, z, rfl, rfl, hf, P⟩ := point_pt h
  obtain ⟨s, t, e, hB, bs, bt, hT⟩ := tangent_head P
  have hst := (headB_iff.1 hB).1
  have hl := line_tan P hst hT
  refine ⟨s, t, ?_, bs, bt, ?_, fun ho => ?_, hz, hpl⟩
  · rw [backV_yes (by unfold backOk; rw [h, hz]; rfl)]
    unfold backL
    rw [if_pos ⟨by omega, by omega⟩, e]
    rfl
  · have hh6 : hgtL [x, y, z] ≤ 1000000 := by omega
    rw [head_ok hf h P hst, hl, decide_eq_true hh6, Bool.and_true]
  · unfold otherL
    rw [if_pos ho, hl]
/-- a heading is read back -/
theorem heading_back {xs vs : List Int} {s t : Int} (h : otherOk xs vs (headL vs s t) = true) : ∃ x y : Int, backV xs vs (otherL xs vs (headL vs s t)) = .tuple #[.int .i64 x, .int .i64 y, .bool true] ∧ s = signL [s, t] * (gcdL [s, t] : Int) * x ∧ t = signL [s, t] * (gcdL [s, t] : Int) * y := by
  have h' := h
  unfold otherOk at h'
  rw [Bool.and_eq_true, Bool.and_eq_true, Bool.and_eq_true, Bool.not_eq_true'] at h'
  obtain ⟨hp, hw, hm, hh⟩ := h'
  obtain ⟨a, b, c, x, y, z, rfl, rfl, hf, P⟩ := point_pt hp
  have hm2 := hm
  rw [head_mult P, decide_eq_false_iff_not] at hm2
  obtain ⟨u, v, e⟩ : ∃ u v, plainL [s, t] = [u, v] := by
    match hq : plainL [s, t], plainL_len [s, t] with
    | [u, v], _ => exact ⟨u, v, rfl⟩
  have hb := plain_back [s, t]
  rw [e] at hb
  simp only [List.map_cons, List.map_nil, List.cons.injEq, and_true] at hb
  have hz : zeroB [a, b, c] (otherL [a, b, c] [x, y, z] (headL [x, y, z] s t)) = true := by
    unfold otherL
    rw [if_pos h]
    obtain ⟨p, q, r, ew⟩ := len3 (head_len [x, y, z] s t)
    rw [ew] at hm hh ⊢
    rw [line_plain hf P hm]
    exact hh
  refine ⟨u, v, ?_, hb.1.symm, hb.2.symm⟩
  rw [backV_yes (by unfold backOk; rw [hp, hz]; rfl)]
  unfold otherL
  rw [if_pos h, at_back P hm2, e]
  rfl
/-- a zero is met by its heading -/
theorem zero_back {xs vs zs : List Int} (h : backOk xs vs zs = true) : ∃ s t : Int, backV xs vs zs = .tuple #[.int .i64 s, .int .i64 t, .bool true] ∧ headB s t = true ∧ (otherOk xs vs (headL vs s t) = true → otherL xs vs (headL vs s t) = plainL zs) ∧ zeroB xs zs = true := by
  have h' := h
  unfold backOk at h'
  rw [Bool.and_eq_true] at h'
  obtain ⟨hp, hz⟩ := h'
  obtain ⟨a, b, c, x, y, z, rfl, rfl, hf, P⟩ := point_pt hp
  obtain ⟨u, v, w, rfl, _, _, _, hq, hn⟩ := zero3 hz
  rw [backV_yes h]
  cases hm : multB [x, y, z] [u, v, w] with
  | true =>
    obtain ⟨s, t, e, hB, bs, bt, hT⟩ := tangent_head P
    have hst := (headB_iff.1 hB).1
    have hl := line_tan P hst hT
    have hzz := (back_mult P).1 hm
    refine ⟨s, t, ?_, hB, fun ho => ?_, hz⟩
    · unfold backL
      rw [if_pos hzz, e]
      rfl
    · unfold otherL
      rw [if_pos ho, hl]
      rcases (mult_plain P.hn P.hp).1 hm with h0 | h0
      · exact absurd h0 hn
      · exact h0.symm
  | false =>
    have hzz : ¬ (atB [x, y, z] [u, v, w] * atA [x, y, z] [x, y, z] - atB [x, y, z] [x, y, z] * atA [x, y, z] [u, v, w] = 0 ∧ atC [u, v, w] * atA [x, y, z] [x, y, z] - atC [x, y, z] * atA [x, y, z] [u, v, w] = 0) := fun h => by
      have := (back_mult P (u := u) (v := v) (w := w)).2 h
      rw [hm] at this; cases this
    obtain ⟨s, t, k, e, hk, e1, e2, hB⟩ := plain2_back hzz
    have hst := (headB_iff.1 hB).1
    refine ⟨s, t, ?_, hB, fun ho => ?_, hz⟩
    · unfold backL
      rw [if_neg hzz, e]
      rfl
    · unfold otherL
      rw [if_pos ho, ← line_to P hq hn hm]
      exact head_par P hst hzz (by rw [e1, e2]; grind)

end Go.Proofs.Ytfjbdbfeolfcfaa

/-! ImpA -/
set_option linter.unusedVariables false
namespace Go.Proofs.Ytfjbdbfeolfcfaa
open Go.RowKit

theorem tdiv_tdiv_nat (n : Int) (a b : Nat) : (n.tdiv (a : Int)).tdiv (b : Int) = n.tdiv ((a * b : Nat) : Int) := by
  rcases Int.natAbs_eq n with h | h
  · rw [h, ← Int.ofNat_tdiv, ← Int.ofNat_tdiv, ← Int.ofNat_tdiv, Nat.div_div_eq_div_mul]
  · rw [h, Int.neg_tdiv, Int.neg_tdiv, Int.neg_tdiv, ← Int.ofNat_tdiv, ← Int.ofNat_tdiv, ← Int.ofNat_tdiv, Nat.div_div_eq_div_mul]
theorem tdiv_step (n : Int) {p : Int} (hp : 2 ≤ p) (i : Nat) : (n.tdiv (p ^ i)).tdiv p = n.tdiv (p ^ (i + 1)) := by
  obtain ⟨P, rfl⟩ := Int.eq_ofNat_of_zero_le (show 0 ≤ p by omega)
  have e : ∀ k, ((P : Int) ^ k) = ((P ^ k : Nat) : Int) := fun k => by push_cast; rfl
  rw [e, e, tdiv_tdiv_nat, Nat.pow_succ]

theorem odd_beq (V : Nat) : ((V : Int) % 2 == 1) = (V % 2 == 1) := by
  rw [Bool.eq_iff_iff, beq_iff_eq, beq_iff_eq]; omega
def clsT (c : Nat × Int) : Value := .agg #[.bool (c.1 == 1), .int .i64 c.2]

end Go.Proofs.Ytfjbdbfeolfcfaa
