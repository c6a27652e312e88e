/-
  Some texts in one file: Con2 Con3 Con4 Con5 WrapW Fm6.
-/
import Derived.Test.YtfjbdbfeolfcfaaQCon
import Derived.Test.YtfjbdbfeolfcfaaQBun0
import Derived.Test.YtfjbdbfeolfcfaaQBun8
/-! Con2 -/
set_option linter.unusedVariables false
namespace Go.Proofs.Ytfjbdbfeolfcfaa
open Go.RowKit

theorem par2_plain {s t u v : Int} (h1 : ¬ (s = 0 ∧ t = 0)) (h2 : ¬ (u = 0 ∧ v = 0)) (h : s * v = t * u) : plainL [s, t] = plainL [u, v] := by
  have key : ∀ k l : Int, k ≠ 0 → l ≠ 0 → k * s = l * u → k * t = l * v → plainL [s, t] = plainL [u, v] := fun k l hk hl e1 e2 => by
    have p1 := plain_scale hk (two_some h1)
    have p2 := plain_scale hl (two_some h2)
    rw [← p1, ← p2]
    simp only [List.map_cons, List.map_nil, e1, e2]
  by_cases hs : s = 0
  · subst hs
    have ht : t ≠ 0 := fun e => h1 ⟨rfl, e⟩
    have hu : u = 0 := ne_cancel (a := t) (by omega) ht
    subst hu
    exact key v t (fun e => h2 ⟨rfl, e⟩) ht (by omega) (Int.mul_comm ..)
  · refine key u s (fun e => ?_) hs (Int.mul_comm ..) (by rw [h, Int.mul_comm])
    subst e
    exact h2 ⟨rfl, ne_cancel (a := s) (by omega) hs⟩
theorem par3_plain {x y z u v w k l : Int} (h1 : ¬ (x = 0 ∧ y = 0 ∧ z = 0)) (h2 : ¬ (u = 0 ∧ v = 0 ∧ w = 0)) (hk : k ≠ 0) (hl : l ≠ 0) (e1 : k * x = l * u) (e2 : k * y = l * v) (e3 : k * z = l * w) : plainL [x, y, z] = plainL [u, v, w] := by
  have p1 := plain_scale hk (some3 h1)
  have p2 := plain_scale hl (some3 h2)
  rw [← p1, ← p2]
  simp only [List.map_cons, List.map_nil, e1, e2, e3]
/-- back from what a heading meets, told by the integers at the axis and at the two other places -/
theorem back_core {cB cC vA vB vC s t k zA zB zC : Int} (hA : vA ≠ 0) (hst : ¬ (s = 0 ∧ t = 0)) (hk : k ≠ 0) (eA : k * zA = (cB * s * s + cC * t * t) * vA) (eB : k * zB = (cB * s * s + cC * t * t) * vB - 2 * (cB * vB * s + cC * vC * t) * s)
    (eC : k * zC = (cB * s * s + cC * t * t) * vC - 2 * (cB * vB * s + cC * vC * t) * t) (hT : ¬ (cC * vC = 0 ∧ -(cB * vB) = 0)) :
    plainL (if zB * vA - vB * zA = 0 ∧ zC * vA - vC * zA = 0 then [cC * vC, -(cB * vB)] else [zB * vA - vB * zA, zC * vA - vC * zA]) = plainL [s, t] := by
  obtain ⟨p, hp⟩ : ∃ p, p = cB * vB * s + cC * vC * t := ⟨_, rfl⟩
  obtain ⟨q, hq⟩ : ∃ q, q = cB * s * s + cC * t * t := ⟨_, rfl⟩
  rw [← hq] at eA eB eC
  rw [← hp] at eB eC
  have k1 : k * (zB * vA - vB * zA) = -2 * p * s * vA := by grobner
  have k2 : k * (zC * vA - vC * zA) = -2 * p * t * vA := by grobner
  by_cases hz : zB * vA - vB * zA = 0 ∧ zC * vA - vC * zA = 0
  · rw [if_pos hz]
    have hp0 : p = 0 := by
      rw [hz.1] at k1
      rw [hz.2] at k2
      by_cases hs : s = 0
      · have ht : t ≠ 0 := fun e => hst ⟨hs, e⟩
        refine ne_cancel (a := t * vA) ?_ (Int.mul_ne_zero ht hA)
        grind
      · refine ne_cancel (a := s * vA) ?_ (Int.mul_ne_zero hs hA)
        grind
    refine par2_plain hT hst ?_
    grind
  · rw [if_neg hz]
    refine par2_plain hz hst ?_
    have e : k * ((zB * vA - vB * zA) * t - (zC * vA - vC * zA) * s) = 0 := by grind
    have := ne_cancel e hk
    omega
theorem tangent_ne {a b c x y z : Int} (P : Pt a b c x y z) : ¬ (atC [a, b, c] * atC [x, y, z] = 0 ∧ -(atB [x, y, z] [a, b, c] * atB [x, y, z] [x, y, z]) = 0) := by
  rintro ⟨h1, h2⟩
  obtain ⟨v, hv, h0⟩ := tangent_some P
  simp only [List.mem_cons, List.not_mem_nil, or_false] at hv
  rcases hv with rfl | rfl
  · exact h0 h1
  · exact h0 h2
/-- a plain vector, times what it was divided by -/
theorem plain3_back {u v w : Int} (h : ¬ (u = 0 ∧ v = 0 ∧ w = 0)) : ∃ k x y z : Int, k ≠ 0 ∧ plainL [u, v, w] = [x, y, z] ∧ k * x = u ∧ k * y = v ∧ k * z = w ∧ ¬ (x = 0 ∧ y = 0 ∧ z = 0) := by
  obtain ⟨x, y, z, e⟩ := len3 (show (plainL [u, v, w]).length = 3 from plainL_len _)
  have hb := plain_back [u, v, w]
  have hk := sg_ne (some3 h)
  obtain ⟨k, ek⟩ : ∃ k, k = signL [u, v, w] * (gcdL [u, v, w] : Int) := ⟨_, rfl⟩
  rw [← ek, e, scale3] at hb
  rw [← ek] at hk
  simp only [List.cons.injEq, and_true] at hb
  refine ⟨k, x, y, z, hk, e, hb.1, hb.2.1, hb.2.2, ?_⟩
  rintro ⟨rfl, rfl, rfl⟩
  exact h ⟨by rw [← hb.1, Int.mul_zero], by rw [← hb.2.1, Int.mul_zero], by rw [← hb.2.2, Int.mul_zero]⟩
theorem head_mult {a b c x y z s t : Int} (P : Pt a b c x y z) : multB [x, y, z] (headL [x, y, z] s t) = decide (s = 0 ∧ t = 0) := by
  rw [Bool.eq_iff_iff, decide_eq_true_eq]
  unfold headL
  have hax := axis_ne P
  unfold atA at hax
  simp only [List.getD_cons_zero, List.getD_cons_succ] at hax ⊢
  by_cases hx : x = 0
  · subst hx
    simp only [if_true] at hax ⊢
    rw [multB_iff]
    constructor
    · rintro ⟨h1, h2, h3⟩
      exact ⟨ne_cancel (a := y) (by omega) hax, ne_cancel (a := y) (by omega) hax⟩
    · rintro ⟨rfl, rfl⟩; exact ⟨by omega, by omega, by omega⟩
  · simp only [if_neg hx] at hax ⊢
    rw [multB_iff]
    constructor
    · rintro ⟨h1, h2, h3⟩
      exact ⟨ne_cancel (a := x) (by omega) hax, ne_cancel (a := x) (by omega) hax⟩
    · rintro ⟨rfl, rfl⟩; exact ⟨by omega, by omega, by omega⟩
theorem line_ne2 {a b c x y z : Int} {ws : List Int} (P : Pt a b c x y z) (hl : ws.length = 3) (hm : multB [x, y, z] ws = false) : ∃ p q r, lineL [a, b, c] [x, y, z] ws = [p, q, r] ∧ ¬ (p = 0 ∧ q = 0 ∧ r = 0) := by
  obtain ⟨u, v, w, rfl⟩ := len3 hl
  exact ⟨_, _, _, line3 .., line_ne P.ha.1 P.hb.1 P.hc.1 P.h0 P.hn (notmult hm)⟩
/-- a heading is read back -/
theorem at_back {a b c x y z s t : Int} (P : Pt a b c x y z) (hst : ¬ (s = 0 ∧ t = 0)) : backL [a, b, c] [x, y, z] (plainL (lineL [a, b, c] [x, y, z] (headL [x, y, z] s t))) = plainL [s, t] := by
  have hm : multB [x, y, z] (headL [x, y, z] s t) = false := by rw [head_mult P, decide_eq_false hst]
  have hax := axis_ne P
  have hT := tangent_ne P
  have h0 := P.h0
  unfold headL at hm ⊢
  unfold backL
  unfold atA atB atC at *
  simp only [List.getD_cons_zero, List.getD_cons_succ] at *
  by_cases hx : x = 0
  · subst hx
    simp only [if_true] at *
    obtain ⟨p, q, r, e, hn⟩ := line_ne2 P rfl hm
    rw [e]
    obtain ⟨k, x', y', z', hk, e2, k1, k2, k3, _⟩ := plain3_back hn
    rw [e2]
    rw [line3] at e
    simp only [List.cons.injEq, and_true] at e
    simp only [List.getD_cons_zero, List.getD_cons_succ]
    unfold q3 p3 at e
    exact back_core (cB := a) (cC := c) hax hst hk (by rw [k2, ← e.2.1]; grind) (by rw [k1, ← e.1]; grind) (by rw [k3, ← e.2.2]; grind) hT
  · simp only [if_neg hx] at *
    obtain ⟨p, q, r, e, hn⟩ := line_ne2 P rfl hm
    rw [e]
    obtain ⟨k, x', y', z', hk, e2, k1, k2, k3, _⟩ := plain3_back hn
    rw [e2]
    rw [line3] at e
    simp only [List.cons.injEq, and_true] at e
    simp only [List.getD_cons_zero, List.getD_cons_succ]
    unfold q3 p3 at e
    exact back_core (cB := b) (cC := c) hax hst hk (by rw [k1, ← e.1]; grind) (by rw [k2, ← e.2.1]; grind) (by rw [k3, ← e.2.2]; grind) hT

end Go.Proofs.Ytfjbdbfeolfcfaa

/-! Con3 -/
set_option linter.unusedVariables false
namespace Go.Proofs.Ytfjbdbfeolfcfaa
open Go.RowKit

/-- multiples of a direction meet the same zero -/
theorem line_par {a b c x y z u v w u' v' w' k l : Int} (P : Pt a b c x y z) (hk : k ≠ 0) (hl : l ≠ 0) (e1 : k * u = l * u') (e2 : k * v = l * v') (e3 : k * w = l * w') (hm : multB [x, y, z] [u, v, w] = false) (hm' : multB [x, y, z] [u', v', w'] = false) :
    plainL (lineL [a, b, c] [x, y, z] [u, v, w]) = plainL (lineL [a, b, c] [x, y, z] [u', v', w']) := by
  have n1 := line_ne (u := u) (v := v) (w := w) P.ha.1 P.hb.1 P.hc.1 P.h0 P.hn (notmult hm)
  have n2 := line_ne (u := u') (v := v') (w := w') P.ha.1 P.hb.1 P.hc.1 P.h0 P.hn (notmult hm')
  rw [line3, line3]
  have hq : k * k * q3 a b c u v w = l * l * q3 a b c u' v' w' := by
    unfold q3
    have : k * k * (a * u * u + b * v * v + c * w * w) = a * (k * u) * (k * u) + b * (k * v) * (k * v) + c * (k * w) * (k * w) := by grind
    rw [this, e1, e2, e3]
    grind
  have hp : k * p3 a b c x y z u v w = l * p3 a b c x y z u' v' w' := by
    unfold p3
    have : k * (a * x * u + b * y * v + c * z * w) = a * x * (k * u) + b * y * (k * v) + c * z * (k * w) := by grind
    rw [this, e1, e2, e3]
    grind
  obtain ⟨q, hqe⟩ : ∃ q, q = q3 a b c u v w := ⟨_, rfl⟩
  obtain ⟨q', hqe'⟩ : ∃ q, q = q3 a b c u' v' w' := ⟨_, rfl⟩
  obtain ⟨p, hpe⟩ : ∃ p, p = p3 a b c x y z u v w := ⟨_, rfl⟩
  obtain ⟨p', hpe'⟩ : ∃ p, p = p3 a b c x y z u' v' w' := ⟨_, rfl⟩
  rw [← hqe, ← hpe] at n1 ⊢
  rw [← hqe', ← hpe'] at n2 ⊢
  rw [← hqe, ← hqe'] at hq
  rw [← hpe, ← hpe'] at hp
  have key : ∀ X U U' : Int, k * U = l * U' → k * k * (q * X - 2 * p * U) = l * l * (q' * X - 2 * p' * U') := fun X U U' h => by
    have f1 : k * k * (q * X - 2 * p * U) = (k * k * q) * X - 2 * (k * p) * (k * U) := by grind
    rw [f1, hq, hp, h]
    grind
  exact par3_plain n1 n2 (Int.mul_ne_zero hk hk) (Int.mul_ne_zero hl hl) (key _ _ _ e1) (key _ _ _ e2) (key _ _ _ e3)
theorem par_factors {s t u v : Int} (h1 : ¬ (s = 0 ∧ t = 0)) (h2 : ¬ (u = 0 ∧ v = 0)) (h : s * v = t * u) : ∃ k l : Int, k ≠ 0 ∧ l ≠ 0 ∧ k * s = l * u ∧ k * t = l * v := by
  by_cases hs : s = 0
  · subst hs
    have ht : t ≠ 0 := fun e => h1 ⟨rfl, e⟩
    have hu : u = 0 := ne_cancel (a := t) (by omega) ht
    subst hu
    exact ⟨v, t, fun e => h2 ⟨rfl, e⟩, ht, by omega, Int.mul_comm ..⟩
  · refine ⟨u, s, fun e => ?_, hs, Int.mul_comm .., by rw [h, Int.mul_comm]⟩
    subst e
    exact h2 ⟨rfl, ne_cancel (a := s) (by omega) hs⟩
/-- headings that are multiples meet the same zero -/
theorem head_par {a b c x y z s t u v : Int} (P : Pt a b c x y z) (h1 : ¬ (s = 0 ∧ t = 0)) (h2 : ¬ (u = 0 ∧ v = 0)) (h : s * v = t * u) :
    plainL (lineL [a, b, c] [x, y, z] (headL [x, y, z] s t)) = plainL (lineL [a, b, c] [x, y, z] (headL [x, y, z] u v)) := by
  have m1 : multB [x, y, z] (headL [x, y, z] s t) = false := by rw [head_mult P, decide_eq_false h1]
  have m2 : multB [x, y, z] (headL [x, y, z] u v) = false := by rw [head_mult P, decide_eq_false h2]
  obtain ⟨k, l, hk, hl, e1, e2⟩ := par_factors h1 h2 h
  unfold headL at m1 m2 ⊢
  simp only [List.getD_cons_zero] at *
  by_cases hx : x = 0
  · rw [if_pos hx] at m1 m2 ⊢
    rw [if_pos hx]
    exact line_par P hk hl e1 (by omega) e2 m1 m2
  · rw [if_neg hx] at m1 m2 ⊢
    rw [if_neg hx]
    exact line_par P hk hl (by omega) e1 e2 m1 m2
theorem zero_core {cA cB cC vA vB vC zA zB zC : Int} (h0 : cA * vA * vA + cB * vB * vB + cC * vC * vC = 0) (h1 : cA * zA * zA + cB * zB * zB + cC * zC * zC = 0) :
    cB * (zB * vA - vB * zA) * (zB * vA - vB * zA) + cC * (zC * vA - vC * zA) * (zC * vA - vC * zA) = -2 * vA * zA * (cA * vA * zA + cB * vB * zB + cC * vC * zC) ∧
    cB * vB * (zB * vA - vB * zA) + cC * vC * (zC * vA - vC * zA) = vA * (cA * vA * zA + cB * vB * zB + cC * vC * zC) := by
  constructor
  · have e : cB * (zB * vA - vB * zA) * (zB * vA - vB * zA) + cC * (zC * vA - vC * zA) * (zC * vA - vC * zA) = vA * vA * (cB * zB * zB + cC * zC * zC) - 2 * vA * zA * (cB * vB * zB + cC * vC * zC) + zA * zA * (cB * vB * vB + cC * vC * vC) := by grind
    have f1 : cB * zB * zB + cC * zC * zC = -(cA * zA * zA) := by omega
    have f2 : cB * vB * vB + cC * vC * vC = -(cA * vA * vA) := by omega
    rw [e, f1, f2]
    grind
  · have e : cB * vB * (zB * vA - vB * zA) + cC * vC * (zC * vA - vC * zA) = vA * (cB * vB * zB + cC * vC * zC) - zA * (cB * vB * vB + cC * vC * vC) := by grind
    have f2 : cB * vB * vB + cC * vC * vC = -(cA * vA * vA) := by omega
    rw [e, f2]
    grind
/-- a zero that is no multiple of the point is met by the heading that leads to it -/
theorem line_to {a b c x y z u v w : Int} (P : Pt a b c x y z) (hz : q3 a b c u v w = 0) (hn : ¬ (u = 0 ∧ v = 0 ∧ w = 0)) (hm : multB [x, y, z] [u, v, w] = false) :
    plainL (lineL [a, b, c] [x, y, z] (headL [x, y, z] (atB [x, y, z] [u, v, w] * atA [x, y, z] [x, y, z] - atB [x, y, z] [x, y, z] * atA [x, y, z] [u, v, w]) (atC [u, v, w] * atA [x, y, z] [x, y, z] - atC [x, y, z] * atA [x, y, z] [u, v, w]))) = plainL [u, v, w] := by
  have hax := axis_ne P
  have hp := zeros_ne P.ha.1 P.hb.1 P.hc.1 P.h0 hz (notmult hm)
  have hD : ¬ (atB [x, y, z] [u, v, w] * atA [x, y, z] [x, y, z] - atB [x, y, z] [x, y, z] * atA [x, y, z] [u, v, w] = 0 ∧ atC [u, v, w] * atA [x, y, z] [x, y, z] - atC [x, y, z] * atA [x, y, z] [u, v, w] = 0) := fun h => by
    have := (back_mult P).2 h
    rw [hm] at this; cases this
  have m1 := head_mult (s := atB [x, y, z] [u, v, w] * atA [x, y, z] [x, y, z] - atB [x, y, z] [x, y, z] * atA [x, y, z] [u, v, w]) (t := atC [u, v, w] * atA [x, y, z] [x, y, z] - atC [x, y, z] * atA [x, y, z] [u, v, w]) P
  rw [decide_eq_false hD] at m1
  have h0 := P.h0
  unfold headL at m1 ⊢
  unfold atA atB atC at *
  simp only [List.getD_cons_zero, List.getD_cons_succ] at *
  by_cases hx : x = 0
  · simp only [if_pos hx] at *
    have n1 := line_ne P.ha.1 P.hb.1 P.hc.1 P.h0 P.hn (notmult m1)
    obtain ⟨c1, c2⟩ := zero_core (cA := b) (cB := a) (cC := c) (vA := y) (vB := x) (vC := z) (zA := v) (zB := u) (zC := w) (by unfold q3 at h0; omega) (by unfold q3 at hz; omega)
    rw [line3]
    unfold q3 p3 at *
    obtain ⟨p, hpe⟩ : ∃ p, p = b * y * v + a * x * u + c * z * w := ⟨_, rfl⟩
    rw [← hpe] at c1 c2
    have p0 : p ≠ 0 := by omega
    refine par3_plain n1 hn (k := 1) (l := -2 * y * y * p) (by decide) (Int.mul_ne_zero (Int.mul_ne_zero (Int.mul_ne_zero (by decide) hax) hax) p0) ?_ ?_ ?_ <;> grind
  · simp only [if_neg hx] at *
    have n1 := line_ne P.ha.1 P.hb.1 P.hc.1 P.h0 P.hn (notmult m1)
    obtain ⟨c1, c2⟩ := zero_core (cA := a) (cB := b) (cC := c) (vA := x) (vB := y) (vC := z) (zA := u) (zB := v) (zC := w) (by unfold q3 at h0; omega) (by unfold q3 at hz; omega)
    rw [line3]
    unfold q3 p3 at *
    obtain ⟨p, hpe⟩ : ∃ p, p = a * x * u + b * y * v + c * z * w := ⟨_, rfl⟩
    rw [← hpe] at c1 c2
    have p0 : p ≠ 0 := by omega
    refine par3_plain n1 hn (k := 1) (l := -2 * x * x * p) (by decide) (Int.mul_ne_zero (Int.mul_ne_zero (Int.mul_ne_zero (by decide) hax) hax) p0) ?_ ?_ ?_ <;> grind
theorem tan_core {x y z u v w q : Int} (hn : ¬ (x = 0 ∧ y = 0 ∧ z = 0)) (hp : plainL [x, y, z] = [x, y, z]) (n1 : ¬ (q * x - 2 * 0 * u = 0 ∧ q * y - 2 * 0 * v = 0 ∧ q * z - 2 * 0 * w = 0)) : plainL [q * x - 2 * 0 * u, q * y - 2 * 0 * v, q * z - 2 * 0 * w] = [x, y, z] := by
  have q0 : q ≠ 0 := fun e => n1 (by subst e; exact ⟨by omega, by omega, by omega⟩)
  have h := par3_plain n1 hn (k := 1) (l := q) (by decide) q0 (by omega) (by omega) (by omega)
  rw [h, hp]
/-- the tangent meets the point again -/
theorem line_tan {a b c x y z s t : Int} (P : Pt a b c x y z) (hst : ¬ (s = 0 ∧ t = 0)) (h : s * -(atB [x, y, z] [a, b, c] * atB [x, y, z] [x, y, z]) = t * (atC [a, b, c] * atC [x, y, z])) :
    plainL (lineL [a, b, c] [x, y, z] (headL [x, y, z] s t)) = [x, y, z] := by
  have m1 : multB [x, y, z] (headL [x, y, z] s t) = false := by rw [head_mult P, decide_eq_false hst]
  unfold headL at m1 ⊢
  unfold atB atC at h
  simp only [List.getD_cons_zero, List.getD_cons_succ] at *
  by_cases hx : x = 0
  · simp only [if_pos hx] at *
    have n1 := line_ne P.ha.1 P.hb.1 P.hc.1 P.h0 P.hn (notmult m1)
    have p0 : p3 a b c x y z s 0 t = 0 := by unfold p3; grind
    rw [line3]
    rw [p0] at n1 ⊢
    exact tan_core P.hn P.hp n1
  · simp only [if_neg hx] at *
    have n1 := line_ne P.ha.1 P.hb.1 P.hc.1 P.h0 P.hn (notmult m1)
    have p0 : p3 a b c x y z 0 s t = 0 := by unfold p3; grind
    rw [line3]
    rw [p0] at n1 ⊢
    exact tan_core P.hn P.hp n1
/-- the point, the direction and the other zero are of one plane -/
theorem line_det {a b c x y z u v w p q r : Int} (P : Pt a b c x y z) (hm : multB [x, y, z] [u, v, w] = false) (he : plainL (lineL [a, b, c] [x, y, z] [u, v, w]) = [p, q, r]) :
    x * (v * r - w * q) + y * (w * p - u * r) + z * (u * q - v * p) = 0 := by
  have n1 := line_ne (u := u) (v := v) (w := w) P.ha.1 P.hb.1 P.hc.1 P.h0 P.hn (notmult hm)
  rw [line3] at he
  obtain ⟨k, p', q', r', hk, e, k1, k2, k3, _⟩ := plain3_back n1
  rw [e] at he
  simp only [List.cons.injEq, and_true] at he
  obtain ⟨rfl, rfl, rfl⟩ := he
  obtain ⟨Q, hQ⟩ : ∃ Q, Q = q3 a b c u v w := ⟨_, rfl⟩
  obtain ⟨R, hR⟩ : ∃ R, R = p3 a b c x y z u v w := ⟨_, rfl⟩
  rw [← hQ, ← hR] at k1 k2 k3
  refine ne_cancel (a := k) ?_ hk
  have f : k * (x * (v * r' - w * q') + y * (w * p' - u * r') + z * (u * q' - v * p')) = x * (v * (k * r') - w * (k * q')) + y * (w * (k * p') - u * (k * r')) + z * (u * (k * q') - v * (k * p')) := by grind
  rw [f, k1, k2, k3]
  grind

end Go.Proofs.Ytfjbdbfeolfcfaa

/-! Con4 -/
set_option linter.unusedVariables false
namespace Go.Proofs.Ytfjbdbfeolfcfaa
open Go.RowKit

/-- is it a plain heading? -/
def headB (s t : Int) : Bool := !decide (s = 0 ∧ t = 0) && decide (plainL [s, t] = [s, t])
theorem headB_iff {s t : Int} : headB s t = true ↔ ¬ (s = 0 ∧ t = 0) ∧ plainL [s, t] = [s, t] := by
  unfold headB
  rw [Bool.and_eq_true, Bool.not_eq_true', decide_eq_false_iff_not, decide_eq_true_eq]
/-- does a plain heading meet a zero? -/
def metB (xs vs : List Int) (s t : Int) : Bool := headB s t && otherOk xs vs (headL vs s t)
theorem metB_iff {xs vs : List Int} {s t : Int} : metB xs vs s t = true ↔ headB s t = true ∧ otherOk xs vs (headL vs s t) = true := by unfold metB; rw [Bool.and_eq_true]
/-- how many of the first k in a row, and how many in the first S rows -/
def rowC (f : Int → Int → Bool) (n : Int) (s : Int) (k : Nat) : Nat := (List.range k).countP (fun j : Nat => f s ((j : Int) - n))
def allC (f : Int → Int → Bool) (n : Nat) : Nat → Nat
  | 0 => 0
  | S + 1 => allC f n S + rowC f (n : Int) (S : Int) (2 * n + 1)
theorem rowC_zero (f : Int → Int → Bool) (n s : Int) : rowC f n s 0 = 0 := rfl
theorem rowC_succ (f : Int → Int → Bool) (n s : Int) (k : Nat) : rowC f n s (k + 1) = rowC f n s k + if f s ((k : Int) - n) then 1 else 0 := by
  unfold rowC
  rw [List.range_succ, List.countP_append]
  simp [List.countP_cons]
theorem rowC_le (f : Int → Int → Bool) (n s : Int) (k : Nat) : rowC f n s k ≤ k := by
  unfold rowC
  have := List.countP_le_length (p := fun j : Nat => f s ((j : Int) - n)) (l := List.range k)
  rwa [List.length_range] at this
theorem allC_le (f : Int → Int → Bool) (n : Nat) : ∀ S, allC f n S ≤ S * (2 * n + 1)
  | 0 => Nat.zero_le _
  | S + 1 => by
    have := allC_le f n S
    have h2 := rowC_le f (n : Int) (S : Int) (2 * n + 1)
    unfold allC
    have e : (S + 1) * (2 * n + 1) = S * (2 * n + 1) + (2 * n + 1) := Nat.succ_mul ..
    rw [e]
    omega
theorem rowC_more (f : Int → Int → Bool) (n s : Int) : ∀ k, rowC f n s k ≤ rowC f (n + 1) s (k + 1)
  | 0 => Nat.zero_le _
  | k + 1 => by
    have := rowC_more f n s k
    rw [rowC_succ, rowC_succ (n := n + 1)]
    have e : ((k + 1 : Nat) : Int) - (n + 1) = (k : Int) - n := by omega
    rw [e]
    omega
theorem rowC_mono (f : Int → Int → Bool) (n s : Int) {k l : Nat} (h : k ≤ l) : rowC f n s k ≤ rowC f n s l := by
  induction h with
  | refl => exact Nat.le_refl _
  | step _ ih => rw [rowC_succ]; omega
theorem allC_more (f : Int → Int → Bool) (n : Nat) : ∀ S, allC f n S ≤ allC f (n + 1) S
  | 0 => Nat.le_refl _
  | S + 1 => by
    have h1 := allC_more f n S
    have h2 := rowC_more f (n : Int) (S : Int) (2 * n + 1)
    have h3 := rowC_mono f ((n : Int) + 1) (S : Int) (show 2 * n + 1 + 1 ≤ 2 * (n + 1) + 1 by omega)
    unfold allC
    push_cast
    omega
theorem allC_step (f : Int → Int → Bool) (n : Nat) : allC f n (n + 1) ≤ allC f (n + 1) (n + 1 + 1) := by
  have h1 := allC_more f n (n + 1)
  have h2 : allC f (n + 1) (n + 1) ≤ allC f (n + 1) (n + 1 + 1) := by
    conv => rhs; unfold allC
    omega
  omega
theorem rowC_impl {f g : Int → Int → Bool} (h : ∀ s t, f s t = true → g s t = true) (n s : Int) (k : Nat) : rowC f n s k ≤ rowC g n s k := by
  unfold rowC
  exact List.countP_mono_left fun j _ hj => h _ _ hj
theorem allC_impl {f g : Int → Int → Bool} (h : ∀ s t, f s t = true → g s t = true) (n : Nat) : ∀ S, allC f n S ≤ allC g n S
  | 0 => Nat.le_refl _
  | S + 1 => by
    have h1 := allC_impl h n S
    have h2 := rowC_impl h (n : Int) (S : Int) (2 * n + 1)
    unfold allC
    omega
/-- what is met tells the heading -/
theorem met_inj {xs vs : List Int} {s t u v : Int} (h1 : metB xs vs s t = true) (h2 : metB xs vs u v = true) (h : otherL xs vs (headL vs s t) = otherL xs vs (headL vs u v)) : s = u ∧ t = v := by
  obtain ⟨a1, a2⟩ := metB_iff.1 h1
  obtain ⟨b1, b2⟩ := metB_iff.1 h2
  unfold otherL at h
  rw [if_pos a2, if_pos b2] at h
  have hp : pointB xs vs = true := by unfold otherOk at a2; rw [Bool.and_eq_true] at a2; exact a2.1
  obtain ⟨a, b, c, x, y, z, rfl, rfl, _, P⟩ := point_pt hp
  obtain ⟨c1, c2⟩ := headB_iff.1 a1
  obtain ⟨d1, d2⟩ := headB_iff.1 b1
  have k1 := at_back P c1
  have k2 := at_back P d1
  rw [h, k2, c2, d2] at k1
  simp only [List.cons.injEq, and_true] at k1
  exact ⟨k1.1.symm, k1.2.symm⟩
/-- each heading that meets a zero is a multiple of a plain one that meets it -/
theorem head_plain {s t : Int} (h : ¬ (s = 0 ∧ t = 0)) : ∃ u v k : Int, plainL [s, t] = [u, v] ∧ k ≠ 0 ∧ s = k * u ∧ t = k * v ∧ headB u v = true ∧ 0 ≤ u := by
  obtain ⟨u, v, e⟩ : ∃ u v, plainL [s, t] = [u, v] := by
    match hq : plainL [s, t], plainL_len [s, t] with
    | [u, v], _ => exact ⟨u, v, rfl⟩
  have hb := plain_back [s, t]
  have hk := sg_ne (two_some h)
  obtain ⟨k, ek⟩ : ∃ k, k = signL [s, t] * (gcdL [s, t] : Int) := ⟨_, rfl⟩
  rw [← ek, e] at hb
  rw [← ek] at hk
  simp only [List.map_cons, List.map_nil, List.cons.injEq, and_true] at hb
  have hpp := plain_plain (two_some h)
  rw [e] at hpp
  have hn : ¬ (u = 0 ∧ v = 0) := by
    rintro ⟨rfl, rfl⟩
    exact h ⟨by rw [← hb.1, Int.mul_zero], by rw [← hb.2, Int.mul_zero]⟩
  refine ⟨u, v, k, e, hk, hb.1.symm, hb.2.symm, headB_iff.2 ⟨hn, hpp⟩, ?_⟩
  refine Classical.byContradiction fun hu => ?_
  have hs : signL [u, v] = -1 := by
    unfold signL
    rw [if_neg (by omega), if_pos (by omega)]
  have hm : plainL [u, v] = [u, v] := hpp
  unfold plainL at hm
  rw [hs] at hm
  simp only [List.map_cons, List.map_nil, List.cons.injEq, and_true] at hm
  have hg := gcdL_pos (vs := [u, v]) (two_some hn)
  have h0 : 0 ≤ (-1 * u).tdiv (gcdL [u, v] : Int) := Int.tdiv_nonneg (by omega) (by omega)
  omega
/-- plain headings are first ones of their lines -/
theorem headB_pos {s t : Int} (h : headB s t = true) : 0 ≤ s ∧ (s = 0 → 0 < t) := by
  obtain ⟨h1, h2⟩ := headB_iff.1 h
  obtain ⟨u, v, k, e, _, _, _, _, hu⟩ := head_plain h1
  rw [h2] at e
  simp only [List.cons.injEq, and_true] at e
  obtain ⟨rfl, rfl⟩ := e
  refine ⟨hu, fun h0 => ?_⟩
  subst h0
  refine Classical.byContradiction fun ht => ?_
  have ht0 : t < 0 := by have : t ≠ 0 := fun e => h1 ⟨rfl, e⟩; omega
  have hs : signL [0, t] = -1 := by
    unfold signL
    rw [if_pos rfl]
    unfold signL
    rw [if_neg (by omega), if_pos ht0]
  unfold plainL at h2
  rw [hs] at h2
  simp only [List.map_cons, List.map_nil, List.cons.injEq, and_true] at h2
  have hg := gcdL_pos (vs := [0, t]) (two_some h1)
  have h0 : 0 ≤ (-1 * t).tdiv (gcdL [0, t] : Int) := Int.tdiv_nonneg (by omega) (by omega)
  omega
theorem abs_less {k u : Int} {n : Int} (hk : k ≠ 0) (h1 : -n ≤ k * u) (h2 : k * u ≤ n) : -n ≤ u ∧ u ≤ n := by
  have h := Int.natAbs_mul k u
  have hk1 : 1 ≤ k.natAbs := by omega
  have hm : u.natAbs ≤ k.natAbs * u.natAbs := Nat.le_mul_of_pos_left _ hk1
  rw [← h] at hm
  omega
theorem head_vec {xs vs : List Int} {s t : Int} (h : otherOk xs vs (headL vs s t) = true) : fvB xs = true ∧ xs.length = 3 ∧ vs.length = 3 := by
  unfold otherOk at h
  rw [Bool.and_eq_true] at h
  obtain ⟨a, b, c, x, y, z, rfl, rfl, hf, P⟩ := point_pt h.1
  exact ⟨hf, rfl, rfl⟩
theorem head_mem {vs : List Int} {s t v : Int} (h : v ∈ headL vs s t) : v = s ∨ v = 0 ∨ v = t := by
  unfold headL at h
  split at h <;> simp only [List.mem_cons, List.not_mem_nil, or_false] at h <;> omega
theorem head_len (vs : List Int) (s t : Int) : (headL vs s t).length = 3 := by unfold headL; split <;> rfl
/-- a heading and the plain one of its line meet the same -/
theorem met_plain {xs vs : List Int} {s t n : Int} (hn : n ≤ 20) (hs : -n ≤ s ∧ s ≤ n) (ht : -n ≤ t ∧ t ≤ n) (h : otherOk xs vs (headL vs s t) = true) :
    ∃ u v : Int, metB xs vs u v = true ∧ otherL xs vs (headL vs u v) = otherL xs vs (headL vs s t) ∧ (0 ≤ u ∧ u ≤ n) ∧ (-n ≤ v ∧ v ≤ n) := by
  obtain ⟨hf, hx3, hv3⟩ := head_vec h
  have h' := h
  unfold otherOk at h'
  rw [Bool.and_eq_true, Bool.and_eq_true, Bool.and_eq_true, Bool.not_eq_true'] at h'
  obtain ⟨hp, hw, hm, hh⟩ := h'
  obtain ⟨a, b, c, x, y, z, rfl, rfl, _, P⟩ := point_pt hp
  rw [head_mult P, decide_eq_false_iff_not] at hm
  obtain ⟨u, v, k, e, hk, es, et, hB, hu⟩ := head_plain hm
  obtain ⟨hB1, hB2⟩ := headB_iff.1 hB
  have bu := abs_less (u := u) (n := n) hk (by rw [← es]; exact hs.1) (by rw [← es]; exact hs.2)
  have bv := abs_less (u := v) (n := n) hk (by rw [← et]; exact ht.1) (by rw [← et]; exact ht.2)
  have hl := head_par P hB1 hm (by rw [es, et]; grind)
  have ho : otherOk [a, b, c] [x, y, z] (headL [x, y, z] u v) = true := by
    unfold otherOk
    rw [Bool.and_eq_true, Bool.and_eq_true, Bool.and_eq_true, Bool.not_eq_true']
    refine ⟨hp, vecB_iff.2 ⟨fun q hq => ?_, hf, head_len ..⟩, ?_, ?_⟩
    · rcases head_mem hq with rfl | rfl | rfl <;> omega
    · rw [head_mult P, decide_eq_false_iff_not]; exact hB1
    · rw [hl]; exact hh
  refine ⟨u, v, metB_iff.2 ⟨hB, ho⟩, ?_, ⟨hu, bu.2⟩, bv⟩
  unfold otherL
  rw [if_pos h, if_pos ho, hl]

end Go.Proofs.Ytfjbdbfeolfcfaa

/-! Con5 -/
set_option linter.unusedVariables false
namespace Go.Proofs.Ytfjbdbfeolfcfaa
open Go.RowKit

def rowZ (f : Int → Int → Bool) (g : Int → Int → List Int) (n s : Int) : Nat → List (List Int)
  | 0 => []
  | k + 1 => rowZ f g n s k ++ (if f s ((k : Int) - n) then [g s ((k : Int) - n)] else [])
def allZ (f : Int → Int → Bool) (g : Int → Int → List Int) (n : Nat) : Nat → List (List Int)
  | 0 => []
  | S + 1 => allZ f g n S ++ rowZ f g (n : Int) (S : Int) (2 * n + 1)
theorem rowZ_len (f : Int → Int → Bool) (g : Int → Int → List Int) (n s : Int) : ∀ k, (rowZ f g n s k).length = rowC f n s k
  | 0 => rfl
  | k + 1 => by
    have ih := rowZ_len f g n s k
    rw [rowC_succ, ← ih]
    show (rowZ f g n s k ++ (if f s ((k : Int) - n) then [g s ((k : Int) - n)] else [])).length = _
    rw [List.length_append]
    split <;> simp
theorem allZ_len (f : Int → Int → Bool) (g : Int → Int → List Int) (n : Nat) : ∀ S, (allZ f g n S).length = allC f n S
  | 0 => rfl
  | S + 1 => by
    unfold allZ allC
    rw [List.length_append, allZ_len f g n S, rowZ_len]
theorem rowZ_mem {f : Int → Int → Bool} {g : Int → Int → List Int} {n s : Int} {z : List Int} : ∀ {k : Nat}, z ∈ rowZ f g n s k ↔ ∃ j : Nat, j < k ∧ f s ((j : Int) - n) = true ∧ z = g s ((j : Int) - n)
  | 0 => by simp [rowZ]
  | k + 1 => by
    unfold rowZ
    rw [List.mem_append, rowZ_mem]
    constructor
    · rintro (⟨j, hj, h⟩ | h)
      · exact ⟨j, by omega, h⟩
      · split at h
        · next hf => exact ⟨k, by omega, hf, by simpa using h⟩
        · cases h
    · rintro ⟨j, hj, hf, h⟩
      by_cases e : j = k
      · right
        subst e
        rw [if_pos hf, h]; simp
      · exact .inl ⟨j, by omega, hf, h⟩
theorem allZ_mem {f : Int → Int → Bool} {g : Int → Int → List Int} {n : Nat} {z : List Int} : ∀ {S : Nat}, z ∈ allZ f g n S ↔ ∃ s j : Nat, s < S ∧ j < 2 * n + 1 ∧ f (s : Int) ((j : Int) - n) = true ∧ z = g (s : Int) ((j : Int) - n)
  | 0 => by simp [allZ]
  | S + 1 => by
    unfold allZ
    rw [List.mem_append, allZ_mem, rowZ_mem]
    constructor
    · rintro (⟨s, j, h1, h2⟩ | ⟨j, h1, h2⟩)
      · exact ⟨s, j, by omega, h2⟩
      · exact ⟨S, j, by omega, h1, h2⟩
    · rintro ⟨s, j, h1, h2⟩
      by_cases e : s = S
      · right
        subst e
        exact ⟨j, h2⟩
      · exact .inl ⟨s, j, by omega, h2⟩
/-- what tells its heading is new in the list -/
theorem allZ_new {f : Int → Int → Bool} {g : Int → Int → List Int} (hi : ∀ s t u v, f s t = true → f u v = true → g s t = g u v → s = u ∧ t = v) {n S k : Nat} (h : f (S : Int) ((k : Int) - n) = true) : g (S : Int) ((k : Int) - n) ∉ allZ f g n S ++ rowZ f g (n : Int) (S : Int) k := by
  intro hm
  rw [List.mem_append, allZ_mem, rowZ_mem] at hm
  rcases hm with ⟨s, j, h1, _, h2, h3⟩ | ⟨j, h1, h2, h3⟩
  · have := (hi _ _ _ _ h h2 h3).1
    omega
  · have := (hi _ _ _ _ h h2 h3).2
    omega
theorem rowZ_nodup {f : Int → Int → Bool} {g : Int → Int → List Int} (hi : ∀ s t u v, f s t = true → f u v = true → g s t = g u v → s = u ∧ t = v) (n S : Nat) (hA : (allZ f g n S).Nodup) : ∀ k, (allZ f g n S ++ rowZ f g (n : Int) (S : Int) k).Nodup
  | 0 => by simpa [rowZ] using hA
  | k + 1 => by
    have ih := rowZ_nodup hi n S hA k
    unfold rowZ
    rw [← List.append_assoc]
    by_cases hf : f (S : Int) ((k : Int) - n) = true
    · rw [if_pos hf]
      have hn := allZ_new hi hf
      rw [List.nodup_append]
      refine ⟨ih, by simp, fun a ha b hb => ?_⟩
      simp only [List.mem_singleton] at hb
      subst hb
      intro e
      subst e
      exact hn ha
    · rw [if_neg hf, List.append_nil]; exact ih
theorem allZ_nodup {f : Int → Int → Bool} {g : Int → Int → List Int} (hi : ∀ s t u v, f s t = true → f u v = true → g s t = g u v → s = u ∧ t = v) (n : Nat) : ∀ S, (allZ f g n S).Nodup
  | 0 => List.nodup_nil
  | S + 1 => rowZ_nodup hi n S (allZ_nodup hi n S) _
theorem nodup_less {α : Type} [DecidableEq α] : ∀ {l1 l2 : List α}, l1.Nodup → (∀ x ∈ l1, x ∈ l2) → l1.length ≤ l2.length
  | [], _, _, _ => Nat.zero_le _
  | a :: l1, l2, hn, h => by
    obtain ⟨h1, h2⟩ := List.nodup_cons.1 hn
    have ha := h a (by simp)
    have ih := nodup_less (l1 := l1) (l2 := l2.erase a) h2 (fun x hx => (List.mem_erase_of_ne (fun e => by subst e; exact h1 hx)).2 (h x (by simp [hx])))
    rw [List.length_erase_of_mem ha] at ih
    have := List.length_pos_of_mem ha
    simp only [List.length_cons]
    omega
theorem nodup_len {α : Type} [DecidableEq α] {l1 l2 : List α} (h1 : l1.Nodup) (h2 : l2.Nodup) (h : ∀ x, x ∈ l1 ↔ x ∈ l2) : l1.length = l2.length :=
  Nat.le_antisymm (nodup_less h1 fun x hx => (h x).1 hx) (nodup_less h2 fun x hx => (h x).2 hx)
/-- the answer -/
def metZ (xs vs : List Int) (s t : Int) : List Int := otherL xs vs (headL vs s t)
theorem metZ_inj (xs vs : List Int) : ∀ s t u v, metB xs vs s t = true → metB xs vs u v = true → metZ xs vs s t = metZ xs vs u v → s = u ∧ t = v := fun _ _ _ _ h1 h2 h => met_inj h1 h2 h
def cmanyV (xs vs : List Int) (n : Int) : Int := if pointB xs vs && inR n 1 5 then (allC (metB xs vs) n.toNat (n.toNat + 1) : Nat) else -1
theorem cmany_bd (xs vs : List Int) (n : Int) : -1 ≤ cmanyV xs vs n ∧ cmanyV xs vs n ≤ 100 := by
  unfold cmanyV
  split
  · next h =>
    rw [Bool.and_eq_true] at h
    have hn := h.2
    unfold inR at hn
    rw [Bool.and_eq_true, decide_eq_true_eq, decide_eq_true_eq] at hn
    obtain ⟨N, rfl⟩ := Int.eq_ofNat_of_zero_le (show 0 ≤ n by omega)
    rw [Int.toNat_natCast]
    have := allC_le (metB xs vs) N (N + 1)
    have h5 : N ≤ 5 := by omega
    have : (N + 1) * (2 * N + 1) ≤ 6 * 11 := Nat.mul_le_mul (by omega) (by omega)
    omega
  · omega

end Go.Proofs.Ytfjbdbfeolfcfaa

/-! WrapW -/
set_option linter.unusedVariables false
namespace Go.Proofs.Ytfjbdbfeolfcfaa
open Go.RowKit

theorem wrapW {x : Int} (h1 : -100000000000000 ≤ x) (h2 : x ≤ 100000000000000) : IntKind.i64.wrap x = x := by rw [IntKind.wrap_i64]; omega
theorem below_dw {n : Nat} {w w' : World} (h : Below n w w') : Below n w w'.drew := ⟨h.os, h.tape, h.output, h.size, h.block⟩
theorem below_box2 (w : World) (o : Obj) : Below w.heap.size w (w.alloc o) := (Below.refl _ _).alloc (Nat.le_refl _) _

end Go.Proofs.Ytfjbdbfeolfcfaa

/-! Fm6 -/
set_option linter.unusedVariables false
namespace Go.Proofs.Ytfjbdbfeolfcfaa
open Go.RowKit

/-- a slice with an address, or nil -/
def Firm (v : Value) : Prop := v = .slice none 0 0 ∨ ∃ ad n c, v = .slice (some ad) n c
theorem Owns.firm {W : World} {B : Nat} {v : Value} {xs : List Int} (h : Owns W B v xs) : Firm v := by
  rcases h.2 with ⟨rfl, _⟩ | ⟨g, cap, cur, rfl, _⟩
  · exact .inl rfl
  · exact .inr ⟨_, _, _, rfl⟩
theorem grownBy_refl (w : World) (r : Option Nat) : w.grownBy w r := ⟨rfl, rfl, rfl, Nat.le_refl _, fun _ _ _ => rfl⟩
/-- append(s, xs...) where s is the call's own and xs is any slice that reads as numbers -/
theorem append_rd {w : World} {ops : Array Oper} {rest : List Oper} {o : Oper} {a : Act} {Q : Exit → Act → World → Prop} (hgd : o.guard = none) (s x : Operand)
    (ho : o.op = .call { callee := .builtin .append, args := #[s, x], argTypes := #[23, 23] })
    (base : Nat) (v : Value) (xs : List Int) (hs : a.eval s = v) (hown : Owns w base v xs) (u : Value) (ys : List Int) (hx : a.eval x = u) (hrd : Rd w u ys) (hf : Firm u)
    (h63 : xs.length + ys.length ≤ 10000000) (hbase : base ≤ w.heap.size)
    (h : ∀ v' w', Owns w' base v' (xs ++ ys) → w.grownBy w' v.ownBlock → wpList Try.prog ops Q rest (a.put o.dst v') w') :
    wpList Try.prog ops Q (o :: rest) a w := by
  obtain ⟨i0, hi, hz0, hz1, hz2⟩ := info_parts infoInt
  rcases hf with rfl | ⟨ad, n, c, rfl⟩
  · have hy : ys = [] := by
      rcases hrd with ⟨_, _, _, hy⟩ | ⟨_, _, _, e, _⟩
      · exact hy
      · cases e
    subst hy
    exact wpList_append_own_none hgd s x 23 ho base 3 i0 1 Try.underlying23 hi v _ _ hs hown hx (h v w (by rw [List.append_nil]; exact hown) (grownBy_refl w _))
  · have hn : n = ys.length := by
      rcases hrd with ⟨_, _, e, hy⟩ | ⟨_, _, _, e, _⟩
      · cases e; rw [hy]; rfl
      · cases e; rfl
    have hnews : ∀ j z, (ys.map (Value.int .i64))[j]? = some z → w.cell? (ad.add j) = some z := fun j z hz => by
      rcases hrd with ⟨_, _, _, hy⟩ | ⟨b, off, cap, e, _, _, hc⟩
      · rw [hy] at hz; simp at hz
      · cases e
        rw [List.getElem?_map] at hz
        by_cases hj : j < ys.length
        · rw [List.getElem?_eq_getElem hj] at hz
          simp only [Option.map_some, Option.some.injEq] at hz
          rw [← hz, show (⟨b, off, none⟩ : Addr).add j = ⟨b, off + j, none⟩ by
            by_cases e : j = 0
            · subst e; simp [Addr.add]
            · simp [Addr.add, e], hc j hj, getD_at _ _ hj]
        · rw [List.getElem?_eq_none (by omega)] at hz; cases hz
    refine wpList_append_own_at w hgd s x 23 ho base 3 i0 (.int .i64 0) 1 8 Try.underlying23 hi hz0 hz1 hz2 rfl (by decide) v _ _ hs hown ad n c (ys.map (Value.int .i64)) hx (by rw [List.length_map, hn, Nat.mul_one]) hnews
      (fun z hz => by rw [List.mem_map] at hz; obtain ⟨y, _, rfl⟩ := hz; rfl) (by unfold maxLen; omega) (by omega) hbase ?_
    intro v' w' hown' hgrow _ _
    refine h v' w' ?_ hgrow
    unfold Owns
    rw [List.length_append, List.map_append, ← hn]
    exact hown'


end Go.Proofs.Ytfjbdbfeolfcfaa
