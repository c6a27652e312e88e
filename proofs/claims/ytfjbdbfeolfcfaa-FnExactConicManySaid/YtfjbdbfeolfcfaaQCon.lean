/-
  Conics: points, lines, headings: plain arithmetic.
-/
import Derived.Test.YtfjbdbfeolfcfaaQVals5
set_option linter.unusedVariables false
namespace Go.Proofs.Ytfjbdbfeolfcfaa
open Go.RowKit

/-- what three terms give -/
def q3 (a b c x y z : Int) : Int := a * x * x + b * y * y + c * z * z
def p3 (a b c x y z u v w : Int) : Int := a * x * u + b * y * v + c * z * w
theorem ne_cancel {a b : Int} (h : a * b = 0) (ha : a ≠ 0) : b = 0 := (Int.mul_eq_zero.1 h).resolve_left ha
theorem sq_zero {a : Int} (h : a * a = 0) : a = 0 := (Int.mul_eq_zero.1 h).elim id id
/-- two vectors that are zeros and give 0 together lie on one line -/
theorem iso_par {a b c x y z u v w : Int} (ha : a ≠ 0) (hb : b ≠ 0) (hc : c ≠ 0) (h1 : q3 a b c x y z = 0) (h2 : q3 a b c u v w = 0) (h3 : p3 a b c x y z u v w = 0) : x * v = y * u ∧ x * w = z * u ∧ y * w = z * v := by
  unfold q3 at h1 h2
  unfold p3 at h3
  obtain ⟨n1, e1⟩ : ∃ n1, n1 = y * w - z * v := ⟨_, rfl⟩
  obtain ⟨n2, e2⟩ : ∃ n2, n2 = z * u - x * w := ⟨_, rfl⟩
  obtain ⟨n3, e3⟩ : ∃ n3, n3 = x * v - y * u := ⟨_, rfl⟩
  have k1 : n2 * (c * z) = n3 * (b * y) := by grobner
  have k2 : n3 * (a * x) = n1 * (c * z) := by grobner
  have k3 : n1 * (b * y) = n2 * (a * x) := by grobner
  have l1 : n2 * (c * w) = n3 * (b * v) := by grobner
  have l2 : n3 * (a * u) = n1 * (c * w) := by grobner
  have l3 : n1 * (b * v) = n2 * (a * u) := by grobner
  have m1 : b * c * (n1 * n1) = -(a * c * (n2 * n2)) := by
    have e : b * c * (n1 * n1) = (n1 * (b * y)) * (c * w) - (n1 * (b * v)) * (c * z) := by grobner
    rw [e, k3, l3]
    grobner
  have m2 : a * c * (n2 * n2) = -(a * b * (n3 * n3)) := by
    have e : a * c * (n2 * n2) = (n2 * (c * z)) * (a * u) - (n2 * (c * w)) * (a * x) := by grobner
    rw [e, k1, l1]
    grobner
  have m3 : a * b * (n3 * n3) = -(b * c * (n1 * n1)) := by
    have e : a * b * (n3 * n3) = (n3 * (a * x)) * (b * v) - (n3 * (a * u)) * (b * y) := by grobner
    rw [e, k2, l2]
    grobner
  have z1 : n1 = 0 := sq_zero (ne_cancel (show b * c * (n1 * n1) = 0 by omega) (Int.mul_ne_zero hb hc))
  have z2 : n2 = 0 := sq_zero (ne_cancel (show a * c * (n2 * n2) = 0 by omega) (Int.mul_ne_zero ha hc))
  have z3 : n3 = 0 := sq_zero (ne_cancel (show a * b * (n3 * n3) = 0 by omega) (Int.mul_ne_zero ha hb))
  exact ⟨by omega, by omega, by omega⟩
/-- the other zero on a line is one -/
theorem line_zero {a b c x y z u v w : Int} (h : q3 a b c x y z = 0) :
    q3 a b c (q3 a b c u v w * x - 2 * p3 a b c x y z u v w * u) (q3 a b c u v w * y - 2 * p3 a b c x y z u v w * v) (q3 a b c u v w * z - 2 * p3 a b c x y z u v w * w) = 0 := by
  obtain ⟨q, hq⟩ : ∃ q, q = q3 a b c u v w := ⟨_, rfl⟩
  obtain ⟨p, hp⟩ : ∃ p, p = p3 a b c x y z u v w := ⟨_, rfl⟩
  rw [← hq, ← hp]
  unfold q3 at *
  unfold p3 at *
  have e : a * (q * x - 2 * p * u) * (q * x - 2 * p * u) + b * (q * y - 2 * p * v) * (q * y - 2 * p * v) + c * (q * z - 2 * p * w) * (q * z - 2 * p * w) = q * q * (a * x * x + b * y * y + c * z * z) - 4 * q * p * (a * x * u + b * y * v + c * z * w) + 4 * p * p * (a * u * u + b * v * v + c * w * w) := by grobner
  rw [e, h, ← hq, ← hp]
  grobner
/-- it is not 0 where the direction is no multiple of the point -/
theorem line_ne {a b c x y z u v w : Int} (ha : a ≠ 0) (hb : b ≠ 0) (hc : c ≠ 0) (h : q3 a b c x y z = 0) (hv : ¬ (x = 0 ∧ y = 0 ∧ z = 0))
    (hm : ¬ (x * v = y * u ∧ x * w = z * u ∧ y * w = z * v)) :
    ¬ (q3 a b c u v w * x - 2 * p3 a b c x y z u v w * u = 0 ∧ q3 a b c u v w * y - 2 * p3 a b c x y z u v w * v = 0 ∧ q3 a b c u v w * z - 2 * p3 a b c x y z u v w * w = 0) := by
  rintro ⟨h1, h2, h3⟩
  obtain ⟨q, hq⟩ : ∃ q, q = q3 a b c u v w := ⟨_, rfl⟩
  obtain ⟨p, hp⟩ : ∃ p, p = p3 a b c x y z u v w := ⟨_, rfl⟩
  rw [← hq, ← hp] at h1 h2 h3
  by_cases p0 : p = 0
  · by_cases q0 : q = 0
    · exact hm (iso_par ha hb hc h (by rw [← hq, q0]) (by rw [← hp, p0]))
    · rw [p0] at h1 h2 h3
      exact hv ⟨ne_cancel (a := q) (by omega) q0, ne_cancel (a := q) (by omega) q0, ne_cancel (a := q) (by omega) q0⟩
  · have p2 : 2 * p ≠ 0 := by omega
    refine hm ⟨?_, ?_, ?_⟩
    · have := ne_cancel (a := 2 * p) (b := x * v - y * u) (by grobner) p2; omega
    · have := ne_cancel (a := 2 * p) (b := x * w - z * u) (by grobner) p2; omega
    · have := ne_cancel (a := 2 * p) (b := y * w - z * v) (by grobner) p2; omega
/-- a zero that is no multiple of another one gives no 0 with it -/
theorem zeros_ne {a b c x y z u v w : Int} (ha : a ≠ 0) (hb : b ≠ 0) (hc : c ≠ 0) (h1 : q3 a b c x y z = 0) (h2 : q3 a b c u v w = 0)
    (hm : ¬ (x * v = y * u ∧ x * w = z * u ∧ y * w = z * v)) : p3 a b c x y z u v w ≠ 0 := fun h3 => hm (iso_par ha hb hc h1 h2 h3)
theorem len3 {xs : List Int} (h : xs.length = 3) : ∃ a b c, xs = [a, b, c] := by
  match xs, h with
  | [a, b, c], _ => exact ⟨a, b, c, rfl⟩
theorem valT3 (a b c x y z : Int) : valI [a, b, c] [x, y, z] 3 = q3 a b c x y z := by simp [valI, q3]
theorem pairT3 (a b c x y z u v w : Int) : pairI [a, b, c] [x, y, z] [u, v, w] 3 = p3 a b c x y z u v w := by simp [pairI, p3]
/-- is a vector a multiple of another one, which is not 0? -/
def multB (vs ws : List Int) : Bool := decide (vs.getD 0 0 * ws.getD 1 0 = vs.getD 1 0 * ws.getD 0 0) && (decide (vs.getD 0 0 * ws.getD 2 0 = vs.getD 2 0 * ws.getD 0 0) && decide (vs.getD 1 0 * ws.getD 2 0 = vs.getD 2 0 * ws.getD 1 0))
theorem multB_iff {x y z u v w : Int} : multB [x, y, z] [u, v, w] = true ↔ x * v = y * u ∧ x * w = z * u ∧ y * w = z * v := by
  unfold multB
  rw [Bool.and_eq_true, Bool.and_eq_true, decide_eq_true_eq, decide_eq_true_eq, decide_eq_true_eq]
  exact Iff.rfl
/-- a point of a form -/
def pointB (xs vs : List Int) : Bool := decide (xs.length = 3) && (zeroB xs vs && (plainB vs && decide (hgtL vs ≤ 1000)))
theorem pointB_iff {xs vs : List Int} : pointB xs vs = true ↔ xs.length = 3 ∧ zeroB xs vs = true ∧ plainL vs = vs ∧ hgtL vs ≤ 1000 := by
  unfold pointB plainB
  rw [Bool.and_eq_true, Bool.and_eq_true, Bool.and_eq_true, decide_eq_true_eq, decide_eq_true_eq, decide_eq_true_eq]
/-- what a point is made of -/
structure Pt (a b c x y z : Int) : Prop where
  ha : a ≠ 0 ∧ -30 ≤ a ∧ a ≤ 30
  hb : b ≠ 0 ∧ -30 ≤ b ∧ b ≤ 30
  hc : c ≠ 0 ∧ -30 ≤ c ∧ c ≤ 30
  hx : -1000 ≤ x ∧ x ≤ 1000
  hy : -1000 ≤ y ∧ y ≤ 1000
  hz : -1000 ≤ z ∧ z ≤ 1000
  h0 : q3 a b c x y z = 0
  hn : ¬ (x = 0 ∧ y = 0 ∧ z = 0)
  hp : plainL [x, y, z] = [x, y, z]
theorem zero3 {a b c : Int} {vs : List Int} (h : zeroB [a, b, c] vs = true) : ∃ x y z, vs = [x, y, z] ∧ (-1000000 ≤ x ∧ x ≤ 1000000) ∧ (-1000000 ≤ y ∧ y ≤ 1000000) ∧ (-1000000 ≤ z ∧ z ≤ 1000000) ∧ q3 a b c x y z = 0 ∧ ¬ (x = 0 ∧ y = 0 ∧ z = 0) := by
  obtain ⟨h1, h2, h3, h4, h5⟩ := zeroB_iff.1 h
  obtain ⟨x, y, z, rfl⟩ := len3 (show vs.length = 3 from h3)
  refine ⟨x, y, z, rfl, h1 x (by simp), h1 y (by simp), h1 z (by simp), ?_, ?_⟩
  · rw [← valT3]; exact h5
  · rintro ⟨rfl, rfl, rfl⟩
    obtain ⟨v, hv, h0⟩ := h4
    simp at hv
    exact h0 hv
theorem point_pt {xs vs : List Int} (h : pointB xs vs = true) : ∃ a b c x y z, xs = [a, b, c] ∧ vs = [x, y, z] ∧ fvB [a, b, c] = true ∧ Pt a b c x y z := by
  obtain ⟨h1, h2, h3, h4⟩ := pointB_iff.1 h
  obtain ⟨a, b, c, rfl⟩ := len3 h1
  obtain ⟨x, y, z, rfl, _, _, _, k4, k5⟩ := zero3 h2
  have hf := (zeroB_iff.1 h2).2.1
  have ht := (fvB_iff.1 hf).1
  have hg : ∀ v ∈ [x, y, z], -1000 ≤ v ∧ v ≤ 1000 := fun v hv => by have := hgt_ge hv; omega
  exact ⟨a, b, c, x, y, z, rfl, rfl, hf, ⟨ht a (by simp), ht b (by simp), ht c (by simp), hg x (by simp), hg y (by simp), hg z (by simp), k4, k5, h3⟩⟩
theorem some3 {x y z : Int} (h : ¬ (x = 0 ∧ y = 0 ∧ z = 0)) : ∃ v ∈ [x, y, z], v ≠ 0 := by
  by_cases hx : x = 0
  · by_cases hy : y = 0
    · exact ⟨z, by simp, fun e => h ⟨hx, hy, e⟩⟩
    · exact ⟨y, by simp, hy⟩
  · exact ⟨x, by simp, hx⟩
theorem zeroB3 {a b c x y z : Int} (hf : fvB [a, b, c] = true) (h : q3 a b c x y z = 0) (hn : ¬ (x = 0 ∧ y = 0 ∧ z = 0)) : zeroB [a, b, c] [x, y, z] = decide (hgtL [x, y, z] ≤ 1000000) := by
  rw [Bool.eq_iff_iff, decide_eq_true_eq, zeroB_iff]
  constructor
  · rintro ⟨h1, _⟩
    exact hgt_le fun v hv => by have := h1 v hv; omega
  · intro h1
    exact ⟨fun v hv => by have := hgt_ge hv; omega, hf, rfl, some3 hn, by rw [← h, ← valT3]; rfl⟩
/-- multiples of a plain vector have it as their plain one -/
theorem scale3 (k x y z : Int) : [x, y, z].map (fun v => k * v) = [k * x, k * y, k * z] := rfl
theorem mult_plain {x y z u v w : Int} (hn : ¬ (x = 0 ∧ y = 0 ∧ z = 0)) (hp : plainL [x, y, z] = [x, y, z]) :
    multB [x, y, z] [u, v, w] = true ↔ (u = 0 ∧ v = 0 ∧ w = 0) ∨ plainL [u, v, w] = [x, y, z] := by
  rw [multB_iff]
  constructor
  · rintro ⟨h1, h2, h3⟩
    by_cases h0 : u = 0 ∧ v = 0 ∧ w = 0
    · exact .inl h0
    · right
      have key : ∀ k l : Int, k ≠ 0 → l ≠ 0 → k * u = l * x → k * v = l * y → k * w = l * z → plainL [u, v, w] = [x, y, z] := fun k l hk hl e1 e2 e3 => by
        have p1 := plain_scale hk (some3 h0)
        have p2 := plain_scale hl (some3 hn)
        rw [scale3, e1, e2, e3, ← scale3, p2, hp] at p1
        exact p1.symm
      by_cases hx : x = 0
      · subst hx
        by_cases hy : y = 0
        · subst hy
          have hz : z ≠ 0 := fun e => hn ⟨rfl, rfl, e⟩
          have hu : u = 0 := ne_cancel (a := z) (by omega) hz
          have hv : v = 0 := ne_cancel (a := z) (by omega) hz
          subst hu hv
          exact key z w hz (fun e => h0 ⟨rfl, rfl, e⟩) (by omega) (by omega) (by rw [Int.mul_comm])
        · have hu : u = 0 := ne_cancel (a := y) (by omega) hy
          subst hu
          refine key y v hy (fun e => ?_) (by omega) (by rw [Int.mul_comm]) (by rw [h3, Int.mul_comm])
          subst e
          exact h0 ⟨rfl, rfl, ne_cancel (a := y) (by omega) hy⟩
      · refine key x u hx (fun e => ?_) (by rw [Int.mul_comm]) (by rw [h1, Int.mul_comm]) (by rw [h2, Int.mul_comm])
        subst e
        exact h0 ⟨rfl, ne_cancel (a := x) (by omega) hx, ne_cancel (a := x) (by omega) hx⟩
  · rintro (⟨rfl, rfl, rfl⟩ | h)
    · exact ⟨by omega, by omega, by omega⟩
    · have e := plain_back [u, v, w]
      rw [h, scale3] at e
      obtain ⟨k, hk⟩ : ∃ k, k = signL [u, v, w] * (gcdL [u, v, w] : Int) := ⟨_, rfl⟩
      rw [← hk] at e
      simp only [List.cons.injEq, and_true] at e
      obtain ⟨rfl, rfl, rfl⟩ := e
      refine ⟨?_, ?_, ?_⟩ <;> grobner
/-- the other zero on the line -/
def lineL (xs vs ws : List Int) : List Int := [valI xs ws 3 * vs.getD 0 0 - 2 * pairI xs vs ws 3 * ws.getD 0 0, valI xs ws 3 * vs.getD 1 0 - 2 * pairI xs vs ws 3 * ws.getD 1 0, valI xs ws 3 * vs.getD 2 0 - 2 * pairI xs vs ws 3 * ws.getD 2 0]
theorem line3 (a b c x y z u v w : Int) : lineL [a, b, c] [x, y, z] [u, v, w] = [q3 a b c u v w * x - 2 * p3 a b c x y z u v w * u, q3 a b c u v w * y - 2 * p3 a b c x y z u v w * v, q3 a b c u v w * z - 2 * p3 a b c x y z u v w * w] := by
  unfold lineL; rw [valT3, pairT3]; rfl
def otherOk (xs vs ws : List Int) : Bool := pointB xs vs && (vecB xs ws 20 && (!multB vs ws && decide (hgtL (plainL (lineL xs vs ws)) ≤ 1000000)))
def otherL (xs vs ws : List Int) : List Int := if otherOk xs vs ws then plainL (lineL xs vs ws) else []
theorem notmult {x y z u v w : Int} (h : multB [x, y, z] [u, v, w] = false) : ¬ (x * v = y * u ∧ x * w = z * u ∧ y * w = z * v) := fun e => by
  rw [multB_iff.2 e] at h; cases h
theorem line_some {a b c x y z u v w : Int} (P : Pt a b c x y z) (hm : multB [x, y, z] [u, v, w] = false) : ∃ k ∈ lineL [a, b, c] [x, y, z] [u, v, w], k ≠ 0 := by
  rw [line3]
  exact some3 (line_ne P.ha.1 P.hb.1 P.hc.1 P.h0 P.hn (notmult hm))
/-- the plain one of a zero of whatever size is a zero unless it is too high -/
theorem plain3 {a b c x y z : Int} (hf : fvB [a, b, c] = true) (h : q3 a b c x y z = 0) (hn : ¬ (x = 0 ∧ y = 0 ∧ z = 0)) : zeroB [a, b, c] (plainL [x, y, z]) = decide (hgtL (plainL [x, y, z]) ≤ 1000000) := by
  obtain ⟨p, q, r, e⟩ := len3 (show (plainL [x, y, z]).length = 3 from plainL_len _)
  have hb := plain_back [x, y, z]
  have hk := sg_ne (some3 hn)
  obtain ⟨k, ek⟩ : ∃ k, k = signL [x, y, z] * (gcdL [x, y, z] : Int) := ⟨_, rfl⟩
  rw [← ek, e, scale3] at hb
  rw [← ek] at hk
  rw [e]
  simp only [List.cons.injEq, and_true] at hb
  obtain ⟨rfl, rfl, rfl⟩ := hb
  refine zeroB3 hf ?_ ?_
  · have e2 : k * k * q3 a b c p q r = 0 := by rw [← h]; unfold q3; grobner
    exact ne_cancel e2 (Int.mul_ne_zero hk hk)
  · rintro ⟨rfl, rfl, rfl⟩
    exact hn ⟨Int.mul_zero _, Int.mul_zero _, Int.mul_zero _⟩
theorem line_plain {a b c x y z u v w : Int} (hf : fvB [a, b, c] = true) (P : Pt a b c x y z) (hm : multB [x, y, z] [u, v, w] = false) :
    zeroB [a, b, c] (plainL (lineL [a, b, c] [x, y, z] [u, v, w])) = decide (hgtL (plainL (lineL [a, b, c] [x, y, z] [u, v, w])) ≤ 1000000) := by
  rw [line3]
  exact plain3 hf (line_zero P.h0) (line_ne P.ha.1 P.hb.1 P.hc.1 P.h0 P.hn (notmult hm))

/-- the integers at the axis of a point and at the two other places -/
def atA (vs ws : List Int) : Int := if vs.getD 0 0 = 0 then ws.getD 1 0 else ws.getD 0 0
def atB (vs ws : List Int) : Int := if vs.getD 0 0 = 0 then ws.getD 0 0 else ws.getD 1 0
def atC (ws : List Int) : Int := ws.getD 2 0
/-- the direction of a heading -/
def headL (vs : List Int) (s t : Int) : List Int := if vs.getD 0 0 = 0 then [s, 0, t] else [0, s, t]
theorem axis_ne {a b c x y z : Int} (P : Pt a b c x y z) : atA [x, y, z] [x, y, z] ≠ 0 := by
  show (if x = 0 then y else x) ≠ 0
  by_cases hx : x = 0
  · rw [if_pos hx]
    intro hy
    have h := P.h0
    rw [hx, hy] at h
    unfold q3 at h
    have hz : z = 0 := sq_zero (ne_cancel (a := c) (by rw [← Int.mul_assoc]; omega) P.hc.1)
    exact P.hn ⟨hx, hy, hz⟩
  · rw [if_neg hx]; exact hx
def backL (xs vs zs : List Int) : List Int :=
  plainL (if atB vs zs * atA vs vs - atB vs vs * atA vs zs = 0 ∧ atC zs * atA vs vs - atC vs * atA vs zs = 0 then [atC xs * atC vs, -(atB vs xs * atB vs vs)] else [atB vs zs * atA vs vs - atB vs vs * atA vs zs, atC zs * atA vs vs - atC vs * atA vs zs])
def backOk (xs vs zs : List Int) : Bool := pointB xs vs && zeroB xs zs
/-- both are 0 exactly at multiples of the point -/
theorem back_mult {a b c x y z u v w : Int} (P : Pt a b c x y z) : multB [x, y, z] [u, v, w] = true ↔ atB [x, y, z] [u, v, w] * atA [x, y, z] [x, y, z] - atB [x, y, z] [x, y, z] * atA [x, y, z] [u, v, w] = 0 ∧ atC [u, v, w] * atA [x, y, z] [x, y, z] - atC [x, y, z] * atA [x, y, z] [u, v, w] = 0 := by
  have hax := axis_ne P
  rw [multB_iff]
  unfold atA atB atC at *
  simp only [List.getD_cons_zero, List.getD_cons_succ] at *
  by_cases hx : x = 0
  · subst hx
    simp only [if_true] at *
    constructor
    · rintro ⟨h1, h2, h3⟩; constructor <;> grind
    · rintro ⟨h1, h2⟩
      have hu : u = 0 := ne_cancel (a := y) (by grind) hax
      subst hu
      exact ⟨by omega, by omega, by grind⟩
  · simp only [if_neg hx] at *
    constructor
    · rintro ⟨h1, h2, h3⟩; constructor <;> grind
    · rintro ⟨h1, h2⟩
      refine ⟨by grind, by grind, ?_⟩
      have : y * w - z * v = 0 := ne_cancel (a := x) (by grobner) hx
      omega
theorem two_some {s t : Int} (h : ¬ (s = 0 ∧ t = 0)) : ∃ v ∈ [s, t], v ≠ 0 := by
  by_cases hs : s = 0
  · exact ⟨t, by simp, fun e => h ⟨hs, e⟩⟩
  · exact ⟨s, by simp, hs⟩
/-- the heading of the line that meets the point alone is one -/
theorem tangent_some {a b c x y z : Int} (P : Pt a b c x y z) : ∃ v ∈ [atC [a, b, c] * atC [x, y, z], -(atB [x, y, z] [a, b, c] * atB [x, y, z] [x, y, z])], v ≠ 0 := by
  refine two_some ?_
  unfold atB atC
  simp only [List.getD_cons_zero, List.getD_cons_succ]
  rintro ⟨h1, h2⟩
  have hz : z = 0 := ne_cancel h1 P.hc.1
  have h := P.h0
  unfold q3 at h
  by_cases hx : x = 0
  · rw [hx, hz] at h
    have hy : y = 0 := sq_zero (ne_cancel (a := b) (by rw [← Int.mul_assoc]; omega) P.hb.1)
    exact P.hn ⟨hx, hy, hz⟩
  · rw [if_neg hx, if_neg hx] at h2
    have hy : y = 0 := ne_cancel (a := b) (by omega) P.hb.1
    rw [hy, hz] at h
    exact hx (sq_zero (ne_cancel (a := a) (by rw [← Int.mul_assoc]; omega) P.ha.1))

end Go.Proofs.Ytfjbdbfeolfcfaa
