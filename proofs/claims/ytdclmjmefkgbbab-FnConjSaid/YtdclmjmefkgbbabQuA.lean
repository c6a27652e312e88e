/-
  Plain: quaternions: which lists they are, products, conjugates, norms, turns.
-/
import Derived.Test.YtdclmjmefkgbbabQBun11
set_option linter.unusedVariables false
namespace Go.Proofs.Ytdclmjmefkgbbab
open Go.RowKit

def quatB (xs : List Int) : Bool := inAll xs 10000 && decide ((xs.length : Int) = 4)
theorem inAll_cons (x : Int) (xs : List Int) (m : Int) : inAll (x :: xs) m = (inR x (-m) m && inAll xs m) := rfl
theorem inRi {x m : Int} : inR x (-m) m = true ↔ -m ≤ x ∧ x ≤ m := by unfold inR; rw [Bool.and_eq_true, decide_eq_true_eq, decide_eq_true_eq]
def InQ (x : Int) : Prop := -10000 ≤ x ∧ x ≤ 10000
theorem quat_list {xs : List Int} (h : quatB xs = true) : ∃ a b c d, xs = [a, b, c, d] ∧ InQ a ∧ InQ b ∧ InQ c ∧ InQ d := by
  unfold quatB at h
  rw [Bool.and_eq_true, decide_eq_true_eq] at h
  obtain ⟨h1, h2⟩ := h
  match xs, h1, h2 with
  | [a, b, c, d], h1, _ =>
    rw [inAll_cons, inAll_cons, inAll_cons, inAll_cons] at h1
    simp only [Bool.and_eq_true, inRi] at h1
    exact ⟨a, b, c, d, rfl, h1.1, h1.2.1, h1.2.2.1, h1.2.2.2.1⟩
  | [], _, h2 => simp at h2
  | [_], _, h2 => simp at h2
  | [_, _], _, h2 => simp at h2
  | [_, _, _], _, h2 => simp at h2
  | _ :: _ :: _ :: _ :: _ :: t, _, h2 => simp at h2; omega
theorem quat_of {a b c d : Int} (h1 : InQ a) (h2 : InQ b) (h3 : InQ c) (h4 : InQ d) : quatB [a, b, c, d] = true := by
  unfold quatB
  rw [inAll_cons, inAll_cons, inAll_cons, inAll_cons, inRi.2 h1, inRi.2 h2, inRi.2 h3, inRi.2 h4]
  rfl
theorem quat_iff {a b c d : Int} : quatB [a, b, c, d] = true ↔ InQ a ∧ InQ b ∧ InQ c ∧ InQ d := by
  constructor
  · intro h
    obtain ⟨a', b', c', d', e, h1, h2, h3, h4⟩ := quat_list h
    simp only [List.cons.injEq, and_true] at e
    obtain ⟨rfl, rfl, rfl, rfl⟩ := e
    exact ⟨h1, h2, h3, h4⟩
  · rintro ⟨h1, h2, h3, h4⟩
    exact quat_of h1 h2 h3 h4
abbrev qc0 (xs : List Int) : Int := xs.getD 0 0
abbrev qc1 (xs : List Int) : Int := xs.getD 1 0
abbrev qc2 (xs : List Int) : Int := xs.getD 2 0
abbrev qc3 (xs : List Int) : Int := xs.getD 3 0
def normI (a b c d : Int) : Int := a * a + b * b + c * c + d * d
def m0 (a b c d e f g h : Int) : Int := a * e - b * f - c * g - d * h
def m1 (a b c d e f g h : Int) : Int := a * f + b * e + c * h - d * g
def m2 (a b c d e f g h : Int) : Int := a * g - b * h + c * e + d * f
def m3 (a b c d e f g h : Int) : Int := a * h + b * g - c * f + d * e
def mul4 (a b c d e f g h : Int) : List Int := [m0 a b c d e f g h, m1 a b c d e f g h, m2 a b c d e f g h, m3 a b c d e f g h]
def mulQ (p q : List Int) : List Int := mul4 (qc0 p) (qc1 p) (qc2 p) (qc3 p) (qc0 q) (qc1 q) (qc2 q) (qc3 q)
def conjQ (q : List Int) : List Int := [qc0 q, -qc1 q, -qc2 q, -qc3 q]
def qnormV (q : List Int) : Int := if quatB q then normI (qc0 q) (qc1 q) (qc2 q) (qc3 q) else -1
def qmulOk (p q : List Int) : Bool := quatB p && quatB q && quatB (mulQ p q)
def qmulL (p q : List Int) : List Int := if qmulOk p q then mulQ p q else []
def qconjL (q : List Int) : List Int := if quatB q then conjQ q else []
def vec3B (v : List Int) : Bool := inAll v 100 && decide ((v.length : Int) = 3)
def turnX (q v : List Int) : List Int := mulQ q (0 :: v)
def turnY (q v : List Int) : List Int := mulQ (turnX q v) (conjQ q)
def qturnOk (q v : List Int) : Bool := quatB q && vec3B v && quatB (turnX q v) && quatB (turnY q v)
def qturnL (q v : List Int) : List Int := if qturnOk q v then (turnY q v).tail else []
theorem vec3_list {v : List Int} (h : vec3B v = true) : ∃ a b c, v = [a, b, c] ∧ (-100 ≤ a ∧ a ≤ 100) ∧ (-100 ≤ b ∧ b ≤ 100) ∧ (-100 ≤ c ∧ c ≤ 100) := by
  unfold vec3B at h
  rw [Bool.and_eq_true, decide_eq_true_eq] at h
  obtain ⟨h1, h2⟩ := h
  match v, h1, h2 with
  | [a, b, c], h1, _ =>
    rw [inAll_cons, inAll_cons, inAll_cons] at h1
    simp only [Bool.and_eq_true, inRi] at h1
    exact ⟨a, b, c, rfl, h1.1, h1.2.1, h1.2.2.1⟩
  | [], _, h2 => simp at h2
  | [_], _, h2 => simp at h2
  | [_, _], _, h2 => simp at h2
  | _ :: _ :: _ :: _ :: t, _, h2 => simp at h2; omega
theorem InQ.mul {x y : Int} (h1 : InQ x) (h2 : InQ y) : -100000000 ≤ x * y ∧ x * y ≤ 100000000 := by
  have e : (x * y).natAbs ≤ 10000 * 10000 := by rw [Int.natAbs_mul]; exact Nat.mul_le_mul (by have := h1.1; have := h1.2; omega) (by have := h2.1; have := h2.2; omega)
  omega
theorem InQ.neg {x : Int} (h : InQ x) : InQ (-x) := by have := h.1; have := h.2; exact ⟨by omega, by omega⟩
theorem InQ.of100 {x : Int} (h : -100 ≤ x ∧ x ≤ 100) : InQ x := ⟨by omega, by omega⟩
theorem conj_quat {q : List Int} (h : quatB q = true) : quatB (conjQ q) = true := by
  obtain ⟨a, b, c, d, rfl, h1, h2, h3, h4⟩ := quat_list h
  exact quat_of h1 h2.neg h3.neg h4.neg
theorem cons_quat {v : List Int} (h : vec3B v = true) : quatB (0 :: v) = true := by
  obtain ⟨a, b, c, rfl, h1, h2, h3⟩ := vec3_list h
  exact quat_of ⟨by omega, by omega⟩ (.of100 h1) (.of100 h2) (.of100 h3)
theorem mulQ_len (p q : List Int) : (mulQ p q).length = 4 := rfl
theorem qmul_len (p q : List Int) : (qmulL p q).length ≤ 1000 := by unfold qmulL; split <;> simp [mulQ, mul4]
theorem qconj_len (q : List Int) : (qconjL q).length ≤ 1000 := by unfold qconjL; split <;> simp [conjQ]
theorem qturn_len (q v : List Int) : (qturnL q v).length ≤ 1000 := by unfold qturnL; split <;> simp [turnY, mulQ, mul4]
/-! what laws ask -/
theorem mul_norm (a b c d e f g h : Int) : normI (m0 a b c d e f g h) (m1 a b c d e f g h) (m2 a b c d e f g h) (m3 a b c d e f g h) = normI a b c d * normI e f g h := by
  unfold normI m0 m1 m2 m3; grind
theorem conj_right (a b c d : Int) : mul4 a b c d a (-b) (-c) (-d) = [normI a b c d, 0, 0, 0] := by
  unfold mul4 normI m0 m1 m2 m3
  simp only [List.cons.injEq, and_true]
  refine ⟨?_, ?_, ?_, ?_⟩ <;> grind
theorem conj_left (a b c d : Int) : mul4 a (-b) (-c) (-d) a b c d = [normI a b c d, 0, 0, 0] := by
  unfold mul4 normI m0 m1 m2 m3
  simp only [List.cons.injEq, and_true]
  refine ⟨?_, ?_, ?_, ?_⟩ <;> grind
theorem norm_conj (a b c d : Int) : normI a (-b) (-c) (-d) = normI a b c d := by unfold normI; grind
theorem conj_mul (a b c d e f g h : Int) : conjQ (mul4 a b c d e f g h) = mul4 e (-f) (-g) (-h) a (-b) (-c) (-d) := by
  unfold conjQ mul4 m0 m1 m2 m3
  simp only [List.cons.injEq, and_true, qc0, qc1, qc2, qc3, List.getD_cons_zero, List.getD_cons_succ]
  refine ⟨?_, ?_, ?_, ?_⟩ <;> grind
theorem mul_assoc4 (p q r : List Int) : mulQ (mulQ p q) r = mulQ p (mulQ q r) := by
  unfold mulQ mul4 m0 m1 m2 m3
  simp only [List.cons.injEq, and_true, qc0, qc1, qc2, qc3, List.getD_cons_zero, List.getD_cons_succ]
  refine ⟨?_, ?_, ?_, ?_⟩ <;> grind

end Go.Proofs.Ytdclmjmefkgbbab
