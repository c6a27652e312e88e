/-
  What the drawing functions of chapter 4 hand out: two forms that are often like each other.
-/
import Derived.Test.YtdclmjmefkgbbabQDraws11
set_option linter.unusedVariables false
namespace Go.Proofs.Ytdclmjmefkgbbab
open Go.RowKit

theorem Owns.storedAt {W : World} {B g cap n : Nat} {xs : List Int} (h : Owns W B (.slice (some ⟨g, 0, none⟩) n cap) xs) (j : Nat) (x : Int) :
    Owns (W.setCell ⟨g, j, none⟩ (.int .i64 x)) B (.slice (some ⟨g, 0, none⟩) n cap) (xs.set j x) ∧ W.grownBy (W.setCell ⟨g, j, none⟩ (.int .i64 x)) (some g) := by
  have hn : n = xs.length := by
    rcases h.2 with ⟨h3, _⟩ | ⟨g', cap', cur, h3, _⟩
    · cases h3
    · simp only [Value.slice.injEq] at h3; exact h3.2.1
  subst hn
  have h2 := World.ownsRow.stored h j (.int .i64 x)
  refine ⟨?_, h2.2⟩
  unfold Owns
  rw [List.length_set, List.map_set]
  exact h2.1
theorem Owns.frozenAt' {W : World} {B g cap n : Nat} {xs : List Int} (h : Owns W B (.slice (some ⟨g, 0, none⟩) n cap) xs) (j : Nat) : W.frozen? ⟨g, j, none⟩ = false := by
  have hn : n = xs.length := by
    rcases h.2 with ⟨h3, _⟩ | ⟨g', cap', cur, h3, _⟩
    · cases h3
    · simp only [Value.slice.injEq] at h3; exact h3.2.1
  subst hn
  exact World.ownsRow.frozenAt h j
theorem fv_set {xs : List Int} {x : Int} (h : fvB xs = true) (j : Nat) (h0 : x ≠ 0) (h1 : -30 ≤ x) (h2 : x ≤ 30) : fvB (xs.set j x) = true := by
  obtain ⟨a1, a2, a3⟩ := fvB_iff.1 h
  refine fvB_iff.2 ⟨fun y hy => ?_, by rw [List.length_set]; exact a2, by rw [List.length_set]; exact a3⟩
  rcases List.mem_or_eq_of_mem_set hy with h3 | h3
  · exact a1 y h3
  · rw [h3]; exact ⟨h0, h1, h2⟩
theorem fv_terms {xs : List Int} (h : fvB xs = true) : TermsOk xs := by
  obtain ⟨a1, a2, a3⟩ := fvB_iff.1 h
  exact ⟨by omega, fun x hx => by have := a1 x hx; omega⟩
theorem core_bd {n : Int} (hn : n ≠ 0) : coreG n ≠ 0 ∧ (coreG n).natAbs ≤ n.natAbs := by
  have hc := core_is hn
  refine ⟨hc.ne hn, ?_⟩
  have e : n.natAbs = (coreG n).natAbs * (rootG n * rootG n) := by
    conv => lhs; rw [← hc.eq]
    rw [Int.natAbs_mul, Int.natAbs_mul, Int.natAbs_natCast]
  have := Nat.le_mul_of_pos_right (coreG n).natAbs (Nat.mul_pos hc.pos hc.pos)
  omega
def SamePost (w : World) (B R : Nat) (v : Value) (n p : Nat) (e : Ending) (w' : World) : Prop :=
  ∃ (u : Value) (ys : List Int) (q : Nat), e = .returned u ∧ fvB ys = true ∧ Hid (Owns w' w.heap.size u ys) ∧ q ≤ p + 4 ∧ Hid (Rdr w' B R v n q) ∧ Hid (Only R w w')
theorem SamePost.mk {w : World} {B R : Nat} {v : Value} {n p q : Nat} {u : Value} {ys : List Int} {w' : World} (h : fvB ys = true) (ho : Owns w' w.heap.size u ys) (hq : q ≤ p + 4) (hr : Rdr w' B R v n q) (hn : Only R w w') : SamePost w B R v n p (.returned u) w' :=
  ⟨u, ys, q, rfl, h, hid ho, hq, hid hr, hid hn⟩


end Go.Proofs.Ytdclmjmefkgbbab
