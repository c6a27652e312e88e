/-
  Some texts in one file: Draws11 Draws12 Draws13.
-/
import Derived.Test.YtenibnblibnocacQBun13
/-! Draws11 -/
set_option linter.unusedVariables false
namespace Go.Proofs.Ytenibnblibnocac
open Go.RowKit

def atOk (xs : List Int) (y : Int) : Prop := TermsOk xs ∧ (prOk y ∨ y ∈ fplL xs)
def AtPost (w : World) (B R : Nat) (v : Value) (n p : Nat) (e : Ending) (w' : World) : Prop :=
  ∃ (u : Value) (xs : List Int) (y : Int), e = .returned (.tuple #[u, .int .i64 y]) ∧ atOk xs y ∧ Hid (Owns w' w.heap.size u xs) ∧ Hid (Only R w w')
theorem AtPost.mk {w : World} {B R : Nat} {v : Value} {n p : Nat} {u : Value} {xs : List Int} {y : Int} {w' : World} (h : atOk xs y) (ho : Owns w' w.heap.size u xs) (hn : Only R w w') : AtPost w B R v n p (.returned (.tuple #[u, .int .i64 y])) w' :=
  ⟨u, xs, y, rfl, h, hid ho, hid hn⟩
theorem Only.of_below {R : Nat} {w w' : World} (h : Below w.heap.size w w') : Only R w w' := ⟨h.os, h.tape, h.output, h.size, fun k hk _ => h.block k hk⟩
theorem Owns.at {W : World} {B g cap n : Nat} {xs : List Int} (h : Owns W B (.slice (some ⟨g, 0, none⟩) n cap) xs) {i : Nat} (hi : i < xs.length) : W.cell? ⟨g, i, none⟩ = some (.int .i64 (xs[i])) := by
  have hn : n = xs.length := by
    rcases h.2 with ⟨h3, _⟩ | ⟨g', cap', cur, h3, _⟩
    · cases h3
    · simp only [Value.slice.injEq] at h3; exact h3.2.1
  subst hn
  rw [World.ownsRow.cellAt h i (by omega), List.getElem?_map, List.getElem?_eq_getElem hi]
  rfl
theorem pickAt (B R : Nat) (v : Value) (n p : Nat) (hp : p ≤ 1000000000000000) (w2 : World) (HA : Hid (Rdr w2 B R v n p)) (C g cap : Nat) (xs : List Int) (HO : Hid (Owns w2 C (.slice (some ⟨g, 0, none⟩) xs.length cap) xs)) (hRC : R < C) (hl : 0 < xs.length) (hl2 : xs.length ≤ 1000) :
    Calls Try.prog 26 #[.pointer (some ⟨R, 0, none⟩), .int .i64 xs.length] w2.drew fun e w' => ∃ (y pv : Int), e = .returned (.int .i64 y) ∧ 0 ≤ y ∧ y < xs.length ∧ w'.cell? ⟨g, y.toNat, none⟩ = some (.int .i64 pv) ∧ pv ∈ xs ∧ Hid (Only R w2 w') := by
  refine (pick_any _ _ _ _ p (xs.length : Int) (by omega) (by omega) (by omega) _ HA.out.drew').mono ?_
  rintro e w3 ⟨y, r, rfl, hy0, hy1, _, hr, HC, HP⟩
  replace hy1 := hy1 (by omega)
  have HQ := HP.out.of_drew'
  have hi : y.toNat < xs.length := by omega
  exact ⟨y, xs[y.toNat], rfl, hy0, hy1, (HO.out.only HQ hRC).at hi, List.getElem_mem hi, hid HQ⟩




end Go.Proofs.Ytenibnblibnocac

/-! Draws12 -/
set_option linter.unusedVariables false
namespace Go.Proofs.Ytenibnblibnocac
open Go.RowKit

theorem Owns.storedAt {W : World} {B g cap n : Nat} {xs : List Int} (h : Owns W B (.slice (some ⟨g, 0, none⟩) n cap) xs) (j : Nat) (x : Int) :
    Owns (W.setCell ⟨g, j, none⟩ (.int .i64 x)) B (.slice (some ⟨g, 0, none⟩) n cap) (xs.set j x) ∧ W.grownBy (W.setCell ⟨g, j, none⟩ (.int .i64 x)) (some g) := by
  have hn : n = xs.length := by
    rcases h.2 with ⟨h3, _⟩ | ⟨g', cap', cur, h3, _⟩
    · cases h3
    · simp only [Value.slice.injEq] at h3; exact h3.2.1
  subst hn
  have h2 := World.ownsRow.stored h j (.int .i64 x)
  refine ⟨?_, h2.2⟩
  unfold Owns
  rw [List.length_set, List.map_set]
  exact h2.1
theorem Owns.frozenAt' {W : World} {B g cap n : Nat} {xs : List Int} (h : Owns W B (.slice (some ⟨g, 0, none⟩) n cap) xs) (j : Nat) : W.frozen? ⟨g, j, none⟩ = false := by
  have hn : n = xs.length := by
    rcases h.2 with ⟨h3, _⟩ | ⟨g', cap', cur, h3, _⟩
    · cases h3
    · simp only [Value.slice.injEq] at h3; exact h3.2.1
  subst hn
  exact World.ownsRow.frozenAt h j
theorem fv_set {xs : List Int} {x : Int} (h : fvB xs = true) (j : Nat) (h0 : x ≠ 0) (h1 : -30 ≤ x) (h2 : x ≤ 30) : fvB (xs.set j x) = true := by
  obtain ⟨a1, a2, a3⟩ := fvB_iff.1 h
  refine fvB_iff.2 ⟨fun y hy => ?_, by rw [List.length_set]; exact a2, by rw [List.length_set]; exact a3⟩
  rcases List.mem_or_eq_of_mem_set hy with h3 | h3
  · exact a1 y h3
  · rw [h3]; exact ⟨h0, h1, h2⟩
theorem fv_terms {xs : List Int} (h : fvB xs = true) : TermsOk xs := by
  obtain ⟨a1, a2, a3⟩ := fvB_iff.1 h
  exact ⟨by omega, fun x hx => by have := a1 x hx; omega⟩
theorem core_bd {n : Int} (hn : n ≠ 0) : coreG n ≠ 0 ∧ (coreG n).natAbs ≤ n.natAbs := by
  have hc := core_is hn
  refine ⟨hc.ne hn, ?_⟩
  have e : n.natAbs = (coreG n).natAbs * (rootG n * rootG n) := by
    conv => lhs; rw [← hc.eq]
    rw [Int.natAbs_mul, Int.natAbs_mul, Int.natAbs_natCast]
  have := Nat.le_mul_of_pos_right (coreG n).natAbs (Nat.mul_pos hc.pos hc.pos)
  omega
def SamePost (w : World) (B R : Nat) (v : Value) (n p : Nat) (e : Ending) (w' : World) : Prop :=
  ∃ (u : Value) (ys : List Int) (q : Nat), e = .returned u ∧ fvB ys = true ∧ Hid (Owns w' w.heap.size u ys) ∧ q ≤ p + 4 ∧ Hid (Rdr w' B R v n q) ∧ Hid (Only R w w')
theorem SamePost.mk {w : World} {B R : Nat} {v : Value} {n p q : Nat} {u : Value} {ys : List Int} {w' : World} (h : fvB ys = true) (ho : Owns w' w.heap.size u ys) (hq : q ≤ p + 4) (hr : Rdr w' B R v n q) (hn : Only R w w') : SamePost w B R v n p (.returned u) w' :=
  ⟨u, ys, q, rfl, h, hid ho, hq, hid hr, hid hn⟩


end Go.Proofs.Ytenibnblibnocac

/-! Draws13 -/
set_option linter.unusedVariables false
namespace Go.Proofs.Ytenibnblibnocac
open Go.RowKit

def TwoPost (w : World) (B R : Nat) (v : Value) (n p : Nat) (e : Ending) (w' : World) : Prop :=
  ∃ (u u2 : Value) (xs ys : List Int), e = .returned (.tuple #[u, u2]) ∧ TermsOk xs ∧ TermsOk ys ∧ Hid (Owns w' w.heap.size u xs) ∧ Hid (Rd w' u2 ys) ∧ Firm u2 ∧ Hid (Only R w w')
theorem TwoPost.mk {w : World} {B R : Nat} {v : Value} {n p : Nat} {u u2 : Value} {xs ys : List Int} {w' : World} (h : TermsOk xs) (h2 : TermsOk ys) (ho : Owns w' w.heap.size u xs) (hr : Rd w' u2 ys) (hf : Firm u2) (hn : Only R w w') : TwoPost w B R v n p (.returned (.tuple #[u, u2])) w' :=
  ⟨u, u2, xs, ys, rfl, h, h2, hid ho, hid hr, hf, hid hn⟩



end Go.Proofs.Ytenibnblibnocac
