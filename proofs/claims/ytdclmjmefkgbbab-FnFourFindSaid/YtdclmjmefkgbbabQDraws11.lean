/-
  What the drawing functions of chapter 4 hand out: a form and a place.
-/
import Derived.Test.YtdclmjmefkgbbabQBun30
import Derived.Test.YtdclmjmefkgbbabQLawCls
set_option linter.unusedVariables false
namespace Go.Proofs.Ytdclmjmefkgbbab
open Go.RowKit

def atOk (xs : List Int) (y : Int) : Prop := TermsOk xs ∧ (prOk y ∨ y ∈ fplL xs)
def AtPost (w : World) (B R : Nat) (v : Value) (n p : Nat) (e : Ending) (w' : World) : Prop :=
  ∃ (u : Value) (xs : List Int) (y : Int), e = .returned (.tuple #[u, .int .i64 y]) ∧ atOk xs y ∧ Hid (Owns w' w.heap.size u xs) ∧ Hid (Only R w w')
theorem AtPost.mk {w : World} {B R : Nat} {v : Value} {n p : Nat} {u : Value} {xs : List Int} {y : Int} {w' : World} (h : atOk xs y) (ho : Owns w' w.heap.size u xs) (hn : Only R w w') : AtPost w B R v n p (.returned (.tuple #[u, .int .i64 y])) w' :=
  ⟨u, xs, y, rfl, h, hid ho, hid hn⟩
theorem Only.of_below {R : Nat} {w w' : World} (h : Below w.heap.size w w') : Only R w w' := ⟨h.os, h.tape, h.output, h.size, fun k hk _ => h.block k hk⟩
theorem Owns.at {W : World} {B g cap n : Nat} {xs : List Int} (h : Owns W B (.slice (some ⟨g, 0, none⟩) n cap) xs) {i : Nat} (hi : i < xs.length) : W.cell? ⟨g, i, none⟩ = some (.int .i64 (xs[i])) := by
  have hn : n = xs.length := by
    rcases h.2 with ⟨h3, _⟩ | ⟨g', cap', cur, h3, _⟩
    · cases h3
    · simp only [Value.slice.injEq] at h3; exact h3.2.1
  subst hn
  rw [World.ownsRow.cellAt h i (by omega), List.getElem?_map, List.getElem?_eq_getElem hi]
  rfl
theorem pickAt (B R : Nat) (v : Value) (n p : Nat) (hp : p ≤ 1000000000000000) (w2 : World) (HA : Hid (Rdr w2 B R v n p)) (C g cap : Nat) (xs : List Int) (HO : Hid (Owns w2 C (.slice (some ⟨g, 0, none⟩) xs.length cap) xs)) (hRC : R < C) (hl : 0 < xs.length) (hl2 : xs.length ≤ 1000) :
    Calls Try.prog 73 #[.pointer (some ⟨R, 0, none⟩), .int .i64 xs.length] w2.drew fun e w' => ∃ (y pv : Int), e = .returned (.int .i64 y) ∧ 0 ≤ y ∧ y < xs.length ∧ w'.cell? ⟨g, y.toNat, none⟩ = some (.int .i64 pv) ∧ pv ∈ xs ∧ Hid (Only R w2 w') := by
  refine (pick_any _ _ _ _ p (xs.length : Int) (by omega) (by omega) (by omega) _ HA.out.drew').mono ?_
  rintro e w3 ⟨y, r, rfl, hy0, hy1, _, hr, HC, HP⟩
  replace hy1 := hy1 (by omega)
  have HQ := HP.out.of_drew'
  have hi : y.toNat < xs.length := by omega
  exact ⟨y, xs[y.toNat], rfl, hy0, hy1, (HO.out.only HQ hRC).at hi, List.getElem_mem hi, hid HQ⟩




end Go.Proofs.Ytdclmjmefkgbbab
