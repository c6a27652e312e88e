/-
  Slices of integers: of the call's own; to be read.
-/
import Derived.Test.YtdidmblkknnglaaNum
import Derived.BigQuiet
import Derived.Maps.AppendAt
set_option linter.unusedVariables false
namespace Go.Proofs.Ytdidmblkknnglaa
open Go.RowKit

/-- the value is a slice of the call's own that holds these numbers -/
def Owns (W : World) (B : Nat) (v : Value) (xs : List Int) : Prop := W.ownsRow B 3 1 v xs.length (xs.map (Value.int .i64))
theorem Owns.lt {W : World} {B : Nat} {v : Value} {xs : List Int} (h : Owns W B v xs) : ∀ g, v.ownBlock = some g → g < W.heap.size := fun g e => (World.ownsRow.lt h g e).2
theorem Owns.ge {W : World} {B : Nat} {v : Value} {xs : List Int} (h : Owns W B v xs) : ∀ g, v.ownBlock = some g → B ≤ g := fun g e => (World.ownsRow.lt h g e).1
theorem Owns.keep {W W' : World} {B C : Nat} {v : Value} {xs : List Int} (h : Owns W B v xs) (hlt : ∀ g, v.ownBlock = some g → g < C) (hb : Below C W W') : Owns W' B v xs := by
  obtain ⟨h1, h2⟩ := h
  refine ⟨h1, ?_⟩
  rcases h2 with h2 | ⟨g, cap, cur, hv, hg, hh, r⟩
  · exact .inl h2
  · exact .inr ⟨g, cap, cur, hv, hg, by rw [hb.block g (hlt g (by rw [hv]; rfl))]; exact hh, r⟩
theorem Owns.drewN {W : World} {B : Nat} {v : Value} {xs : List Int} (h : Owns W B v xs) (k : Nat) : Owns (W.drewN k) B v xs := h

/-- the value is a slice that reads as these numbers -/
def Rd (W : World) (v : Value) (xs : List Int) : Prop :=
  (∃ a cap, v = .slice a 0 cap ∧ xs = []) ∨
  ∃ b o cap, v = .slice (some ⟨b, o, none⟩) xs.length cap ∧ 0 < xs.length ∧ xs.length ≤ maxLen ∧ ∀ i, i < xs.length → W.cell? ⟨b, o + i, none⟩ = some (.int .i64 (xs.getD i 0))
theorem Owns.rd {W : World} {B : Nat} {v : Value} {xs : List Int} (h : Owns W B v xs) : Rd W v xs := by
  by_cases h0 : xs = []
  · subst h0
    left
    rcases h.2 with ⟨rfl, _⟩ | ⟨g, cap, _, rfl, _⟩
    · exact ⟨_, _, rfl, rfl⟩
    · exact ⟨_, _, rfl, rfl⟩
  · right
    have hl : 0 < xs.length := List.length_pos_iff.2 h0
    rcases h.2 with ⟨_, hn⟩ | ⟨g, cap, cur, hv, hg, hh, hc, hm, hs, _⟩
    · omega
    · subst hv
      refine ⟨g, 0, cap, rfl, hl, by omega, fun i hi => ?_⟩
      have := World.ownsRow.cellAt h i (by omega)
      rw [Nat.zero_add, this, List.getElem?_map, List.getElem?_eq_getElem hi]
      simp [List.getD, List.getElem?_eq_getElem hi]

end Go.Proofs.Ytdidmblkknnglaa
