/-
  Some texts in one file: Draws1 Draws2 Draws6 Jac2 Region.
-/
import Derived.Test.YtbhlgdleklfonabDraws
import Derived.Maps.AppendAt
import Derived.Test.YtbhlgdleklfonabBun5
import Derived.Deep.RegionWith
import Derived.Deep.RegionHeld3
import Derived.IntWalk
import Derived.Laws.AppendOwnNone
/-! Draws1 -/
set_option linter.unusedVariables false
namespace Go.Proofs.Ytbhlgdleklfonab
open Go.RowKit

def Drew1 (P : Int → Prop) (w : World) (e : Ending) (w' : World) : Prop := ∃ x : Int, e = .returned (.int .i64 x) ∧ P x ∧ Below w.heap.size w w'
def Drew2 (P : Int → Int → Prop) (w : World) (e : Ending) (w' : World) : Prop := ∃ x y : Int, e = .returned (.tuple #[.int .i64 x, .int .i64 y]) ∧ P x y ∧ Below w.heap.size w w'
def Drew3 (P : Int → Int → Int → Prop) (w : World) (e : Ending) (w' : World) : Prop := ∃ x y z : Int, e = .returned (.tuple #[.int .i64 x, .int .i64 y, .int .i64 z]) ∧ P x y z ∧ Below w.heap.size w w'
theorem Drew1.mk {P : Int → Prop} {w w' : World} {x : Int} (h : P x) (hb : Below w.heap.size w w') : Drew1 P w (.returned (.int .i64 x)) w' := ⟨x, rfl, h, hb⟩
theorem Drew2.mk {P : Int → Int → Prop} {w w' : World} {x y : Int} (h : P x y) (hb : Below w.heap.size w w') : Drew2 P w (.returned (.tuple #[.int .i64 x, .int .i64 y])) w' := ⟨x, y, rfl, h, hb⟩
theorem Drew3.mk {P : Int → Int → Int → Prop} {w w' : World} {x y z : Int} (h : P x y z) (hb : Below w.heap.size w w') : Drew3 P w (.returned (.tuple #[.int .i64 x, .int .i64 y, .int .i64 z])) w' := ⟨x, y, z, rfl, h, hb⟩
theorem only_below {w w1 w2 : World} (hb : Below w.heap.size w w1) (ho : Only w.heap.size w1 w2) : Below w.heap.size w w2 := hb.trans (ho.below (Nat.le_refl _) hb.size)

/-- ranges -/
def smallI (x : Int) : Prop := -6000 ≤ x ∧ x ≤ 6000
theorem numOk_small {x : Int} (h : numOk x) : -5001 ≤ x ∧ x ≤ 5001 := by unfold numOk at h; omega
theorem prOk_small {x : Int} (h : prOk x) : -3 ≤ x ∧ x ≤ 97 := by unfold prOk at h; omega

end Go.Proofs.Ytbhlgdleklfonab

/-! Draws2 -/
set_option linter.unusedVariables false
namespace Go.Proofs.Ytbhlgdleklfonab
open Go.RowKit

/-- the numbers of l91Local -/
def locOk (x : Int) : Prop := numOk x ∨ ∃ a k : Int, 1 ≤ a ∧ a ≤ 9 ∧ 0 ≤ k ∧ k ≤ 2 ∧ x = a * a * (1 + k * 8)
theorem locOk_small {x : Int} (h : locOk x) : -5001 ≤ x ∧ x ≤ 5001 := by
  rcases h with h | ⟨a, k, a1, a9, k0, k2, rfl⟩
  · exact numOk_small h
  · have h1 : a = 1 ∨ a = 2 ∨ a = 3 ∨ a = 4 ∨ a = 5 ∨ a = 6 ∨ a = 7 ∨ a = 8 ∨ a = 9 := by omega
    rcases h1 with rfl | rfl | rfl | rfl | rfl | rfl | rfl | rfl | rfl <;> omega
/-- the second number of l91Pair -/
def parOk (a b : Int) : Prop := numOk b ∨ ∃ x : Int, 1 ≤ x ∧ x ≤ 8 ∧ b = a * x * x
theorem parOk_small {a b : Int} (ha : numOk a) (h : parOk a b) : -320064 ≤ b ∧ b ≤ 320064 := by
  rcases h with h | ⟨x, x1, x8, rfl⟩
  · have := numOk_small h; omega
  · have := numOk_small ha
    have h1 : x = 1 ∨ x = 2 ∨ x = 3 ∨ x = 4 ∨ x = 5 ∨ x = 6 ∨ x = 7 ∨ x = 8 := by omega
    rcases h1 with rfl | rfl | rfl | rfl | rfl | rfl | rfl | rfl <;> omega

end Go.Proofs.Ytbhlgdleklfonab

/-! Draws6 -/
set_option linter.unusedVariables false
namespace Go.Proofs.Ytbhlgdleklfonab
open Go.RowKit


end Go.Proofs.Ytbhlgdleklfonab

/-! Jac2 -/
set_option linter.unusedVariables false
namespace Go.Proofs.Ytbhlgdleklfonab
open Go.RowKit Go.Shelf
attribute [local go_sem] Oper.semAt_some

theorem others_of_below {W W' : World} (h : Below W.heap.size W W') : KeepsOthers W W' := ⟨h.size, fun k o hk _ => by
  rw [h.block k (Array.getElem?_eq_some_iff.1 hk).1]; exact hk⟩
theorem below_of_drew {W W' : World} (h : Below W.drew.heap.size W.drew W') : Below W.heap.size W W' := ⟨h.os, h.tape, h.output, h.size, h.block⟩
theorem boxed_below {W W' : World} {B : Nat} {t : TypeId} {v : Value} (h : Boxed W B t v) (hb : Below W.heap.size W W') : Boxed W' B t v := (hb.block B h.lt).trans h

def jacP (n : Int) (l : List PP) : Int := jacW n (l.map (·.1))
theorem jacP_snoc (n : Int) (l : List PP) (x : PP) : jacP n (l ++ [x]) = jmW (jacP n l) (resV n (x.1.1 : Int)) x.1.2 := by
  unfold jacP; rw [List.map_append]; exact jacW_step n _ _

end Go.Proofs.Ytbhlgdleklfonab

/-! Region -/
set_option linter.unusedVariables false
namespace Go.Proofs.Ytbhlgdleklfonab
open Go.RowKit

theorem pred_nat (J : Nat) (h : J ≤ 1000) : IntKind.i64.wrap (((J + 1 : Nat) : Int) - 1) = (J : Int) := by
  rw [IntWalk.i64_in _ (by omega)]; omega

section
variable {P : Program} {ops : Array Oper} {Q : Exit → Act → World → Prop} {md : Region.Mode} {S : World → Prop}
theorem h_take (oi : Oper) {i : Nat} {d : Option Tmp} {v : Value} {fuel : Nat} {listed : Array Bool} {a : Act} {w : World} (hi : ops[i]? = some oi) (hd : oi.dst = d)
    (hs : Region.noSelect ops = true) (hf : Region.free md ops listed i = true) (hr : (Region.ready md ops listed).contains i = true)
    (hQ : ∀ c a w, Q (.panic c) (a.put d v) w → Q (.panic c) a w) (hw : Region.wanted oi (yielded ops a.tmps) = true)
    (hy : ∀ w, S w → (execOp a.eval oi).run P w = .ok (.value v) w) (hS : S w)
    (h : wpAnyH P md ops Q S fuel (listed.setIfInBounds i true) (a.put d v) w) : wpAnyH P md ops Q S (fuel + 1) listed a w := by
  subst hd; exact wpAnyH_take hi hs hf hr hQ (.inl ⟨hw, hy⟩) hS h
theorem h_skip (oi : Oper) {i : Nat} {d : Option Tmp} {fuel : Nat} {listed : Array Bool} {a : Act} {w : World} (hi : ops[i]? = some oi) (hd : oi.dst = d)
    (hs : Region.noSelect ops = true) (hf : Region.free md ops listed i = true) (hr : (Region.ready md ops listed).contains i = true)
    (hQ : ∀ c a w, Q (.panic c) (a.put d undef) w → Q (.panic c) a w) (hw : Region.wanted oi (yielded ops a.tmps) = false) (hS : S w)
    (h : wpAnyH P md ops Q S fuel (listed.setIfInBounds i true) (a.put d undef) w) : wpAnyH P md ops Q S (fuel + 1) listed a w := by
  subst hd; exact wpAnyH_take hi hs hf hr hQ (.inr ⟨hw, rfl⟩) hS h
end

end Go.Proofs.Ytbhlgdleklfonab
