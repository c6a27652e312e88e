/-
  A region that draws its order, by an invariant over what has been done: inside a fence.
-/
import Derived.Test.YtjabklpnohfjpabQBun20
import Derived.OrdersIn
set_option linter.unusedVariables false
namespace Go.Proofs.Ytjabklpnohfjpab
open Go.RowKit

section
variable {F : Fence} {n : Nat} {P : Program} {ops : Array Oper} {Q : Exit → Act → World → Prop} {md : Region.Mode}
theorem any_invIn {I : Array Bool → Act → World → Prop} (hend : ∀ L a w, I L a w → Region.ready md ops L = [] → Q .normal a w)
    (hstep : ∀ L a w i, I L a w → i ∈ Region.ready md ops L → wpOpIn F n P ops Q i (I (L.setIfInBounds i true)) a w) :
    ∀ (fuel : Nat) (L : Array Bool) (a : Act) (w : World), openN L ≤ fuel → I L a w → wpAnyIn F n P md ops Q fuel L a w := by
  intro fuel
  induction fuel with
  | zero => intro L a w hf h; exact ⟨open_ready (by omega), hend L a w h (open_ready (by omega))⟩
  | succ fuel ih =>
    intro L a w hf h
    refine ⟨hend L a w h, fun i hi => ?_⟩
    have ho := open_set (ready_mem hi).2.1
    exact wpOpIn_mono (fun a w hI => ih _ a w (by omega) hI) (hstep L a w i h hi)
/-- inside a fence: what holds at a region's beginning and is kept by each operation that may come up holds at its end -/
theorem region_invIn {id : Nat} {a : Act} {w : World} (hm : P.follows .mixedOrders = true) (I : Array Bool → Act → World → Prop)
    (h0 : I (Array.replicate ops.size false) a w.drew) (hend : ∀ L a w, I L a w → Region.ready .any ops L = [] → Q .normal a w)
    (hstep : ∀ L a w i, I L a w → i ∈ Region.ready .any ops L → wpOpIn F n P ops Q i (I (L.setIfInBounds i true)) a w) : (Code.region id ops true).wpIn F n P Q a w :=
  wpIn_region_any hm (any_invIn hend hstep _ _ _ _ (by rw [open_new]; exact Nat.le_refl _) h0)
end

end Go.Proofs.Ytjabklpnohfjpab
