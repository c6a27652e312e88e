/-
  Contracts of the program's chapter 5: the descent.
-/
import Derived.Test.YtbhlgdleklfonabZp2c0
import Derived.Test.YtbhlgdleklfonabZp2c1
import Derived.Test.YtbhlgdleklfonabZp2c2
set_option linter.unusedVariables false
namespace Go.Proofs.Ytbhlgdleklfonab
open Go.RowKit

theorem descend_step (N M t m : T3) (f : Nat) (hD : Desc N M f t m) (ih : ∀ f', f = f' + 1 → ∀ (t m : T3), Desc N M f' t m → ∀ w : World, Calls Try.prog 46 #[v6 t m] w fun e w' => e = .returned (v6 N M) ∧ Below w.heap.size w w') (w : World) :
    Calls Try.prog 46 #[v6 t m] w fun e w' => e = .returned (v6 N M) ∧ Below w.heap.size w w' := by
  by_cases c0 : 1 < Nat.gcd t.a.natAbs t.b.natAbs
  · exact descend_k0 N M t m f c0 hD ih w
  · by_cases c1 : 1 < Nat.gcd t.a.natAbs t.c.natAbs
    · exact descend_k1 N M t m f c0 c1 hD ih w
    · by_cases c2 : 1 < Nat.gcd t.b.natAbs t.c.natAbs
      · exact descend_k2 N M t m f c0 c1 c2 hD ih w
      · exact descend_k3 N M t m f c0 c1 c2 hD ih w
theorem descend_any (N M : T3) : ∀ (f : Nat) (t m : T3), Desc N M f t m → ∀ w : World, Calls Try.prog 46 #[v6 t m] w fun e w' => e = .returned (v6 N M) ∧ Below w.heap.size w w'
  | 0, t, m, h, w => descend_step N M t m 0 h (fun f' e => by cases e) w
  | f + 1, t, m, h, w => descend_step N M t m (f + 1) h (fun f' e => by cases e; exact descend_any N M f) w

end Go.Proofs.Ytbhlgdleklfonab
