/-
  Numbers within 10^14 are not wrapped.
-/
import Derived.Test.YtenibnblibnocaaBun0
set_option linter.unusedVariables false
namespace Go.Proofs.Ytenibnblibnocaa
open Go.RowKit

theorem wrapW {x : Int} (h1 : -100000000000000 ≤ x) (h2 : x ≤ 100000000000000) : IntKind.i64.wrap x = x := by rw [IntKind.wrap_i64]; omega
theorem below_dw {n : Nat} {w w' : World} (h : Below n w w') : Below n w w'.drew := ⟨h.os, h.tape, h.output, h.size, h.block⟩
theorem below_box2 (w : World) (o : Obj) : Below w.heap.size w (w.alloc o) := (Below.refl _ _).alloc (Nat.le_refl _) _

end Go.Proofs.Ytenibnblibnocaa
