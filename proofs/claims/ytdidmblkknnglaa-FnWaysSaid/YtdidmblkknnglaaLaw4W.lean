/-
  Facts of chapter 3 over the rests, by the kernel: ways up to a prime.
-/
import Derived.Test.YtdidmblkknnglaaLaw3
set_option linter.unusedVariables false
namespace Go.Proofs.Ytdidmblkknnglaa
open Go.RowKit

theorem waysOk11 : waysOk 11 = true := by decide +kernel
theorem ways2 : (List.range 2).all (fun a => (List.range 2).all (fun b => decide (1 ≤ cntX (a : Int) (b : Int) 2 2))) = true := by decide +kernel

end Go.Proofs.Ytdidmblkknnglaa
