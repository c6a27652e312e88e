/-
  No cell of these rows narrows 'for every input' (looked for: loops, veiled, ifaces, maps, wideKeys, modest, calm, conditions, laid).
  DERIVED. THE GIVEN ROWS OF THIS SEAT. 12 by the template 'for every input the law returns true; each argument reads behind the call as it read before'; 0 by the template 'total and deterministic' (their statements: YtehjiejijlboeaaTotals.lean).
  GIVEN WITH THE SEED: the statements are not yours to turn. If you find one false, say at which input.
  Laid BY PROGRAM, IN A SANDBOX (cutbox-rows.mjs): the forced cells as the released guide's own fill.sh prints them over the translation 27d81255c2e8e117… (all of the seat's roots in one cut). By AI agents, Wed Nov 11 2026. No macro, syntax, notation, axiom, sorry.
-/
import Derived.Test.YtehjiejijlboeaaChecked
import GoSem.Claim
import GoSem.ClaimJoined
import GoSem.ClaimMapViews
import Derived.JoinedTies
import Derived.KernelRfl
namespace Go.Proofs.Ytehjiejijlboeaa
/- THE CELL 'sum', in the pinned program and in every row, IS THE sha256 OF THE DUMP (.gsa) THAT YtehjiejijlboeaaProg.lean LOADS. Nothing in Lean hashes anything: it is a label: what it is worth is what the hold of that sum in a sandbox is worth. -/
noncomputable def Try.pinned : Pinned := { name := "ytehjiejijlboeaa", sum := "27d81255c2e8e117eed41d0509a32c01a06a63ccb29d59a0354bd8a09e2822fc", checked := Try.checked }
namespace Rows
def none {H : Type} : Left H := { results := [], args := [] }

/-- 'laws.FnPrime': WHATEVER THE INPUT: true; the input reads as it did. -/
def fnPrimeSpec : ChangeSpec := { name := "fnPrime", fn := fun _ => fun
  | [d] => { results := [.lit (.bool true)], args := [d] }
  | _ => none }
def fnPrimeRow : OpenClaim := { program := "ytehjiejijlboeaa", sum := "27d81255c2e8e117eed41d0509a32c01a06a63ccb29d59a0354bd8a09e2822fc", func := "loop.example/localglobal/laws.FnPrime", spec := "fnPrime", unfollowed := true, recurses := true, apart := false }
def FnPrimeSaid : Prop := fnPrimeRow.holds Try.pinned (OpenSpec.ofChange fnPrimeSpec)

/-- ITS FALSE NEIGHBOUR: 'it returns false'. Refute it at one input. -/
def fnPrimeWrong : ChangeSpec := { name := "fnPrime", fn := fun _ => fun
  | [d] => { results := [.lit (.bool false)], args := [d] }
  | _ => none }
def FnPrimeWrongFalsely : Prop := fnPrimeRow.holds Try.pinned (OpenSpec.ofChange fnPrimeWrong)

/-- 'laws.FnPrimesOf': WHATEVER THE INPUT: true; the input reads as it did. -/
def fnPrimesOfSpec : ChangeSpec := { name := "fnPrimesOf", fn := fun _ => fun
  | [d] => { results := [.lit (.bool true)], args := [d] }
  | _ => none }
def fnPrimesOfRow : OpenClaim := { program := "ytehjiejijlboeaa", sum := "27d81255c2e8e117eed41d0509a32c01a06a63ccb29d59a0354bd8a09e2822fc", func := "loop.example/localglobal/laws.FnPrimesOf", spec := "fnPrimesOf", unfollowed := true, recurses := true, apart := false }
def FnPrimesOfSaid : Prop := fnPrimesOfRow.holds Try.pinned (OpenSpec.ofChange fnPrimesOfSpec)

/-- ITS FALSE NEIGHBOUR: 'it returns false'. Refute it at one input. -/
def fnPrimesOfWrong : ChangeSpec := { name := "fnPrimesOf", fn := fun _ => fun
  | [d] => { results := [.lit (.bool false)], args := [d] }
  | _ => none }
def FnPrimesOfWrongFalsely : Prop := fnPrimesOfRow.holds Try.pinned (OpenSpec.ofChange fnPrimesOfWrong)

/-- 'laws.FnValuation': WHATEVER THE INPUT: true; the input reads as it did. -/
def fnValuationSpec : ChangeSpec := { name := "fnValuation", fn := fun _ => fun
  | [d] => { results := [.lit (.bool true)], args := [d] }
  | _ => none }
def fnValuationRow : OpenClaim := { program := "ytehjiejijlboeaa", sum := "27d81255c2e8e117eed41d0509a32c01a06a63ccb29d59a0354bd8a09e2822fc", func := "loop.example/localglobal/laws.FnValuation", spec := "fnValuation", unfollowed := true, recurses := true, apart := false }
def FnValuationSaid : Prop := fnValuationRow.holds Try.pinned (OpenSpec.ofChange fnValuationSpec)

/-- ITS FALSE NEIGHBOUR: 'it returns false'. Refute it at one input. -/
def fnValuationWrong : ChangeSpec := { name := "fnValuation", fn := fun _ => fun
  | [d] => { results := [.lit (.bool false)], args := [d] }
  | _ => none }
def FnValuationWrongFalsely : Prop := fnValuationRow.holds Try.pinned (OpenSpec.ofChange fnValuationWrong)

/-- 'laws.FnCore': WHATEVER THE INPUT: true; the input reads as it did. -/
def fnCoreSpec : ChangeSpec := { name := "fnCore", fn := fun _ => fun
  | [d] => { results := [.lit (.bool true)], args := [d] }
  | _ => none }
def fnCoreRow : OpenClaim := { program := "ytehjiejijlboeaa", sum := "27d81255c2e8e117eed41d0509a32c01a06a63ccb29d59a0354bd8a09e2822fc", func := "loop.example/localglobal/laws.FnCore", spec := "fnCore", unfollowed := true, recurses := true, apart := false }
def FnCoreSaid : Prop := fnCoreRow.holds Try.pinned (OpenSpec.ofChange fnCoreSpec)

/-- ITS FALSE NEIGHBOUR: 'it returns false'. Refute it at one input. -/
def fnCoreWrong : ChangeSpec := { name := "fnCore", fn := fun _ => fun
  | [d] => { results := [.lit (.bool false)], args := [d] }
  | _ => none }
def FnCoreWrongFalsely : Prop := fnCoreRow.holds Try.pinned (OpenSpec.ofChange fnCoreWrong)

/-- 'laws.FnSquare': WHATEVER THE INPUT: true; the input reads as it did. -/
def fnSquareSpec : ChangeSpec := { name := "fnSquare", fn := fun _ => fun
  | [d1, d2] => { results := [.lit (.bool true)], args := [d1, d2] }
  | _ => none }
def fnSquareRow : OpenClaim := { program := "ytehjiejijlboeaa", sum := "27d81255c2e8e117eed41d0509a32c01a06a63ccb29d59a0354bd8a09e2822fc", func := "loop.example/localglobal/laws.FnSquare", spec := "fnSquare", unfollowed := true, recurses := true, apart := false }
def FnSquareSaid : Prop := fnSquareRow.holds Try.pinned (OpenSpec.ofChange fnSquareSpec)

/-- ITS FALSE NEIGHBOUR: 'it returns false'. Refute it at one input. -/
def fnSquareWrong : ChangeSpec := { name := "fnSquare", fn := fun _ => fun
  | [d1, d2] => { results := [.lit (.bool false)], args := [d1, d2] }
  | _ => none }
def FnSquareWrongFalsely : Prop := fnSquareRow.holds Try.pinned (OpenSpec.ofChange fnSquareWrong)

/-- 'laws.FnPowerMod': WHATEVER THE INPUT: true; the input reads as it did. -/
def fnPowerModSpec : ChangeSpec := { name := "fnPowerMod", fn := fun _ => fun
  | [d] => { results := [.lit (.bool true)], args := [d] }
  | _ => none }
def fnPowerModRow : OpenClaim := { program := "ytehjiejijlboeaa", sum := "27d81255c2e8e117eed41d0509a32c01a06a63ccb29d59a0354bd8a09e2822fc", func := "loop.example/localglobal/laws.FnPowerMod", spec := "fnPowerMod", apart := false }
def FnPowerModSaid : Prop := fnPowerModRow.holds Try.pinned (OpenSpec.ofChange fnPowerModSpec)

/-- ITS FALSE NEIGHBOUR: 'it returns false'. Refute it at one input. -/
def fnPowerModWrong : ChangeSpec := { name := "fnPowerMod", fn := fun _ => fun
  | [d] => { results := [.lit (.bool false)], args := [d] }
  | _ => none }
def FnPowerModWrongFalsely : Prop := fnPowerModRow.holds Try.pinned (OpenSpec.ofChange fnPowerModWrong)

/-- 'laws.FnInverse': WHATEVER THE INPUT: true; the input reads as it did. -/
def fnInverseSpec : ChangeSpec := { name := "fnInverse", fn := fun _ => fun
  | [d] => { results := [.lit (.bool true)], args := [d] }
  | _ => none }
def fnInverseRow : OpenClaim := { program := "ytehjiejijlboeaa", sum := "27d81255c2e8e117eed41d0509a32c01a06a63ccb29d59a0354bd8a09e2822fc", func := "loop.example/localglobal/laws.FnInverse", spec := "fnInverse", apart := false }
def FnInverseSaid : Prop := fnInverseRow.holds Try.pinned (OpenSpec.ofChange fnInverseSpec)

/-- ITS FALSE NEIGHBOUR: 'it returns false'. Refute it at one input. -/
def fnInverseWrong : ChangeSpec := { name := "fnInverse", fn := fun _ => fun
  | [d] => { results := [.lit (.bool false)], args := [d] }
  | _ => none }
def FnInverseWrongFalsely : Prop := fnInverseRow.holds Try.pinned (OpenSpec.ofChange fnInverseWrong)

/-- 'laws.FnResidue': WHATEVER THE INPUT: true; the input reads as it did. -/
def fnResidueSpec : ChangeSpec := { name := "fnResidue", fn := fun _ => fun
  | [d1, d2] => { results := [.lit (.bool true)], args := [d1, d2] }
  | _ => none }
def fnResidueRow : OpenClaim := { program := "ytehjiejijlboeaa", sum := "27d81255c2e8e117eed41d0509a32c01a06a63ccb29d59a0354bd8a09e2822fc", func := "loop.example/localglobal/laws.FnResidue", spec := "fnResidue", unfollowed := true, recurses := true, apart := false }
def FnResidueSaid : Prop := fnResidueRow.holds Try.pinned (OpenSpec.ofChange fnResidueSpec)

/-- ITS FALSE NEIGHBOUR: 'it returns false'. Refute it at one input. -/
def fnResidueWrong : ChangeSpec := { name := "fnResidue", fn := fun _ => fun
  | [d1, d2] => { results := [.lit (.bool false)], args := [d1, d2] }
  | _ => none }
def FnResidueWrongFalsely : Prop := fnResidueRow.holds Try.pinned (OpenSpec.ofChange fnResidueWrong)

/-- 'laws.FnReciprocity': WHATEVER THE INPUT: true; the input reads as it did. -/
def fnReciprocitySpec : ChangeSpec := { name := "fnReciprocity", fn := fun _ => fun
  | [d] => { results := [.lit (.bool true)], args := [d] }
  | _ => none }
def fnReciprocityRow : OpenClaim := { program := "ytehjiejijlboeaa", sum := "27d81255c2e8e117eed41d0509a32c01a06a63ccb29d59a0354bd8a09e2822fc", func := "loop.example/localglobal/laws.FnReciprocity", spec := "fnReciprocity", unfollowed := true, recurses := true, apart := false }
def FnReciprocitySaid : Prop := fnReciprocityRow.holds Try.pinned (OpenSpec.ofChange fnReciprocitySpec)

/-- ITS FALSE NEIGHBOUR: 'it returns false'. Refute it at one input. -/
def fnReciprocityWrong : ChangeSpec := { name := "fnReciprocity", fn := fun _ => fun
  | [d] => { results := [.lit (.bool false)], args := [d] }
  | _ => none }
def FnReciprocityWrongFalsely : Prop := fnReciprocityRow.holds Try.pinned (OpenSpec.ofChange fnReciprocityWrong)

/-- 'laws.FnJacobi': WHATEVER THE INPUT: true; the input reads as it did. -/
def fnJacobiSpec : ChangeSpec := { name := "fnJacobi", fn := fun _ => fun
  | [d1, d2] => { results := [.lit (.bool true)], args := [d1, d2] }
  | _ => none }
def fnJacobiRow : OpenClaim := { program := "ytehjiejijlboeaa", sum := "27d81255c2e8e117eed41d0509a32c01a06a63ccb29d59a0354bd8a09e2822fc", func := "loop.example/localglobal/laws.FnJacobi", spec := "fnJacobi", unfollowed := true, recurses := true, apart := false }
def FnJacobiSaid : Prop := fnJacobiRow.holds Try.pinned (OpenSpec.ofChange fnJacobiSpec)

/-- ITS FALSE NEIGHBOUR: 'it returns false'. Refute it at one input. -/
def fnJacobiWrong : ChangeSpec := { name := "fnJacobi", fn := fun _ => fun
  | [d1, d2] => { results := [.lit (.bool false)], args := [d1, d2] }
  | _ => none }
def FnJacobiWrongFalsely : Prop := fnJacobiRow.holds Try.pinned (OpenSpec.ofChange fnJacobiWrong)

/-- 'laws.FnRoot': WHATEVER THE INPUT: true; the input reads as it did. -/
def fnRootSpec : ChangeSpec := { name := "fnRoot", fn := fun _ => fun
  | [d] => { results := [.lit (.bool true)], args := [d] }
  | _ => none }
def fnRootRow : OpenClaim := { program := "ytehjiejijlboeaa", sum := "27d81255c2e8e117eed41d0509a32c01a06a63ccb29d59a0354bd8a09e2822fc", func := "loop.example/localglobal/laws.FnRoot", spec := "fnRoot", apart := false }
def FnRootSaid : Prop := fnRootRow.holds Try.pinned (OpenSpec.ofChange fnRootSpec)

/-- ITS FALSE NEIGHBOUR: 'it returns false'. Refute it at one input. -/
def fnRootWrong : ChangeSpec := { name := "fnRoot", fn := fun _ => fun
  | [d] => { results := [.lit (.bool false)], args := [d] }
  | _ => none }
def FnRootWrongFalsely : Prop := fnRootRow.holds Try.pinned (OpenSpec.ofChange fnRootWrong)

/-- 'laws.FnNonResidue': WHATEVER THE INPUT: true; the input reads as it did. -/
def fnNonResidueSpec : ChangeSpec := { name := "fnNonResidue", fn := fun _ => fun
  | [d] => { results := [.lit (.bool true)], args := [d] }
  | _ => none }
def fnNonResidueRow : OpenClaim := { program := "ytehjiejijlboeaa", sum := "27d81255c2e8e117eed41d0509a32c01a06a63ccb29d59a0354bd8a09e2822fc", func := "loop.example/localglobal/laws.FnNonResidue", spec := "fnNonResidue", unfollowed := true, recurses := true, apart := false }
def FnNonResidueSaid : Prop := fnNonResidueRow.holds Try.pinned (OpenSpec.ofChange fnNonResidueSpec)

/-- ITS FALSE NEIGHBOUR: 'it returns false'. Refute it at one input. -/
def fnNonResidueWrong : ChangeSpec := { name := "fnNonResidue", fn := fun _ => fun
  | [d] => { results := [.lit (.bool false)], args := [d] }
  | _ => none }
def FnNonResidueWrongFalsely : Prop := fnNonResidueRow.holds Try.pinned (OpenSpec.ofChange fnNonResidueWrong)

/- THE SECOND FORM. 'bulk': how many values and letters a reading holds, each counted each time it is reached (what is shared counts as often as it is met; a slice's spare places count too). A statement '..UptoSaid' is the law's where the arguments, and the package variables that the reading takes, are together of bulk at most 1048576: NARROWER than '..Said'. Prove '..Said' where nothing that the law and all that it calls make is longer than what came in: it says more and counts as full. Else prove '..UptoSaid'. A law counts once. -/
mutual
def uptoBulk {H : Type} : DataW H → Nat
  | .lit (.string bytes) => bytes.length + 1
  | .lit _ => 1
  | .nil => 1
  | .ptr d => uptoBulk d + 1
  | .slice elems spare => uptoBulkAll elems + uptoBulkAll spare + 1
  | .agg parts => uptoBulkAll parts + 1
  | .iface _ d => uptoBulk d + 1
  | .map entries => uptoBulkEntries entries + 1
  | .held _ => 1
def uptoBulkAll {H : Type} : List (DataW H) → Nat
  | [] => 0
  | d :: r => uptoBulk d + uptoBulkAll r
def uptoBulkEntries {H : Type} : List (Lit × DataW H) → Nat
  | [] => 0
  | x :: r => uptoBulkEntry x + uptoBulkEntries r
def uptoBulkEntry {H : Type} : Lit × DataW H → Nat
  | (.string bytes, d) => bytes.length + uptoBulk d + 1
  | (_, d) => uptoBulk d + 1
 end
def uptoSmall : (H : Type) → List (DataW H) → Bool := fun _ ds => decide (uptoBulkAll ds ≤ 1048576)
def OpenSpec.upto (s : _root_.Go.ChangeSpec) : _root_.Go.OpenSpec := { _root_.Go.OpenSpec.ofChange s with cond := some uptoSmall }

/-- 'laws.FnPrime', WHERE WHAT IT READS IS OF BULK AT MOST 1048576: true; the input reads as it did. -/
def fnPrimeUptoRow : OpenClaim := { program := "ytehjiejijlboeaa", sum := "27d81255c2e8e117eed41d0509a32c01a06a63ccb29d59a0354bd8a09e2822fc", func := "loop.example/localglobal/laws.FnPrime", spec := "fnPrime", unfollowed := true, recurses := true, apart := false, narrowed := true }
def FnPrimeUptoSaid : Prop := fnPrimeUptoRow.holds Try.pinned (OpenSpec.upto fnPrimeSpec)

/-- 'laws.FnPrimesOf', WHERE WHAT IT READS IS OF BULK AT MOST 1048576: true; the input reads as it did. -/
def fnPrimesOfUptoRow : OpenClaim := { program := "ytehjiejijlboeaa", sum := "27d81255c2e8e117eed41d0509a32c01a06a63ccb29d59a0354bd8a09e2822fc", func := "loop.example/localglobal/laws.FnPrimesOf", spec := "fnPrimesOf", unfollowed := true, recurses := true, apart := false, narrowed := true }
def FnPrimesOfUptoSaid : Prop := fnPrimesOfUptoRow.holds Try.pinned (OpenSpec.upto fnPrimesOfSpec)

/-- 'laws.FnValuation', WHERE WHAT IT READS IS OF BULK AT MOST 1048576: true; the input reads as it did. -/
def fnValuationUptoRow : OpenClaim := { program := "ytehjiejijlboeaa", sum := "27d81255c2e8e117eed41d0509a32c01a06a63ccb29d59a0354bd8a09e2822fc", func := "loop.example/localglobal/laws.FnValuation", spec := "fnValuation", unfollowed := true, recurses := true, apart := false, narrowed := true }
def FnValuationUptoSaid : Prop := fnValuationUptoRow.holds Try.pinned (OpenSpec.upto fnValuationSpec)

/-- 'laws.FnCore', WHERE WHAT IT READS IS OF BULK AT MOST 1048576: true; the input reads as it did. -/
def fnCoreUptoRow : OpenClaim := { program := "ytehjiejijlboeaa", sum := "27d81255c2e8e117eed41d0509a32c01a06a63ccb29d59a0354bd8a09e2822fc", func := "loop.example/localglobal/laws.FnCore", spec := "fnCore", unfollowed := true, recurses := true, apart := false, narrowed := true }
def FnCoreUptoSaid : Prop := fnCoreUptoRow.holds Try.pinned (OpenSpec.upto fnCoreSpec)

/-- 'laws.FnSquare', WHERE WHAT IT READS IS OF BULK AT MOST 1048576: true; the input reads as it did. -/
def fnSquareUptoRow : OpenClaim := { program := "ytehjiejijlboeaa", sum := "27d81255c2e8e117eed41d0509a32c01a06a63ccb29d59a0354bd8a09e2822fc", func := "loop.example/localglobal/laws.FnSquare", spec := "fnSquare", unfollowed := true, recurses := true, apart := false, narrowed := true }
def FnSquareUptoSaid : Prop := fnSquareUptoRow.holds Try.pinned (OpenSpec.upto fnSquareSpec)

/-- 'laws.FnPowerMod', WHERE WHAT IT READS IS OF BULK AT MOST 1048576: true; the input reads as it did. -/
def fnPowerModUptoRow : OpenClaim := { program := "ytehjiejijlboeaa", sum := "27d81255c2e8e117eed41d0509a32c01a06a63ccb29d59a0354bd8a09e2822fc", func := "loop.example/localglobal/laws.FnPowerMod", spec := "fnPowerMod", apart := false, narrowed := true }
def FnPowerModUptoSaid : Prop := fnPowerModUptoRow.holds Try.pinned (OpenSpec.upto fnPowerModSpec)

/-- 'laws.FnInverse', WHERE WHAT IT READS IS OF BULK AT MOST 1048576: true; the input reads as it did. -/
def fnInverseUptoRow : OpenClaim := { program := "ytehjiejijlboeaa", sum := "27d81255c2e8e117eed41d0509a32c01a06a63ccb29d59a0354bd8a09e2822fc", func := "loop.example/localglobal/laws.FnInverse", spec := "fnInverse", apart := false, narrowed := true }
def FnInverseUptoSaid : Prop := fnInverseUptoRow.holds Try.pinned (OpenSpec.upto fnInverseSpec)

/-- 'laws.FnResidue', WHERE WHAT IT READS IS OF BULK AT MOST 1048576: true; the input reads as it did. -/
def fnResidueUptoRow : OpenClaim := { program := "ytehjiejijlboeaa", sum := "27d81255c2e8e117eed41d0509a32c01a06a63ccb29d59a0354bd8a09e2822fc", func := "loop.example/localglobal/laws.FnResidue", spec := "fnResidue", unfollowed := true, recurses := true, apart := false, narrowed := true }
def FnResidueUptoSaid : Prop := fnResidueUptoRow.holds Try.pinned (OpenSpec.upto fnResidueSpec)

/-- 'laws.FnReciprocity', WHERE WHAT IT READS IS OF BULK AT MOST 1048576: true; the input reads as it did. -/
def fnReciprocityUptoRow : OpenClaim := { program := "ytehjiejijlboeaa", sum := "27d81255c2e8e117eed41d0509a32c01a06a63ccb29d59a0354bd8a09e2822fc", func := "loop.example/localglobal/laws.FnReciprocity", spec := "fnReciprocity", unfollowed := true, recurses := true, apart := false, narrowed := true }
def FnReciprocityUptoSaid : Prop := fnReciprocityUptoRow.holds Try.pinned (OpenSpec.upto fnReciprocitySpec)

/-- 'laws.FnJacobi', WHERE WHAT IT READS IS OF BULK AT MOST 1048576: true; the input reads as it did. -/
def fnJacobiUptoRow : OpenClaim := { program := "ytehjiejijlboeaa", sum := "27d81255c2e8e117eed41d0509a32c01a06a63ccb29d59a0354bd8a09e2822fc", func := "loop.example/localglobal/laws.FnJacobi", spec := "fnJacobi", unfollowed := true, recurses := true, apart := false, narrowed := true }
def FnJacobiUptoSaid : Prop := fnJacobiUptoRow.holds Try.pinned (OpenSpec.upto fnJacobiSpec)

/-- 'laws.FnRoot', WHERE WHAT IT READS IS OF BULK AT MOST 1048576: true; the input reads as it did. -/
def fnRootUptoRow : OpenClaim := { program := "ytehjiejijlboeaa", sum := "27d81255c2e8e117eed41d0509a32c01a06a63ccb29d59a0354bd8a09e2822fc", func := "loop.example/localglobal/laws.FnRoot", spec := "fnRoot", apart := false, narrowed := true }
def FnRootUptoSaid : Prop := fnRootUptoRow.holds Try.pinned (OpenSpec.upto fnRootSpec)

/-- 'laws.FnNonResidue', WHERE WHAT IT READS IS OF BULK AT MOST 1048576: true; the input reads as it did. -/
def fnNonResidueUptoRow : OpenClaim := { program := "ytehjiejijlboeaa", sum := "27d81255c2e8e117eed41d0509a32c01a06a63ccb29d59a0354bd8a09e2822fc", func := "loop.example/localglobal/laws.FnNonResidue", spec := "fnNonResidue", unfollowed := true, recurses := true, apart := false, narrowed := true }
def FnNonResidueUptoSaid : Prop := fnNonResidueUptoRow.holds Try.pinned (OpenSpec.upto fnNonResidueSpec)

end Rows
end Go.Proofs.Ytehjiejijlboeaa
