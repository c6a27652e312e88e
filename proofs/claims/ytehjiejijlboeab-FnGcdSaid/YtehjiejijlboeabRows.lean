/-
  No cell of these rows narrows 'for every input' (looked for: loops, veiled, ifaces, maps, wideKeys, modest, calm, conditions, laid).
  DERIVED. THE GIVEN ROWS OF THIS SEAT. 12 by the template 'for every input the law returns true; each argument reads behind the call as it read before'; 0 by the template 'total and deterministic' (their statements: YtehjiejijlboeabTotals.lean).
  GIVEN WITH THE SEED: the statements are not yours to turn. If you find one false, say at which input.
  Laid BY PROGRAM, IN A SANDBOX (cutbox-rows.mjs): the forced cells as the released guide's own fill.sh prints them over the translation 9b33bbea11996fc9… (all of the seat's roots in one cut). By AI agents, Wed Nov 11 2026. No macro, syntax, notation, axiom, sorry.
-/
import Derived.Test.YtehjiejijlboeabChecked
import GoSem.Claim
import GoSem.ClaimJoined
import GoSem.ClaimMapViews
import Derived.JoinedTies
import Derived.KernelRfl
namespace Go.Proofs.Ytehjiejijlboeab
/- THE CELL 'sum', in the pinned program and in every row, IS THE sha256 OF THE DUMP (.gsa) THAT YtehjiejijlboeabProg.lean LOADS. Nothing in Lean hashes anything: it is a label: what it is worth is what the hold of that sum in a sandbox is worth. -/
noncomputable def Try.pinned : Pinned := { name := "ytehjiejijlboeab", sum := "9b33bbea11996fc973f364cd5dcd3f1661224ec35b959049a6f4ba97ae677700", checked := Try.checked }
namespace Rows
def none {H : Type} : Left H := { results := [], args := [] }

/-- 'laws.FnGcd': WHATEVER THE INPUT: true; the input reads as it did. -/
def fnGcdSpec : ChangeSpec := { name := "fnGcd", fn := fun _ => fun
  | [d] => { results := [.lit (.bool true)], args := [d] }
  | _ => none }
def fnGcdRow : OpenClaim := { program := "ytehjiejijlboeab", sum := "9b33bbea11996fc973f364cd5dcd3f1661224ec35b959049a6f4ba97ae677700", func := "loop.example/localglobal/laws.FnGcd", spec := "fnGcd", apart := false }
def FnGcdSaid : Prop := fnGcdRow.holds Try.pinned (OpenSpec.ofChange fnGcdSpec)

/-- ITS FALSE NEIGHBOUR: 'it returns false'. Refute it at one input. -/
def fnGcdWrong : ChangeSpec := { name := "fnGcd", fn := fun _ => fun
  | [d] => { results := [.lit (.bool false)], args := [d] }
  | _ => none }
def FnGcdWrongFalsely : Prop := fnGcdRow.holds Try.pinned (OpenSpec.ofChange fnGcdWrong)

/-- 'laws.FnExactPrimeIs': WHATEVER THE INPUT: true; the input reads as it did. -/
def fnExactPrimeIsSpec : ChangeSpec := { name := "fnExactPrimeIs", fn := fun _ => fun
  | [d] => { results := [.lit (.bool true)], args := [d] }
  | _ => none }
def fnExactPrimeIsRow : OpenClaim := { program := "ytehjiejijlboeab", sum := "9b33bbea11996fc973f364cd5dcd3f1661224ec35b959049a6f4ba97ae677700", func := "loop.example/localglobal/laws.FnExactPrimeIs", spec := "fnExactPrimeIs", unfollowed := true, recurses := true, apart := false }
def FnExactPrimeIsSaid : Prop := fnExactPrimeIsRow.holds Try.pinned (OpenSpec.ofChange fnExactPrimeIsSpec)

/-- ITS FALSE NEIGHBOUR: 'it returns false'. Refute it at one input. -/
def fnExactPrimeIsWrong : ChangeSpec := { name := "fnExactPrimeIs", fn := fun _ => fun
  | [d] => { results := [.lit (.bool false)], args := [d] }
  | _ => none }
def FnExactPrimeIsWrongFalsely : Prop := fnExactPrimeIsRow.holds Try.pinned (OpenSpec.ofChange fnExactPrimeIsWrong)

/-- 'laws.FnExactPrimesOf': WHATEVER THE INPUT: true; the input reads as it did. -/
def fnExactPrimesOfSpec : ChangeSpec := { name := "fnExactPrimesOf", fn := fun _ => fun
  | [d] => { results := [.lit (.bool true)], args := [d] }
  | _ => none }
def fnExactPrimesOfRow : OpenClaim := { program := "ytehjiejijlboeab", sum := "9b33bbea11996fc973f364cd5dcd3f1661224ec35b959049a6f4ba97ae677700", func := "loop.example/localglobal/laws.FnExactPrimesOf", spec := "fnExactPrimesOf", unfollowed := true, recurses := true, apart := false }
def FnExactPrimesOfSaid : Prop := fnExactPrimesOfRow.holds Try.pinned (OpenSpec.ofChange fnExactPrimesOfSpec)

/-- ITS FALSE NEIGHBOUR: 'it returns false'. Refute it at one input. -/
def fnExactPrimesOfWrong : ChangeSpec := { name := "fnExactPrimesOf", fn := fun _ => fun
  | [d] => { results := [.lit (.bool false)], args := [d] }
  | _ => none }
def FnExactPrimesOfWrongFalsely : Prop := fnExactPrimesOfRow.holds Try.pinned (OpenSpec.ofChange fnExactPrimesOfWrong)

/-- 'laws.FnExactValuationOf': WHATEVER THE INPUT: true; the input reads as it did. -/
def fnExactValuationOfSpec : ChangeSpec := { name := "fnExactValuationOf", fn := fun _ => fun
  | [d1, d2] => { results := [.lit (.bool true)], args := [d1, d2] }
  | _ => none }
def fnExactValuationOfRow : OpenClaim := { program := "ytehjiejijlboeab", sum := "9b33bbea11996fc973f364cd5dcd3f1661224ec35b959049a6f4ba97ae677700", func := "loop.example/localglobal/laws.FnExactValuationOf", spec := "fnExactValuationOf", unfollowed := true, recurses := true, apart := false }
def FnExactValuationOfSaid : Prop := fnExactValuationOfRow.holds Try.pinned (OpenSpec.ofChange fnExactValuationOfSpec)

/-- ITS FALSE NEIGHBOUR: 'it returns false'. Refute it at one input. -/
def fnExactValuationOfWrong : ChangeSpec := { name := "fnExactValuationOf", fn := fun _ => fun
  | [d1, d2] => { results := [.lit (.bool false)], args := [d1, d2] }
  | _ => none }
def FnExactValuationOfWrongFalsely : Prop := fnExactValuationOfRow.holds Try.pinned (OpenSpec.ofChange fnExactValuationOfWrong)

/-- 'laws.FnExactCoreOf': WHATEVER THE INPUT: true; the input reads as it did. -/
def fnExactCoreOfSpec : ChangeSpec := { name := "fnExactCoreOf", fn := fun _ => fun
  | [d] => { results := [.lit (.bool true)], args := [d] }
  | _ => none }
def fnExactCoreOfRow : OpenClaim := { program := "ytehjiejijlboeab", sum := "9b33bbea11996fc973f364cd5dcd3f1661224ec35b959049a6f4ba97ae677700", func := "loop.example/localglobal/laws.FnExactCoreOf", spec := "fnExactCoreOf", unfollowed := true, recurses := true, apart := false }
def FnExactCoreOfSaid : Prop := fnExactCoreOfRow.holds Try.pinned (OpenSpec.ofChange fnExactCoreOfSpec)

/-- ITS FALSE NEIGHBOUR: 'it returns false'. Refute it at one input. -/
def fnExactCoreOfWrong : ChangeSpec := { name := "fnExactCoreOf", fn := fun _ => fun
  | [d] => { results := [.lit (.bool false)], args := [d] }
  | _ => none }
def FnExactCoreOfWrongFalsely : Prop := fnExactCoreOfRow.holds Try.pinned (OpenSpec.ofChange fnExactCoreOfWrong)

/-- 'laws.FnExactSquareIs': WHATEVER THE INPUT: true; the input reads as it did. -/
def fnExactSquareIsSpec : ChangeSpec := { name := "fnExactSquareIs", fn := fun _ => fun
  | [d] => { results := [.lit (.bool true)], args := [d] }
  | _ => none }
def fnExactSquareIsRow : OpenClaim := { program := "ytehjiejijlboeab", sum := "9b33bbea11996fc973f364cd5dcd3f1661224ec35b959049a6f4ba97ae677700", func := "loop.example/localglobal/laws.FnExactSquareIs", spec := "fnExactSquareIs", apart := false }
def FnExactSquareIsSaid : Prop := fnExactSquareIsRow.holds Try.pinned (OpenSpec.ofChange fnExactSquareIsSpec)

/-- ITS FALSE NEIGHBOUR: 'it returns false'. Refute it at one input. -/
def fnExactSquareIsWrong : ChangeSpec := { name := "fnExactSquareIs", fn := fun _ => fun
  | [d] => { results := [.lit (.bool false)], args := [d] }
  | _ => none }
def FnExactSquareIsWrongFalsely : Prop := fnExactSquareIsRow.holds Try.pinned (OpenSpec.ofChange fnExactSquareIsWrong)

/-- 'laws.FnExactPowerMod': WHATEVER THE INPUT: true; the input reads as it did. -/
def fnExactPowerModSpec : ChangeSpec := { name := "fnExactPowerMod", fn := fun _ => fun
  | [d1, d2, d3] => { results := [.lit (.bool true)], args := [d1, d2, d3] }
  | _ => none }
def fnExactPowerModRow : OpenClaim := { program := "ytehjiejijlboeab", sum := "9b33bbea11996fc973f364cd5dcd3f1661224ec35b959049a6f4ba97ae677700", func := "loop.example/localglobal/laws.FnExactPowerMod", spec := "fnExactPowerMod", apart := false }
def FnExactPowerModSaid : Prop := fnExactPowerModRow.holds Try.pinned (OpenSpec.ofChange fnExactPowerModSpec)

/-- ITS FALSE NEIGHBOUR: 'it returns false'. Refute it at one input. -/
def fnExactPowerModWrong : ChangeSpec := { name := "fnExactPowerMod", fn := fun _ => fun
  | [d1, d2, d3] => { results := [.lit (.bool false)], args := [d1, d2, d3] }
  | _ => none }
def FnExactPowerModWrongFalsely : Prop := fnExactPowerModRow.holds Try.pinned (OpenSpec.ofChange fnExactPowerModWrong)

/-- 'laws.FnExactInverseMod': WHATEVER THE INPUT: true; the input reads as it did. -/
def fnExactInverseModSpec : ChangeSpec := { name := "fnExactInverseMod", fn := fun _ => fun
  | [d1, d2] => { results := [.lit (.bool true)], args := [d1, d2] }
  | _ => none }
def fnExactInverseModRow : OpenClaim := { program := "ytehjiejijlboeab", sum := "9b33bbea11996fc973f364cd5dcd3f1661224ec35b959049a6f4ba97ae677700", func := "loop.example/localglobal/laws.FnExactInverseMod", spec := "fnExactInverseMod", apart := false }
def FnExactInverseModSaid : Prop := fnExactInverseModRow.holds Try.pinned (OpenSpec.ofChange fnExactInverseModSpec)

/-- ITS FALSE NEIGHBOUR: 'it returns false'. Refute it at one input. -/
def fnExactInverseModWrong : ChangeSpec := { name := "fnExactInverseMod", fn := fun _ => fun
  | [d1, d2] => { results := [.lit (.bool false)], args := [d1, d2] }
  | _ => none }
def FnExactInverseModWrongFalsely : Prop := fnExactInverseModRow.holds Try.pinned (OpenSpec.ofChange fnExactInverseModWrong)

/-- 'laws.FnExactResidueIs': WHATEVER THE INPUT: true; the input reads as it did. -/
def fnExactResidueIsSpec : ChangeSpec := { name := "fnExactResidueIs", fn := fun _ => fun
  | [d1, d2] => { results := [.lit (.bool true)], args := [d1, d2] }
  | _ => none }
def fnExactResidueIsRow : OpenClaim := { program := "ytehjiejijlboeab", sum := "9b33bbea11996fc973f364cd5dcd3f1661224ec35b959049a6f4ba97ae677700", func := "loop.example/localglobal/laws.FnExactResidueIs", spec := "fnExactResidueIs", unfollowed := true, recurses := true, apart := false }
def FnExactResidueIsSaid : Prop := fnExactResidueIsRow.holds Try.pinned (OpenSpec.ofChange fnExactResidueIsSpec)

/-- ITS FALSE NEIGHBOUR: 'it returns false'. Refute it at one input. -/
def fnExactResidueIsWrong : ChangeSpec := { name := "fnExactResidueIs", fn := fun _ => fun
  | [d1, d2] => { results := [.lit (.bool false)], args := [d1, d2] }
  | _ => none }
def FnExactResidueIsWrongFalsely : Prop := fnExactResidueIsRow.holds Try.pinned (OpenSpec.ofChange fnExactResidueIsWrong)

/-- 'laws.FnExactJacobiOf': WHATEVER THE INPUT: true; the input reads as it did. -/
def fnExactJacobiOfSpec : ChangeSpec := { name := "fnExactJacobiOf", fn := fun _ => fun
  | [d1, d2] => { results := [.lit (.bool true)], args := [d1, d2] }
  | _ => none }
def fnExactJacobiOfRow : OpenClaim := { program := "ytehjiejijlboeab", sum := "9b33bbea11996fc973f364cd5dcd3f1661224ec35b959049a6f4ba97ae677700", func := "loop.example/localglobal/laws.FnExactJacobiOf", spec := "fnExactJacobiOf", unfollowed := true, recurses := true, apart := false }
def FnExactJacobiOfSaid : Prop := fnExactJacobiOfRow.holds Try.pinned (OpenSpec.ofChange fnExactJacobiOfSpec)

/-- ITS FALSE NEIGHBOUR: 'it returns false'. Refute it at one input. -/
def fnExactJacobiOfWrong : ChangeSpec := { name := "fnExactJacobiOf", fn := fun _ => fun
  | [d1, d2] => { results := [.lit (.bool false)], args := [d1, d2] }
  | _ => none }
def FnExactJacobiOfWrongFalsely : Prop := fnExactJacobiOfRow.holds Try.pinned (OpenSpec.ofChange fnExactJacobiOfWrong)

/-- 'laws.FnExactRootMod': WHATEVER THE INPUT: true; the input reads as it did. -/
def fnExactRootModSpec : ChangeSpec := { name := "fnExactRootMod", fn := fun _ => fun
  | [d1, d2] => { results := [.lit (.bool true)], args := [d1, d2] }
  | _ => none }
def fnExactRootModRow : OpenClaim := { program := "ytehjiejijlboeab", sum := "9b33bbea11996fc973f364cd5dcd3f1661224ec35b959049a6f4ba97ae677700", func := "loop.example/localglobal/laws.FnExactRootMod", spec := "fnExactRootMod", apart := false }
def FnExactRootModSaid : Prop := fnExactRootModRow.holds Try.pinned (OpenSpec.ofChange fnExactRootModSpec)

/-- ITS FALSE NEIGHBOUR: 'it returns false'. Refute it at one input. -/
def fnExactRootModWrong : ChangeSpec := { name := "fnExactRootMod", fn := fun _ => fun
  | [d1, d2] => { results := [.lit (.bool false)], args := [d1, d2] }
  | _ => none }
def FnExactRootModWrongFalsely : Prop := fnExactRootModRow.holds Try.pinned (OpenSpec.ofChange fnExactRootModWrong)

/-- 'laws.FnExactNonResidue': WHATEVER THE INPUT: true; the input reads as it did. -/
def fnExactNonResidueSpec : ChangeSpec := { name := "fnExactNonResidue", fn := fun _ => fun
  | [d] => { results := [.lit (.bool true)], args := [d] }
  | _ => none }
def fnExactNonResidueRow : OpenClaim := { program := "ytehjiejijlboeab", sum := "9b33bbea11996fc973f364cd5dcd3f1661224ec35b959049a6f4ba97ae677700", func := "loop.example/localglobal/laws.FnExactNonResidue", spec := "fnExactNonResidue", unfollowed := true, recurses := true, apart := false }
def FnExactNonResidueSaid : Prop := fnExactNonResidueRow.holds Try.pinned (OpenSpec.ofChange fnExactNonResidueSpec)

/-- ITS FALSE NEIGHBOUR: 'it returns false'. Refute it at one input. -/
def fnExactNonResidueWrong : ChangeSpec := { name := "fnExactNonResidue", fn := fun _ => fun
  | [d] => { results := [.lit (.bool false)], args := [d] }
  | _ => none }
def FnExactNonResidueWrongFalsely : Prop := fnExactNonResidueRow.holds Try.pinned (OpenSpec.ofChange fnExactNonResidueWrong)

/- THE SECOND FORM. 'bulk': how many values and letters a reading holds, each counted each time it is reached (what is shared counts as often as it is met; a slice's spare places count too). A statement '..UptoSaid' is the law's where the arguments, and the package variables that the reading takes, are together of bulk at most 1048576: NARROWER than '..Said'. Prove '..Said' where nothing that the law and all that it calls make is longer than what came in: it says more and counts as full. Else prove '..UptoSaid'. A law counts once. -/
mutual
def uptoBulk {H : Type} : DataW H → Nat
  | .lit (.string bytes) => bytes.length + 1
  | .lit _ => 1
  | .nil => 1
  | .ptr d => uptoBulk d + 1
  | .slice elems spare => uptoBulkAll elems + uptoBulkAll spare + 1
  | .agg parts => uptoBulkAll parts + 1
  | .iface _ d => uptoBulk d + 1
  | .map entries => uptoBulkEntries entries + 1
  | .held _ => 1
def uptoBulkAll {H : Type} : List (DataW H) → Nat
  | [] => 0
  | d :: r => uptoBulk d + uptoBulkAll r
def uptoBulkEntries {H : Type} : List (Lit × DataW H) → Nat
  | [] => 0
  | x :: r => uptoBulkEntry x + uptoBulkEntries r
def uptoBulkEntry {H : Type} : Lit × DataW H → Nat
  | (.string bytes, d) => bytes.length + uptoBulk d + 1
  | (_, d) => uptoBulk d + 1
 end
def uptoSmall : (H : Type) → List (DataW H) → Bool := fun _ ds => decide (uptoBulkAll ds ≤ 1048576)
def OpenSpec.upto (s : _root_.Go.ChangeSpec) : _root_.Go.OpenSpec := { _root_.Go.OpenSpec.ofChange s with cond := some uptoSmall }

/-- 'laws.FnGcd', WHERE WHAT IT READS IS OF BULK AT MOST 1048576: true; the input reads as it did. -/
def fnGcdUptoRow : OpenClaim := { program := "ytehjiejijlboeab", sum := "9b33bbea11996fc973f364cd5dcd3f1661224ec35b959049a6f4ba97ae677700", func := "loop.example/localglobal/laws.FnGcd", spec := "fnGcd", apart := false, narrowed := true }
def FnGcdUptoSaid : Prop := fnGcdUptoRow.holds Try.pinned (OpenSpec.upto fnGcdSpec)

/-- 'laws.FnExactPrimeIs', WHERE WHAT IT READS IS OF BULK AT MOST 1048576: true; the input reads as it did. -/
def fnExactPrimeIsUptoRow : OpenClaim := { program := "ytehjiejijlboeab", sum := "9b33bbea11996fc973f364cd5dcd3f1661224ec35b959049a6f4ba97ae677700", func := "loop.example/localglobal/laws.FnExactPrimeIs", spec := "fnExactPrimeIs", unfollowed := true, recurses := true, apart := false, narrowed := true }
def FnExactPrimeIsUptoSaid : Prop := fnExactPrimeIsUptoRow.holds Try.pinned (OpenSpec.upto fnExactPrimeIsSpec)

/-- 'laws.FnExactPrimesOf', WHERE WHAT IT READS IS OF BULK AT MOST 1048576: true; the input reads as it did. -/
def fnExactPrimesOfUptoRow : OpenClaim := { program := "ytehjiejijlboeab", sum := "9b33bbea11996fc973f364cd5dcd3f1661224ec35b959049a6f4ba97ae677700", func := "loop.example/localglobal/laws.FnExactPrimesOf", spec := "fnExactPrimesOf", unfollowed := true, recurses := true, apart := false, narrowed := true }
def FnExactPrimesOfUptoSaid : Prop := fnExactPrimesOfUptoRow.holds Try.pinned (OpenSpec.upto fnExactPrimesOfSpec)

/-- 'laws.FnExactValuationOf', WHERE WHAT IT READS IS OF BULK AT MOST 1048576: true; the input reads as it did. -/
def fnExactValuationOfUptoRow : OpenClaim := { program := "ytehjiejijlboeab", sum := "9b33bbea11996fc973f364cd5dcd3f1661224ec35b959049a6f4ba97ae677700", func := "loop.example/localglobal/laws.FnExactValuationOf", spec := "fnExactValuationOf", unfollowed := true, recurses := true, apart := false, narrowed := true }
def FnExactValuationOfUptoSaid : Prop := fnExactValuationOfUptoRow.holds Try.pinned (OpenSpec.upto fnExactValuationOfSpec)

/-- 'laws.FnExactCoreOf', WHERE WHAT IT READS IS OF BULK AT MOST 1048576: true; the input reads as it did. -/
def fnExactCoreOfUptoRow : OpenClaim := { program := "ytehjiejijlboeab", sum := "9b33bbea11996fc973f364cd5dcd3f1661224ec35b959049a6f4ba97ae677700", func := "loop.example/localglobal/laws.FnExactCoreOf", spec := "fnExactCoreOf", unfollowed := true, recurses := true, apart := false, narrowed := true }
def FnExactCoreOfUptoSaid : Prop := fnExactCoreOfUptoRow.holds Try.pinned (OpenSpec.upto fnExactCoreOfSpec)

/-- 'laws.FnExactSquareIs', WHERE WHAT IT READS IS OF BULK AT MOST 1048576: true; the input reads as it did. -/
def fnExactSquareIsUptoRow : OpenClaim := { program := "ytehjiejijlboeab", sum := "9b33bbea11996fc973f364cd5dcd3f1661224ec35b959049a6f4ba97ae677700", func := "loop.example/localglobal/laws.FnExactSquareIs", spec := "fnExactSquareIs", apart := false, narrowed := true }
def FnExactSquareIsUptoSaid : Prop := fnExactSquareIsUptoRow.holds Try.pinned (OpenSpec.upto fnExactSquareIsSpec)

/-- 'laws.FnExactPowerMod', WHERE WHAT IT READS IS OF BULK AT MOST 1048576: true; the input reads as it did. -/
def fnExactPowerModUptoRow : OpenClaim := { program := "ytehjiejijlboeab", sum := "9b33bbea11996fc973f364cd5dcd3f1661224ec35b959049a6f4ba97ae677700", func := "loop.example/localglobal/laws.FnExactPowerMod", spec := "fnExactPowerMod", apart := false, narrowed := true }
def FnExactPowerModUptoSaid : Prop := fnExactPowerModUptoRow.holds Try.pinned (OpenSpec.upto fnExactPowerModSpec)

/-- 'laws.FnExactInverseMod', WHERE WHAT IT READS IS OF BULK AT MOST 1048576: true; the input reads as it did. -/
def fnExactInverseModUptoRow : OpenClaim := { program := "ytehjiejijlboeab", sum := "9b33bbea11996fc973f364cd5dcd3f1661224ec35b959049a6f4ba97ae677700", func := "loop.example/localglobal/laws.FnExactInverseMod", spec := "fnExactInverseMod", apart := false, narrowed := true }
def FnExactInverseModUptoSaid : Prop := fnExactInverseModUptoRow.holds Try.pinned (OpenSpec.upto fnExactInverseModSpec)

/-- 'laws.FnExactResidueIs', WHERE WHAT IT READS IS OF BULK AT MOST 1048576: true; the input reads as it did. -/
def fnExactResidueIsUptoRow : OpenClaim := { program := "ytehjiejijlboeab", sum := "9b33bbea11996fc973f364cd5dcd3f1661224ec35b959049a6f4ba97ae677700", func := "loop.example/localglobal/laws.FnExactResidueIs", spec := "fnExactResidueIs", unfollowed := true, recurses := true, apart := false, narrowed := true }
def FnExactResidueIsUptoSaid : Prop := fnExactResidueIsUptoRow.holds Try.pinned (OpenSpec.upto fnExactResidueIsSpec)

/-- 'laws.FnExactJacobiOf', WHERE WHAT IT READS IS OF BULK AT MOST 1048576: true; the input reads as it did. -/
def fnExactJacobiOfUptoRow : OpenClaim := { program := "ytehjiejijlboeab", sum := "9b33bbea11996fc973f364cd5dcd3f1661224ec35b959049a6f4ba97ae677700", func := "loop.example/localglobal/laws.FnExactJacobiOf", spec := "fnExactJacobiOf", unfollowed := true, recurses := true, apart := false, narrowed := true }
def FnExactJacobiOfUptoSaid : Prop := fnExactJacobiOfUptoRow.holds Try.pinned (OpenSpec.upto fnExactJacobiOfSpec)

/-- 'laws.FnExactRootMod', WHERE WHAT IT READS IS OF BULK AT MOST 1048576: true; the input reads as it did. -/
def fnExactRootModUptoRow : OpenClaim := { program := "ytehjiejijlboeab", sum := "9b33bbea11996fc973f364cd5dcd3f1661224ec35b959049a6f4ba97ae677700", func := "loop.example/localglobal/laws.FnExactRootMod", spec := "fnExactRootMod", apart := false, narrowed := true }
def FnExactRootModUptoSaid : Prop := fnExactRootModUptoRow.holds Try.pinned (OpenSpec.upto fnExactRootModSpec)

/-- 'laws.FnExactNonResidue', WHERE WHAT IT READS IS OF BULK AT MOST 1048576: true; the input reads as it did. -/
def fnExactNonResidueUptoRow : OpenClaim := { program := "ytehjiejijlboeab", sum := "9b33bbea11996fc973f364cd5dcd3f1661224ec35b959049a6f4ba97ae677700", func := "loop.example/localglobal/laws.FnExactNonResidue", spec := "fnExactNonResidue", unfollowed := true, recurses := true, apart := false, narrowed := true }
def FnExactNonResidueUptoSaid : Prop := fnExactNonResidueUptoRow.holds Try.pinned (OpenSpec.upto fnExactNonResidueSpec)

end Rows
end Go.Proofs.Ytehjiejijlboeab
