/-
  No cell of these rows narrows 'for every input' (looked for: loops, veiled, ifaces, maps, wideKeys, modest, calm, conditions, laid).
  DERIVED. THE GIVEN ROWS OF THIS SEAT. 11 by the template 'for every input the law returns true; each argument reads behind the call as it read before'; 0 by the template 'total and deterministic' (their statements: YtenibnblibnocabTotals.lean).
  GIVEN WITH THE SEED: the statements are not yours to turn. If you find one false, say at which input.
  Laid BY PROGRAM, IN A SANDBOX (cutbox-rows.mjs): the forced cells as the released guide's own fill.sh prints them over the translation b3679839c1697c0b… (all of the seat's roots in one cut). By AI agents, Wed Nov 11 2026. No macro, syntax, notation, axiom, sorry.
-/
import Derived.Test.YtenibnblibnocabChecked
import GoSem.Claim
import GoSem.ClaimJoined
import GoSem.ClaimMapViews
import Derived.JoinedTies
import Derived.KernelRfl
namespace Go.Proofs.Ytenibnblibnocab
/- THE CELL 'sum', in the pinned program and in every row, IS THE sha256 OF THE DUMP (.gsa) THAT YtenibnblibnocabProg.lean LOADS. Nothing in Lean hashes anything: it is a label: what it is worth is what the hold of that sum in a sandbox is worth. -/
noncomputable def Try.pinned : Pinned := { name := "ytenibnblibnocab", sum := "b3679839c1697c0b4929c4f357e10157d11a52f7bb70288ea9a4ba96f7918aa0", checked := Try.checked }
namespace Rows
def none {H : Type} : Left H := { results := [], args := [] }

/-- 'laws.FnPoint': WHATEVER THE INPUT: true; the input reads as it did. -/
def fnPointSpec : ChangeSpec := { name := "fnPoint", fn := fun _ => fun
  | [d] => { results := [.lit (.bool true)], args := [d] }
  | _ => none }
def fnPointRow : OpenClaim := { program := "ytenibnblibnocab", sum := "b3679839c1697c0b4929c4f357e10157d11a52f7bb70288ea9a4ba96f7918aa0", func := "loop.example/localglobal/laws.FnPoint", spec := "fnPoint", plainKeys := false, apart := false }
def FnPointSaid : Prop := fnPointRow.holds Try.pinned (OpenSpec.ofChange fnPointSpec)

/-- ITS FALSE NEIGHBOUR: 'it returns false'. Refute it at one input. -/
def fnPointWrong : ChangeSpec := { name := "fnPoint", fn := fun _ => fun
  | [d] => { results := [.lit (.bool false)], args := [d] }
  | _ => none }
def FnPointWrongFalsely : Prop := fnPointRow.holds Try.pinned (OpenSpec.ofChange fnPointWrong)

/-- 'laws.FnOther': WHATEVER THE INPUT: true; the input reads as it did. -/
def fnOtherSpec : ChangeSpec := { name := "fnOther", fn := fun _ => fun
  | [d] => { results := [.lit (.bool true)], args := [d] }
  | _ => none }
def fnOtherRow : OpenClaim := { program := "ytenibnblibnocab", sum := "b3679839c1697c0b4929c4f357e10157d11a52f7bb70288ea9a4ba96f7918aa0", func := "loop.example/localglobal/laws.FnOther", spec := "fnOther", plainKeys := false, apart := false }
def FnOtherSaid : Prop := fnOtherRow.holds Try.pinned (OpenSpec.ofChange fnOtherSpec)

/-- ITS FALSE NEIGHBOUR: 'it returns false'. Refute it at one input. -/
def fnOtherWrong : ChangeSpec := { name := "fnOther", fn := fun _ => fun
  | [d] => { results := [.lit (.bool false)], args := [d] }
  | _ => none }
def FnOtherWrongFalsely : Prop := fnOtherRow.holds Try.pinned (OpenSpec.ofChange fnOtherWrong)

/-- 'laws.FnAt': WHATEVER THE INPUT: true; the input reads as it did. -/
def fnAtSpec : ChangeSpec := { name := "fnAt", fn := fun _ => fun
  | [d] => { results := [.lit (.bool true)], args := [d] }
  | _ => none }
def fnAtRow : OpenClaim := { program := "ytenibnblibnocab", sum := "b3679839c1697c0b4929c4f357e10157d11a52f7bb70288ea9a4ba96f7918aa0", func := "loop.example/localglobal/laws.FnAt", spec := "fnAt", plainKeys := false, apart := false }
def FnAtSaid : Prop := fnAtRow.holds Try.pinned (OpenSpec.ofChange fnAtSpec)

/-- ITS FALSE NEIGHBOUR: 'it returns false'. Refute it at one input. -/
def fnAtWrong : ChangeSpec := { name := "fnAt", fn := fun _ => fun
  | [d] => { results := [.lit (.bool false)], args := [d] }
  | _ => none }
def FnAtWrongFalsely : Prop := fnAtRow.holds Try.pinned (OpenSpec.ofChange fnAtWrong)

/-- 'laws.FnConicBack': WHATEVER THE INPUT: true; the input reads as it did. -/
def fnConicBackSpec : ChangeSpec := { name := "fnConicBack", fn := fun _ => fun
  | [d] => { results := [.lit (.bool true)], args := [d] }
  | _ => none }
def fnConicBackRow : OpenClaim := { program := "ytenibnblibnocab", sum := "b3679839c1697c0b4929c4f357e10157d11a52f7bb70288ea9a4ba96f7918aa0", func := "loop.example/localglobal/laws.FnConicBack", spec := "fnConicBack", plainKeys := false, apart := false }
def FnConicBackSaid : Prop := fnConicBackRow.holds Try.pinned (OpenSpec.ofChange fnConicBackSpec)

/-- ITS FALSE NEIGHBOUR: 'it returns false'. Refute it at one input. -/
def fnConicBackWrong : ChangeSpec := { name := "fnConicBack", fn := fun _ => fun
  | [d] => { results := [.lit (.bool false)], args := [d] }
  | _ => none }
def FnConicBackWrongFalsely : Prop := fnConicBackRow.holds Try.pinned (OpenSpec.ofChange fnConicBackWrong)

/-- 'laws.FnConicMany': WHATEVER THE INPUT: true; the input reads as it did. -/
def fnConicManySpec : ChangeSpec := { name := "fnConicMany", fn := fun _ => fun
  | [d] => { results := [.lit (.bool true)], args := [d] }
  | _ => none }
def fnConicManyRow : OpenClaim := { program := "ytenibnblibnocab", sum := "b3679839c1697c0b4929c4f357e10157d11a52f7bb70288ea9a4ba96f7918aa0", func := "loop.example/localglobal/laws.FnConicMany", spec := "fnConicMany", unfollowed := true, recurses := true, plainKeys := false, apart := false }
def FnConicManySaid : Prop := fnConicManyRow.holds Try.pinned (OpenSpec.ofChange fnConicManySpec)

/-- ITS FALSE NEIGHBOUR: 'it returns false'. Refute it at one input. -/
def fnConicManyWrong : ChangeSpec := { name := "fnConicMany", fn := fun _ => fun
  | [d] => { results := [.lit (.bool false)], args := [d] }
  | _ => none }
def FnConicManyWrongFalsely : Prop := fnConicManyRow.holds Try.pinned (OpenSpec.ofChange fnConicManyWrong)

/-- 'laws.FnTriple': WHATEVER THE INPUT: true; the input reads as it did. -/
def fnTripleSpec : ChangeSpec := { name := "fnTriple", fn := fun _ => fun
  | [d] => { results := [.lit (.bool true)], args := [d] }
  | _ => none }
def fnTripleRow : OpenClaim := { program := "ytenibnblibnocab", sum := "b3679839c1697c0b4929c4f357e10157d11a52f7bb70288ea9a4ba96f7918aa0", func := "loop.example/localglobal/laws.FnTriple", spec := "fnTriple", plainKeys := false, apart := false }
def FnTripleSaid : Prop := fnTripleRow.holds Try.pinned (OpenSpec.ofChange fnTripleSpec)

/-- ITS FALSE NEIGHBOUR: 'it returns false'. Refute it at one input. -/
def fnTripleWrong : ChangeSpec := { name := "fnTriple", fn := fun _ => fun
  | [d] => { results := [.lit (.bool false)], args := [d] }
  | _ => none }
def FnTripleWrongFalsely : Prop := fnTripleRow.holds Try.pinned (OpenSpec.ofChange fnTripleWrong)

/-- 'laws.FnMake': WHATEVER THE INPUT: true; the input reads as it did. -/
def fnMakeSpec : ChangeSpec := { name := "fnMake", fn := fun _ => fun
  | [d] => { results := [.lit (.bool true)], args := [d] }
  | _ => none }
def fnMakeRow : OpenClaim := { program := "ytenibnblibnocab", sum := "b3679839c1697c0b4929c4f357e10157d11a52f7bb70288ea9a4ba96f7918aa0", func := "loop.example/localglobal/laws.FnMake", spec := "fnMake", plainKeys := false, apart := false }
def FnMakeSaid : Prop := fnMakeRow.holds Try.pinned (OpenSpec.ofChange fnMakeSpec)

/-- ITS FALSE NEIGHBOUR: 'it returns false'. Refute it at one input. -/
def fnMakeWrong : ChangeSpec := { name := "fnMake", fn := fun _ => fun
  | [d] => { results := [.lit (.bool false)], args := [d] }
  | _ => none }
def FnMakeWrongFalsely : Prop := fnMakeRow.holds Try.pinned (OpenSpec.ofChange fnMakeWrong)

/-- 'laws.FnChild': WHATEVER THE INPUT: true; the input reads as it did. -/
def fnChildSpec : ChangeSpec := { name := "fnChild", fn := fun _ => fun
  | [d] => { results := [.lit (.bool true)], args := [d] }
  | _ => none }
def fnChildRow : OpenClaim := { program := "ytenibnblibnocab", sum := "b3679839c1697c0b4929c4f357e10157d11a52f7bb70288ea9a4ba96f7918aa0", func := "loop.example/localglobal/laws.FnChild", spec := "fnChild", recurses := true, plainKeys := false, apart := false }
def FnChildSaid : Prop := fnChildRow.holds Try.pinned (OpenSpec.ofChange fnChildSpec)

/-- ITS FALSE NEIGHBOUR: 'it returns false'. Refute it at one input. -/
def fnChildWrong : ChangeSpec := { name := "fnChild", fn := fun _ => fun
  | [d] => { results := [.lit (.bool false)], args := [d] }
  | _ => none }
def FnChildWrongFalsely : Prop := fnChildRow.holds Try.pinned (OpenSpec.ofChange fnChildWrong)

/-- 'laws.FnParent': WHATEVER THE INPUT: true; the input reads as it did. -/
def fnParentSpec : ChangeSpec := { name := "fnParent", fn := fun _ => fun
  | [d] => { results := [.lit (.bool true)], args := [d] }
  | _ => none }
def fnParentRow : OpenClaim := { program := "ytenibnblibnocab", sum := "b3679839c1697c0b4929c4f357e10157d11a52f7bb70288ea9a4ba96f7918aa0", func := "loop.example/localglobal/laws.FnParent", spec := "fnParent", plainKeys := false, apart := false }
def FnParentSaid : Prop := fnParentRow.holds Try.pinned (OpenSpec.ofChange fnParentSpec)

/-- ITS FALSE NEIGHBOUR: 'it returns false'. Refute it at one input. -/
def fnParentWrong : ChangeSpec := { name := "fnParent", fn := fun _ => fun
  | [d] => { results := [.lit (.bool false)], args := [d] }
  | _ => none }
def FnParentWrongFalsely : Prop := fnParentRow.holds Try.pinned (OpenSpec.ofChange fnParentWrong)

/-- 'laws.FnDepth': WHATEVER THE INPUT: true; the input reads as it did. -/
def fnDepthSpec : ChangeSpec := { name := "fnDepth", fn := fun _ => fun
  | [d] => { results := [.lit (.bool true)], args := [d] }
  | _ => none }
def fnDepthRow : OpenClaim := { program := "ytenibnblibnocab", sum := "b3679839c1697c0b4929c4f357e10157d11a52f7bb70288ea9a4ba96f7918aa0", func := "loop.example/localglobal/laws.FnDepth", spec := "fnDepth", recurses := true, plainKeys := false, apart := false }
def FnDepthSaid : Prop := fnDepthRow.holds Try.pinned (OpenSpec.ofChange fnDepthSpec)

/-- ITS FALSE NEIGHBOUR: 'it returns false'. Refute it at one input. -/
def fnDepthWrong : ChangeSpec := { name := "fnDepth", fn := fun _ => fun
  | [d] => { results := [.lit (.bool false)], args := [d] }
  | _ => none }
def FnDepthWrongFalsely : Prop := fnDepthRow.holds Try.pinned (OpenSpec.ofChange fnDepthWrong)

/-- 'laws.FnExactZeroMany': WHATEVER THE INPUT: true; the input reads as it did. -/
def fnExactZeroManySpec : ChangeSpec := { name := "fnExactZeroMany", fn := fun _ => fun
  | [d1, d2] => { results := [.lit (.bool true)], args := [d1, d2] }
  | _ => none }
def fnExactZeroManyRow : OpenClaim := { program := "ytenibnblibnocab", sum := "b3679839c1697c0b4929c4f357e10157d11a52f7bb70288ea9a4ba96f7918aa0", func := "loop.example/localglobal/laws.FnExactZeroMany", spec := "fnExactZeroMany", unfollowed := true, recurses := true, plainKeys := false, apart := false }
def FnExactZeroManySaid : Prop := fnExactZeroManyRow.holds Try.pinned (OpenSpec.ofChange fnExactZeroManySpec)

/-- ITS FALSE NEIGHBOUR: 'it returns false'. Refute it at one input. -/
def fnExactZeroManyWrong : ChangeSpec := { name := "fnExactZeroMany", fn := fun _ => fun
  | [d1, d2] => { results := [.lit (.bool false)], args := [d1, d2] }
  | _ => none }
def FnExactZeroManyWrongFalsely : Prop := fnExactZeroManyRow.holds Try.pinned (OpenSpec.ofChange fnExactZeroManyWrong)

/- THE SECOND FORM. 'bulk': how many values and letters a reading holds, each counted each time it is reached (what is shared counts as often as it is met; a slice's spare places count too). A statement '..UptoSaid' is the law's where the arguments, and the package variables that the reading takes, are together of bulk at most 1048576: NARROWER than '..Said'. Prove '..Said' where nothing that the law and all that it calls make is longer than what came in: it says more and counts as full. Else prove '..UptoSaid'. A law counts once. -/
mutual
def uptoBulk {H : Type} : DataW H → Nat
  | .lit (.string bytes) => bytes.length + 1
  | .lit _ => 1
  | .nil => 1
  | .ptr d => uptoBulk d + 1
  | .slice elems spare => uptoBulkAll elems + uptoBulkAll spare + 1
  | .agg parts => uptoBulkAll parts + 1
  | .iface _ d => uptoBulk d + 1
  | .map entries => uptoBulkEntries entries + 1
  | .held _ => 1
def uptoBulkAll {H : Type} : List (DataW H) → Nat
  | [] => 0
  | d :: r => uptoBulk d + uptoBulkAll r
def uptoBulkEntries {H : Type} : List (Lit × DataW H) → Nat
  | [] => 0
  | x :: r => uptoBulkEntry x + uptoBulkEntries r
def uptoBulkEntry {H : Type} : Lit × DataW H → Nat
  | (.string bytes, d) => bytes.length + uptoBulk d + 1
  | (_, d) => uptoBulk d + 1
 end
def uptoSmall : (H : Type) → List (DataW H) → Bool := fun _ ds => decide (uptoBulkAll ds ≤ 1048576)
def OpenSpec.upto (s : _root_.Go.ChangeSpec) : _root_.Go.OpenSpec := { _root_.Go.OpenSpec.ofChange s with cond := some uptoSmall }

/-- 'laws.FnPoint', WHERE WHAT IT READS IS OF BULK AT MOST 1048576: true; the input reads as it did. -/
def fnPointUptoRow : OpenClaim := { program := "ytenibnblibnocab", sum := "b3679839c1697c0b4929c4f357e10157d11a52f7bb70288ea9a4ba96f7918aa0", func := "loop.example/localglobal/laws.FnPoint", spec := "fnPoint", plainKeys := false, apart := false, narrowed := true }
def FnPointUptoSaid : Prop := fnPointUptoRow.holds Try.pinned (OpenSpec.upto fnPointSpec)

/-- 'laws.FnOther', WHERE WHAT IT READS IS OF BULK AT MOST 1048576: true; the input reads as it did. -/
def fnOtherUptoRow : OpenClaim := { program := "ytenibnblibnocab", sum := "b3679839c1697c0b4929c4f357e10157d11a52f7bb70288ea9a4ba96f7918aa0", func := "loop.example/localglobal/laws.FnOther", spec := "fnOther", plainKeys := false, apart := false, narrowed := true }
def FnOtherUptoSaid : Prop := fnOtherUptoRow.holds Try.pinned (OpenSpec.upto fnOtherSpec)

/-- 'laws.FnAt', WHERE WHAT IT READS IS OF BULK AT MOST 1048576: true; the input reads as it did. -/
def fnAtUptoRow : OpenClaim := { program := "ytenibnblibnocab", sum := "b3679839c1697c0b4929c4f357e10157d11a52f7bb70288ea9a4ba96f7918aa0", func := "loop.example/localglobal/laws.FnAt", spec := "fnAt", plainKeys := false, apart := false, narrowed := true }
def FnAtUptoSaid : Prop := fnAtUptoRow.holds Try.pinned (OpenSpec.upto fnAtSpec)

/-- 'laws.FnConicBack', WHERE WHAT IT READS IS OF BULK AT MOST 1048576: true; the input reads as it did. -/
def fnConicBackUptoRow : OpenClaim := { program := "ytenibnblibnocab", sum := "b3679839c1697c0b4929c4f357e10157d11a52f7bb70288ea9a4ba96f7918aa0", func := "loop.example/localglobal/laws.FnConicBack", spec := "fnConicBack", plainKeys := false, apart := false, narrowed := true }
def FnConicBackUptoSaid : Prop := fnConicBackUptoRow.holds Try.pinned (OpenSpec.upto fnConicBackSpec)

/-- 'laws.FnConicMany', WHERE WHAT IT READS IS OF BULK AT MOST 1048576: true; the input reads as it did. -/
def fnConicManyUptoRow : OpenClaim := { program := "ytenibnblibnocab", sum := "b3679839c1697c0b4929c4f357e10157d11a52f7bb70288ea9a4ba96f7918aa0", func := "loop.example/localglobal/laws.FnConicMany", spec := "fnConicMany", unfollowed := true, recurses := true, plainKeys := false, apart := false, narrowed := true }
def FnConicManyUptoSaid : Prop := fnConicManyUptoRow.holds Try.pinned (OpenSpec.upto fnConicManySpec)

/-- 'laws.FnTriple', WHERE WHAT IT READS IS OF BULK AT MOST 1048576: true; the input reads as it did. -/
def fnTripleUptoRow : OpenClaim := { program := "ytenibnblibnocab", sum := "b3679839c1697c0b4929c4f357e10157d11a52f7bb70288ea9a4ba96f7918aa0", func := "loop.example/localglobal/laws.FnTriple", spec := "fnTriple", plainKeys := false, apart := false, narrowed := true }
def FnTripleUptoSaid : Prop := fnTripleUptoRow.holds Try.pinned (OpenSpec.upto fnTripleSpec)

/-- 'laws.FnMake', WHERE WHAT IT READS IS OF BULK AT MOST 1048576: true; the input reads as it did. -/
def fnMakeUptoRow : OpenClaim := { program := "ytenibnblibnocab", sum := "b3679839c1697c0b4929c4f357e10157d11a52f7bb70288ea9a4ba96f7918aa0", func := "loop.example/localglobal/laws.FnMake", spec := "fnMake", plainKeys := false, apart := false, narrowed := true }
def FnMakeUptoSaid : Prop := fnMakeUptoRow.holds Try.pinned (OpenSpec.upto fnMakeSpec)

/-- 'laws.FnChild', WHERE WHAT IT READS IS OF BULK AT MOST 1048576: true; the input reads as it did. -/
def fnChildUptoRow : OpenClaim := { program := "ytenibnblibnocab", sum := "b3679839c1697c0b4929c4f357e10157d11a52f7bb70288ea9a4ba96f7918aa0", func := "loop.example/localglobal/laws.FnChild", spec := "fnChild", recurses := true, plainKeys := false, apart := false, narrowed := true }
def FnChildUptoSaid : Prop := fnChildUptoRow.holds Try.pinned (OpenSpec.upto fnChildSpec)

/-- 'laws.FnParent', WHERE WHAT IT READS IS OF BULK AT MOST 1048576: true; the input reads as it did. -/
def fnParentUptoRow : OpenClaim := { program := "ytenibnblibnocab", sum := "b3679839c1697c0b4929c4f357e10157d11a52f7bb70288ea9a4ba96f7918aa0", func := "loop.example/localglobal/laws.FnParent", spec := "fnParent", plainKeys := false, apart := false, narrowed := true }
def FnParentUptoSaid : Prop := fnParentUptoRow.holds Try.pinned (OpenSpec.upto fnParentSpec)

/-- 'laws.FnDepth', WHERE WHAT IT READS IS OF BULK AT MOST 1048576: true; the input reads as it did. -/
def fnDepthUptoRow : OpenClaim := { program := "ytenibnblibnocab", sum := "b3679839c1697c0b4929c4f357e10157d11a52f7bb70288ea9a4ba96f7918aa0", func := "loop.example/localglobal/laws.FnDepth", spec := "fnDepth", recurses := true, plainKeys := false, apart := false, narrowed := true }
def FnDepthUptoSaid : Prop := fnDepthUptoRow.holds Try.pinned (OpenSpec.upto fnDepthSpec)

/-- 'laws.FnExactZeroMany', WHERE WHAT IT READS IS OF BULK AT MOST 1048576: true; the input reads as it did. -/
def fnExactZeroManyUptoRow : OpenClaim := { program := "ytenibnblibnocab", sum := "b3679839c1697c0b4929c4f357e10157d11a52f7bb70288ea9a4ba96f7918aa0", func := "loop.example/localglobal/laws.FnExactZeroMany", spec := "fnExactZeroMany", unfollowed := true, recurses := true, plainKeys := false, apart := false, narrowed := true }
def FnExactZeroManyUptoSaid : Prop := fnExactZeroManyUptoRow.holds Try.pinned (OpenSpec.upto fnExactZeroManySpec)

end Rows
end Go.Proofs.Ytenibnblibnocab
