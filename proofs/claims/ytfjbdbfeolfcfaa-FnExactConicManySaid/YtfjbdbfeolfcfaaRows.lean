/-
  No cell of these rows narrows 'for every input' (looked for: loops, veiled, ifaces, maps, wideKeys, modest, calm, conditions, laid).
  DERIVED. THE GIVEN ROWS OF THIS SEAT. 6 by the template 'for every input the law returns true; each argument reads behind the call as it read before'; 0 by the template 'total and deterministic' (their statements: YtfjbdbfeolfcfaaTotals.lean).
  GIVEN WITH THE SEED: the statements are not yours to turn. If you find one false, say at which input.
  Laid BY PROGRAM, IN A SANDBOX (cutbox-rows.mjs): the forced cells as the released guide's own fill.sh prints them over the translation 0579b33edeeaa0bb… (all of the seat's roots in one cut). By AI agents, Wed Nov 11 2026. No macro, syntax, notation, axiom, sorry.
-/
import Derived.Test.YtfjbdbfeolfcfaaChecked
import GoSem.Claim
import GoSem.ClaimJoined
import GoSem.ClaimMapViews
import Derived.JoinedTies
import Derived.KernelRfl
namespace Go.Proofs.Ytfjbdbfeolfcfaa
/- THE CELL 'sum', in the pinned program and in every row, IS THE sha256 OF THE DUMP (.gsa) THAT YtfjbdbfeolfcfaaProg.lean LOADS. Nothing in Lean hashes anything: it is a label: what it is worth is what the hold of that sum in a sandbox is worth. -/
noncomputable def Try.pinned : Pinned := { name := "ytfjbdbfeolfcfaa", sum := "0579b33edeeaa0bbc761097a1c5a1f080daecdd0670f20fe3f33cc70ad41077a", checked := Try.checked }
namespace Rows
def none {H : Type} : Left H := { results := [], args := [] }

/-- 'laws.FnPoint': WHATEVER THE INPUT: true; the input reads as it did. -/
def fnPointSpec : ChangeSpec := { name := "fnPoint", fn := fun _ => fun
  | [d] => { results := [.lit (.bool true)], args := [d] }
  | _ => none }
def fnPointRow : OpenClaim := { program := "ytfjbdbfeolfcfaa", sum := "0579b33edeeaa0bbc761097a1c5a1f080daecdd0670f20fe3f33cc70ad41077a", func := "loop.example/localglobal/laws.FnPoint", spec := "fnPoint", plainKeys := false, apart := false }
def FnPointSaid : Prop := fnPointRow.holds Try.pinned (OpenSpec.ofChange fnPointSpec)

/-- ITS FALSE NEIGHBOUR: 'it returns false'. Refute it at one input. -/
def fnPointWrong : ChangeSpec := { name := "fnPoint", fn := fun _ => fun
  | [d] => { results := [.lit (.bool false)], args := [d] }
  | _ => none }
def FnPointWrongFalsely : Prop := fnPointRow.holds Try.pinned (OpenSpec.ofChange fnPointWrong)

/-- 'laws.FnOther': WHATEVER THE INPUT: true; the input reads as it did. -/
def fnOtherSpec : ChangeSpec := { name := "fnOther", fn := fun _ => fun
  | [d] => { results := [.lit (.bool true)], args := [d] }
  | _ => none }
def fnOtherRow : OpenClaim := { program := "ytfjbdbfeolfcfaa", sum := "0579b33edeeaa0bbc761097a1c5a1f080daecdd0670f20fe3f33cc70ad41077a", func := "loop.example/localglobal/laws.FnOther", spec := "fnOther", plainKeys := false, apart := false }
def FnOtherSaid : Prop := fnOtherRow.holds Try.pinned (OpenSpec.ofChange fnOtherSpec)

/-- ITS FALSE NEIGHBOUR: 'it returns false'. Refute it at one input. -/
def fnOtherWrong : ChangeSpec := { name := "fnOther", fn := fun _ => fun
  | [d] => { results := [.lit (.bool false)], args := [d] }
  | _ => none }
def FnOtherWrongFalsely : Prop := fnOtherRow.holds Try.pinned (OpenSpec.ofChange fnOtherWrong)

/-- 'laws.FnAt': WHATEVER THE INPUT: true; the input reads as it did. -/
def fnAtSpec : ChangeSpec := { name := "fnAt", fn := fun _ => fun
  | [d] => { results := [.lit (.bool true)], args := [d] }
  | _ => none }
def fnAtRow : OpenClaim := { program := "ytfjbdbfeolfcfaa", sum := "0579b33edeeaa0bbc761097a1c5a1f080daecdd0670f20fe3f33cc70ad41077a", func := "loop.example/localglobal/laws.FnAt", spec := "fnAt", plainKeys := false, apart := false }
def FnAtSaid : Prop := fnAtRow.holds Try.pinned (OpenSpec.ofChange fnAtSpec)

/-- ITS FALSE NEIGHBOUR: 'it returns false'. Refute it at one input. -/
def fnAtWrong : ChangeSpec := { name := "fnAt", fn := fun _ => fun
  | [d] => { results := [.lit (.bool false)], args := [d] }
  | _ => none }
def FnAtWrongFalsely : Prop := fnAtRow.holds Try.pinned (OpenSpec.ofChange fnAtWrong)

/-- 'laws.FnConicBack': WHATEVER THE INPUT: true; the input reads as it did. -/
def fnConicBackSpec : ChangeSpec := { name := "fnConicBack", fn := fun _ => fun
  | [d] => { results := [.lit (.bool true)], args := [d] }
  | _ => none }
def fnConicBackRow : OpenClaim := { program := "ytfjbdbfeolfcfaa", sum := "0579b33edeeaa0bbc761097a1c5a1f080daecdd0670f20fe3f33cc70ad41077a", func := "loop.example/localglobal/laws.FnConicBack", spec := "fnConicBack", plainKeys := false, apart := false }
def FnConicBackSaid : Prop := fnConicBackRow.holds Try.pinned (OpenSpec.ofChange fnConicBackSpec)

/-- ITS FALSE NEIGHBOUR: 'it returns false'. Refute it at one input. -/
def fnConicBackWrong : ChangeSpec := { name := "fnConicBack", fn := fun _ => fun
  | [d] => { results := [.lit (.bool false)], args := [d] }
  | _ => none }
def FnConicBackWrongFalsely : Prop := fnConicBackRow.holds Try.pinned (OpenSpec.ofChange fnConicBackWrong)

/-- 'laws.FnConicMany': WHATEVER THE INPUT: true; the input reads as it did. -/
def fnConicManySpec : ChangeSpec := { name := "fnConicMany", fn := fun _ => fun
  | [d] => { results := [.lit (.bool true)], args := [d] }
  | _ => none }
def fnConicManyRow : OpenClaim := { program := "ytfjbdbfeolfcfaa", sum := "0579b33edeeaa0bbc761097a1c5a1f080daecdd0670f20fe3f33cc70ad41077a", func := "loop.example/localglobal/laws.FnConicMany", spec := "fnConicMany", unfollowed := true, recurses := true, plainKeys := false, apart := false }
def FnConicManySaid : Prop := fnConicManyRow.holds Try.pinned (OpenSpec.ofChange fnConicManySpec)

/-- ITS FALSE NEIGHBOUR: 'it returns false'. Refute it at one input. -/
def fnConicManyWrong : ChangeSpec := { name := "fnConicMany", fn := fun _ => fun
  | [d] => { results := [.lit (.bool false)], args := [d] }
  | _ => none }
def FnConicManyWrongFalsely : Prop := fnConicManyRow.holds Try.pinned (OpenSpec.ofChange fnConicManyWrong)

/-- 'laws.FnExactConicMany': WHATEVER THE INPUT: true; the input reads as it did. -/
def fnExactConicManySpec : ChangeSpec := { name := "fnExactConicMany", fn := fun _ => fun
  | [d1, d2, d3] => { results := [.lit (.bool true)], args := [d1, d2, d3] }
  | _ => none }
def fnExactConicManyRow : OpenClaim := { program := "ytfjbdbfeolfcfaa", sum := "0579b33edeeaa0bbc761097a1c5a1f080daecdd0670f20fe3f33cc70ad41077a", func := "loop.example/localglobal/laws.FnExactConicMany", spec := "fnExactConicMany", unfollowed := true, recurses := true, plainKeys := false, apart := false }
def FnExactConicManySaid : Prop := fnExactConicManyRow.holds Try.pinned (OpenSpec.ofChange fnExactConicManySpec)

/-- ITS FALSE NEIGHBOUR: 'it returns false'. Refute it at one input. -/
def fnExactConicManyWrong : ChangeSpec := { name := "fnExactConicMany", fn := fun _ => fun
  | [d1, d2, d3] => { results := [.lit (.bool false)], args := [d1, d2, d3] }
  | _ => none }
def FnExactConicManyWrongFalsely : Prop := fnExactConicManyRow.holds Try.pinned (OpenSpec.ofChange fnExactConicManyWrong)

/- THE SECOND FORM. 'bulk': how many values and letters a reading holds, each counted each time it is reached (what is shared counts as often as it is met; a slice's spare places count too). A statement '..UptoSaid' is the law's where the arguments, and the package variables that the reading takes, are together of bulk at most 1048576: NARROWER than '..Said'. Prove '..Said' where nothing that the law and all that it calls make is longer than what came in: it says more and counts as full. Else prove '..UptoSaid'. A law counts once. -/
mutual
def uptoBulk {H : Type} : DataW H → Nat
  | .lit (.string bytes) => bytes.length + 1
  | .lit _ => 1
  | .nil => 1
  | .ptr d => uptoBulk d + 1
  | .slice elems spare => uptoBulkAll elems + uptoBulkAll spare + 1
  | .agg parts => uptoBulkAll parts + 1
  | .iface _ d => uptoBulk d + 1
  | .map entries => uptoBulkEntries entries + 1
  | .held _ => 1
def uptoBulkAll {H : Type} : List (DataW H) → Nat
  | [] => 0
  | d :: r => uptoBulk d + uptoBulkAll r
def uptoBulkEntries {H : Type} : List (Lit × DataW H) → Nat
  | [] => 0
  | x :: r => uptoBulkEntry x + uptoBulkEntries r
def uptoBulkEntry {H : Type} : Lit × DataW H → Nat
  | (.string bytes, d) => bytes.length + uptoBulk d + 1
  | (_, d) => uptoBulk d + 1
 end
def uptoSmall : (H : Type) → List (DataW H) → Bool := fun _ ds => decide (uptoBulkAll ds ≤ 1048576)
def OpenSpec.upto (s : _root_.Go.ChangeSpec) : _root_.Go.OpenSpec := { _root_.Go.OpenSpec.ofChange s with cond := some uptoSmall }

/-- 'laws.FnPoint', WHERE WHAT IT READS IS OF BULK AT MOST 1048576: true; the input reads as it did. -/
def fnPointUptoRow : OpenClaim := { program := "ytfjbdbfeolfcfaa", sum := "0579b33edeeaa0bbc761097a1c5a1f080daecdd0670f20fe3f33cc70ad41077a", func := "loop.example/localglobal/laws.FnPoint", spec := "fnPoint", plainKeys := false, apart := false, narrowed := true }
def FnPointUptoSaid : Prop := fnPointUptoRow.holds Try.pinned (OpenSpec.upto fnPointSpec)

/-- 'laws.FnOther', WHERE WHAT IT READS IS OF BULK AT MOST 1048576: true; the input reads as it did. -/
def fnOtherUptoRow : OpenClaim := { program := "ytfjbdbfeolfcfaa", sum := "0579b33edeeaa0bbc761097a1c5a1f080daecdd0670f20fe3f33cc70ad41077a", func := "loop.example/localglobal/laws.FnOther", spec := "fnOther", plainKeys := false, apart := false, narrowed := true }
def FnOtherUptoSaid : Prop := fnOtherUptoRow.holds Try.pinned (OpenSpec.upto fnOtherSpec)

/-- 'laws.FnAt', WHERE WHAT IT READS IS OF BULK AT MOST 1048576: true; the input reads as it did. -/
def fnAtUptoRow : OpenClaim := { program := "ytfjbdbfeolfcfaa", sum := "0579b33edeeaa0bbc761097a1c5a1f080daecdd0670f20fe3f33cc70ad41077a", func := "loop.example/localglobal/laws.FnAt", spec := "fnAt", plainKeys := false, apart := false, narrowed := true }
def FnAtUptoSaid : Prop := fnAtUptoRow.holds Try.pinned (OpenSpec.upto fnAtSpec)

/-- 'laws.FnConicBack', WHERE WHAT IT READS IS OF BULK AT MOST 1048576: true; the input reads as it did. -/
def fnConicBackUptoRow : OpenClaim := { program := "ytfjbdbfeolfcfaa", sum := "0579b33edeeaa0bbc761097a1c5a1f080daecdd0670f20fe3f33cc70ad41077a", func := "loop.example/localglobal/laws.FnConicBack", spec := "fnConicBack", plainKeys := false, apart := false, narrowed := true }
def FnConicBackUptoSaid : Prop := fnConicBackUptoRow.holds Try.pinned (OpenSpec.upto fnConicBackSpec)

/-- 'laws.FnConicMany', WHERE WHAT IT READS IS OF BULK AT MOST 1048576: true; the input reads as it did. -/
def fnConicManyUptoRow : OpenClaim := { program := "ytfjbdbfeolfcfaa", sum := "0579b33edeeaa0bbc761097a1c5a1f080daecdd0670f20fe3f33cc70ad41077a", func := "loop.example/localglobal/laws.FnConicMany", spec := "fnConicMany", unfollowed := true, recurses := true, plainKeys := false, apart := false, narrowed := true }
def FnConicManyUptoSaid : Prop := fnConicManyUptoRow.holds Try.pinned (OpenSpec.upto fnConicManySpec)

/-- 'laws.FnExactConicMany', WHERE WHAT IT READS IS OF BULK AT MOST 1048576: true; the input reads as it did. -/
def fnExactConicManyUptoRow : OpenClaim := { program := "ytfjbdbfeolfcfaa", sum := "0579b33edeeaa0bbc761097a1c5a1f080daecdd0670f20fe3f33cc70ad41077a", func := "loop.example/localglobal/laws.FnExactConicMany", spec := "fnExactConicMany", unfollowed := true, recurses := true, plainKeys := false, apart := false, narrowed := true }
def FnExactConicManyUptoSaid : Prop := fnExactConicManyUptoRow.holds Try.pinned (OpenSpec.upto fnExactConicManySpec)

end Rows
end Go.Proofs.Ytfjbdbfeolfcfaa
