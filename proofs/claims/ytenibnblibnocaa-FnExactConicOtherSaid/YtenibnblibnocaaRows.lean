/-
  No cell of these rows narrows 'for every input' (looked for: loops, veiled, ifaces, maps, wideKeys, modest, calm, conditions, laid).
  DERIVED. THE GIVEN ROWS OF THIS SEAT. 11 by the template 'for every input the law returns true; each argument reads behind the call as it read before'; 0 by the template 'total and deterministic' (their statements: YtenibnblibnocaaTotals.lean).
  GIVEN WITH THE SEED: the statements are not yours to turn. If you find one false, say at which input.
  Laid BY PROGRAM, IN A SANDBOX (cutbox-rows.mjs): the forced cells as the released guide's own fill.sh prints them over the translation 18f08f6a69fb74d4… (all of the seat's roots in one cut). By AI agents, Wed Nov 11 2026. No macro, syntax, notation, axiom, sorry.
-/
import Derived.Test.YtenibnblibnocaaChecked
import GoSem.Claim
import GoSem.ClaimJoined
import GoSem.ClaimMapViews
import Derived.JoinedTies
import Derived.KernelRfl
namespace Go.Proofs.Ytenibnblibnocaa
/- THE CELL 'sum', in the pinned program and in every row, IS THE sha256 OF THE DUMP (.gsa) THAT YtenibnblibnocaaProg.lean LOADS. Nothing in Lean hashes anything: it is a label: what it is worth is what the hold of that sum in a sandbox is worth. -/
noncomputable def Try.pinned : Pinned := { name := "ytenibnblibnocaa", sum := "18f08f6a69fb74d41239f979c0c7e7a54c382b96cbbb9f02d3e05930a0b03339", checked := Try.checked }
namespace Rows
def none {H : Type} : Left H := { results := [], args := [] }

/-- 'laws.FnExactConicPoint': WHATEVER THE INPUT: true; the input reads as it did. -/
def fnExactConicPointSpec : ChangeSpec := { name := "fnExactConicPoint", fn := fun _ => fun
  | [d1, d2] => { results := [.lit (.bool true)], args := [d1, d2] }
  | _ => none }
def fnExactConicPointRow : OpenClaim := { program := "ytenibnblibnocaa", sum := "18f08f6a69fb74d41239f979c0c7e7a54c382b96cbbb9f02d3e05930a0b03339", func := "loop.example/localglobal/laws.FnExactConicPoint", spec := "fnExactConicPoint", plainKeys := false, apart := false }
def FnExactConicPointSaid : Prop := fnExactConicPointRow.holds Try.pinned (OpenSpec.ofChange fnExactConicPointSpec)

/-- ITS FALSE NEIGHBOUR: 'it returns false'. Refute it at one input. -/
def fnExactConicPointWrong : ChangeSpec := { name := "fnExactConicPoint", fn := fun _ => fun
  | [d1, d2] => { results := [.lit (.bool false)], args := [d1, d2] }
  | _ => none }
def FnExactConicPointWrongFalsely : Prop := fnExactConicPointRow.holds Try.pinned (OpenSpec.ofChange fnExactConicPointWrong)

/-- 'laws.FnExactConicOther': WHATEVER THE INPUT: true; the input reads as it did. -/
def fnExactConicOtherSpec : ChangeSpec := { name := "fnExactConicOther", fn := fun _ => fun
  | [d1, d2, d3] => { results := [.lit (.bool true)], args := [d1, d2, d3] }
  | _ => none }
def fnExactConicOtherRow : OpenClaim := { program := "ytenibnblibnocaa", sum := "18f08f6a69fb74d41239f979c0c7e7a54c382b96cbbb9f02d3e05930a0b03339", func := "loop.example/localglobal/laws.FnExactConicOther", spec := "fnExactConicOther", plainKeys := false, apart := false }
def FnExactConicOtherSaid : Prop := fnExactConicOtherRow.holds Try.pinned (OpenSpec.ofChange fnExactConicOtherSpec)

/-- ITS FALSE NEIGHBOUR: 'it returns false'. Refute it at one input. -/
def fnExactConicOtherWrong : ChangeSpec := { name := "fnExactConicOther", fn := fun _ => fun
  | [d1, d2, d3] => { results := [.lit (.bool false)], args := [d1, d2, d3] }
  | _ => none }
def FnExactConicOtherWrongFalsely : Prop := fnExactConicOtherRow.holds Try.pinned (OpenSpec.ofChange fnExactConicOtherWrong)

/-- 'laws.FnExactConicAt': WHATEVER THE INPUT: true; the input reads as it did. -/
def fnExactConicAtSpec : ChangeSpec := { name := "fnExactConicAt", fn := fun _ => fun
  | [d1, d2, d3, d4] => { results := [.lit (.bool true)], args := [d1, d2, d3, d4] }
  | _ => none }
def fnExactConicAtRow : OpenClaim := { program := "ytenibnblibnocaa", sum := "18f08f6a69fb74d41239f979c0c7e7a54c382b96cbbb9f02d3e05930a0b03339", func := "loop.example/localglobal/laws.FnExactConicAt", spec := "fnExactConicAt", plainKeys := false, apart := false }
def FnExactConicAtSaid : Prop := fnExactConicAtRow.holds Try.pinned (OpenSpec.ofChange fnExactConicAtSpec)

/-- ITS FALSE NEIGHBOUR: 'it returns false'. Refute it at one input. -/
def fnExactConicAtWrong : ChangeSpec := { name := "fnExactConicAt", fn := fun _ => fun
  | [d1, d2, d3, d4] => { results := [.lit (.bool false)], args := [d1, d2, d3, d4] }
  | _ => none }
def FnExactConicAtWrongFalsely : Prop := fnExactConicAtRow.holds Try.pinned (OpenSpec.ofChange fnExactConicAtWrong)

/-- 'laws.FnExactConicBack': WHATEVER THE INPUT: true; the input reads as it did. -/
def fnExactConicBackSpec : ChangeSpec := { name := "fnExactConicBack", fn := fun _ => fun
  | [d1, d2, d3] => { results := [.lit (.bool true)], args := [d1, d2, d3] }
  | _ => none }
def fnExactConicBackRow : OpenClaim := { program := "ytenibnblibnocaa", sum := "18f08f6a69fb74d41239f979c0c7e7a54c382b96cbbb9f02d3e05930a0b03339", func := "loop.example/localglobal/laws.FnExactConicBack", spec := "fnExactConicBack", plainKeys := false, apart := false }
def FnExactConicBackSaid : Prop := fnExactConicBackRow.holds Try.pinned (OpenSpec.ofChange fnExactConicBackSpec)

/-- ITS FALSE NEIGHBOUR: 'it returns false'. Refute it at one input. -/
def fnExactConicBackWrong : ChangeSpec := { name := "fnExactConicBack", fn := fun _ => fun
  | [d1, d2, d3] => { results := [.lit (.bool false)], args := [d1, d2, d3] }
  | _ => none }
def FnExactConicBackWrongFalsely : Prop := fnExactConicBackRow.holds Try.pinned (OpenSpec.ofChange fnExactConicBackWrong)

/-- 'laws.FnExactConicMany': WHATEVER THE INPUT: true; the input reads as it did. -/
def fnExactConicManySpec : ChangeSpec := { name := "fnExactConicMany", fn := fun _ => fun
  | [d1, d2, d3] => { results := [.lit (.bool true)], args := [d1, d2, d3] }
  | _ => none }
def fnExactConicManyRow : OpenClaim := { program := "ytenibnblibnocaa", sum := "18f08f6a69fb74d41239f979c0c7e7a54c382b96cbbb9f02d3e05930a0b03339", func := "loop.example/localglobal/laws.FnExactConicMany", spec := "fnExactConicMany", unfollowed := true, recurses := true, plainKeys := false, apart := false }
def FnExactConicManySaid : Prop := fnExactConicManyRow.holds Try.pinned (OpenSpec.ofChange fnExactConicManySpec)

/-- ITS FALSE NEIGHBOUR: 'it returns false'. Refute it at one input. -/
def fnExactConicManyWrong : ChangeSpec := { name := "fnExactConicMany", fn := fun _ => fun
  | [d1, d2, d3] => { results := [.lit (.bool false)], args := [d1, d2, d3] }
  | _ => none }
def FnExactConicManyWrongFalsely : Prop := fnExactConicManyRow.holds Try.pinned (OpenSpec.ofChange fnExactConicManyWrong)

/-- 'laws.FnExactTripleIs': WHATEVER THE INPUT: true; the input reads as it did. -/
def fnExactTripleIsSpec : ChangeSpec := { name := "fnExactTripleIs", fn := fun _ => fun
  | [d1, d2, d3] => { results := [.lit (.bool true)], args := [d1, d2, d3] }
  | _ => none }
def fnExactTripleIsRow : OpenClaim := { program := "ytenibnblibnocaa", sum := "18f08f6a69fb74d41239f979c0c7e7a54c382b96cbbb9f02d3e05930a0b03339", func := "loop.example/localglobal/laws.FnExactTripleIs", spec := "fnExactTripleIs", plainKeys := false, apart := false }
def FnExactTripleIsSaid : Prop := fnExactTripleIsRow.holds Try.pinned (OpenSpec.ofChange fnExactTripleIsSpec)

/-- ITS FALSE NEIGHBOUR: 'it returns false'. Refute it at one input. -/
def fnExactTripleIsWrong : ChangeSpec := { name := "fnExactTripleIs", fn := fun _ => fun
  | [d1, d2, d3] => { results := [.lit (.bool false)], args := [d1, d2, d3] }
  | _ => none }
def FnExactTripleIsWrongFalsely : Prop := fnExactTripleIsRow.holds Try.pinned (OpenSpec.ofChange fnExactTripleIsWrong)

/-- 'laws.FnExactTripleMake': WHATEVER THE INPUT: true; the input reads as it did. -/
def fnExactTripleMakeSpec : ChangeSpec := { name := "fnExactTripleMake", fn := fun _ => fun
  | [d1, d2] => { results := [.lit (.bool true)], args := [d1, d2] }
  | _ => none }
def fnExactTripleMakeRow : OpenClaim := { program := "ytenibnblibnocaa", sum := "18f08f6a69fb74d41239f979c0c7e7a54c382b96cbbb9f02d3e05930a0b03339", func := "loop.example/localglobal/laws.FnExactTripleMake", spec := "fnExactTripleMake", plainKeys := false, apart := false }
def FnExactTripleMakeSaid : Prop := fnExactTripleMakeRow.holds Try.pinned (OpenSpec.ofChange fnExactTripleMakeSpec)

/-- ITS FALSE NEIGHBOUR: 'it returns false'. Refute it at one input. -/
def fnExactTripleMakeWrong : ChangeSpec := { name := "fnExactTripleMake", fn := fun _ => fun
  | [d1, d2] => { results := [.lit (.bool false)], args := [d1, d2] }
  | _ => none }
def FnExactTripleMakeWrongFalsely : Prop := fnExactTripleMakeRow.holds Try.pinned (OpenSpec.ofChange fnExactTripleMakeWrong)

/-- 'laws.FnExactTripleBack': WHATEVER THE INPUT: true; the input reads as it did. -/
def fnExactTripleBackSpec : ChangeSpec := { name := "fnExactTripleBack", fn := fun _ => fun
  | [d1, d2, d3] => { results := [.lit (.bool true)], args := [d1, d2, d3] }
  | _ => none }
def fnExactTripleBackRow : OpenClaim := { program := "ytenibnblibnocaa", sum := "18f08f6a69fb74d41239f979c0c7e7a54c382b96cbbb9f02d3e05930a0b03339", func := "loop.example/localglobal/laws.FnExactTripleBack", spec := "fnExactTripleBack", plainKeys := false, apart := false }
def FnExactTripleBackSaid : Prop := fnExactTripleBackRow.holds Try.pinned (OpenSpec.ofChange fnExactTripleBackSpec)

/-- ITS FALSE NEIGHBOUR: 'it returns false'. Refute it at one input. -/
def fnExactTripleBackWrong : ChangeSpec := { name := "fnExactTripleBack", fn := fun _ => fun
  | [d1, d2, d3] => { results := [.lit (.bool false)], args := [d1, d2, d3] }
  | _ => none }
def FnExactTripleBackWrongFalsely : Prop := fnExactTripleBackRow.holds Try.pinned (OpenSpec.ofChange fnExactTripleBackWrong)

/-- 'laws.FnExactTripleChild': WHATEVER THE INPUT: true; the input reads as it did. -/
def fnExactTripleChildSpec : ChangeSpec := { name := "fnExactTripleChild", fn := fun _ => fun
  | [d1, d2, d3, d4] => { results := [.lit (.bool true)], args := [d1, d2, d3, d4] }
  | _ => none }
def fnExactTripleChildRow : OpenClaim := { program := "ytenibnblibnocaa", sum := "18f08f6a69fb74d41239f979c0c7e7a54c382b96cbbb9f02d3e05930a0b03339", func := "loop.example/localglobal/laws.FnExactTripleChild", spec := "fnExactTripleChild", plainKeys := false, apart := false }
def FnExactTripleChildSaid : Prop := fnExactTripleChildRow.holds Try.pinned (OpenSpec.ofChange fnExactTripleChildSpec)

/-- ITS FALSE NEIGHBOUR: 'it returns false'. Refute it at one input. -/
def fnExactTripleChildWrong : ChangeSpec := { name := "fnExactTripleChild", fn := fun _ => fun
  | [d1, d2, d3, d4] => { results := [.lit (.bool false)], args := [d1, d2, d3, d4] }
  | _ => none }
def FnExactTripleChildWrongFalsely : Prop := fnExactTripleChildRow.holds Try.pinned (OpenSpec.ofChange fnExactTripleChildWrong)

/-- 'laws.FnExactTripleParent': WHATEVER THE INPUT: true; the input reads as it did. -/
def fnExactTripleParentSpec : ChangeSpec := { name := "fnExactTripleParent", fn := fun _ => fun
  | [d1, d2, d3] => { results := [.lit (.bool true)], args := [d1, d2, d3] }
  | _ => none }
def fnExactTripleParentRow : OpenClaim := { program := "ytenibnblibnocaa", sum := "18f08f6a69fb74d41239f979c0c7e7a54c382b96cbbb9f02d3e05930a0b03339", func := "loop.example/localglobal/laws.FnExactTripleParent", spec := "fnExactTripleParent", plainKeys := false, apart := false }
def FnExactTripleParentSaid : Prop := fnExactTripleParentRow.holds Try.pinned (OpenSpec.ofChange fnExactTripleParentSpec)

/-- ITS FALSE NEIGHBOUR: 'it returns false'. Refute it at one input. -/
def fnExactTripleParentWrong : ChangeSpec := { name := "fnExactTripleParent", fn := fun _ => fun
  | [d1, d2, d3] => { results := [.lit (.bool false)], args := [d1, d2, d3] }
  | _ => none }
def FnExactTripleParentWrongFalsely : Prop := fnExactTripleParentRow.holds Try.pinned (OpenSpec.ofChange fnExactTripleParentWrong)

/-- 'laws.FnExactTripleDepth': WHATEVER THE INPUT: true; the input reads as it did. -/
def fnExactTripleDepthSpec : ChangeSpec := { name := "fnExactTripleDepth", fn := fun _ => fun
  | [d1, d2, d3] => { results := [.lit (.bool true)], args := [d1, d2, d3] }
  | _ => none }
def fnExactTripleDepthRow : OpenClaim := { program := "ytenibnblibnocaa", sum := "18f08f6a69fb74d41239f979c0c7e7a54c382b96cbbb9f02d3e05930a0b03339", func := "loop.example/localglobal/laws.FnExactTripleDepth", spec := "fnExactTripleDepth", recurses := true, plainKeys := false, apart := false }
def FnExactTripleDepthSaid : Prop := fnExactTripleDepthRow.holds Try.pinned (OpenSpec.ofChange fnExactTripleDepthSpec)

/-- ITS FALSE NEIGHBOUR: 'it returns false'. Refute it at one input. -/
def fnExactTripleDepthWrong : ChangeSpec := { name := "fnExactTripleDepth", fn := fun _ => fun
  | [d1, d2, d3] => { results := [.lit (.bool false)], args := [d1, d2, d3] }
  | _ => none }
def FnExactTripleDepthWrongFalsely : Prop := fnExactTripleDepthRow.holds Try.pinned (OpenSpec.ofChange fnExactTripleDepthWrong)

/- THE SECOND FORM. 'bulk': how many values and letters a reading holds, each counted each time it is reached (what is shared counts as often as it is met; a slice's spare places count too). A statement '..UptoSaid' is the law's where the arguments, and the package variables that the reading takes, are together of bulk at most 1048576: NARROWER than '..Said'. Prove '..Said' where nothing that the law and all that it calls make is longer than what came in: it says more and counts as full. Else prove '..UptoSaid'. A law counts once. -/
mutual
def uptoBulk {H : Type} : DataW H → Nat
  | .lit (.string bytes) => bytes.length + 1
  | .lit _ => 1
  | .nil => 1
  | .ptr d => uptoBulk d + 1
  | .slice elems spare => uptoBulkAll elems + uptoBulkAll spare + 1
  | .agg parts => uptoBulkAll parts + 1
  | .iface _ d => uptoBulk d + 1
  | .map entries => uptoBulkEntries entries + 1
  | .held _ => 1
def uptoBulkAll {H : Type} : List (DataW H) → Nat
  | [] => 0
  | d :: r => uptoBulk d + uptoBulkAll r
def uptoBulkEntries {H : Type} : List (Lit × DataW H) → Nat
  | [] => 0
  | x :: r => uptoBulkEntry x + uptoBulkEntries r
def uptoBulkEntry {H : Type} : Lit × DataW H → Nat
  | (.string bytes, d) => bytes.length + uptoBulk d + 1
  | (_, d) => uptoBulk d + 1
 end
def uptoSmall : (H : Type) → List (DataW H) → Bool := fun _ ds => decide (uptoBulkAll ds ≤ 1048576)
def OpenSpec.upto (s : _root_.Go.ChangeSpec) : _root_.Go.OpenSpec := { _root_.Go.OpenSpec.ofChange s with cond := some uptoSmall }

/-- 'laws.FnExactConicPoint', WHERE WHAT IT READS IS OF BULK AT MOST 1048576: true; the input reads as it did. -/
def fnExactConicPointUptoRow : OpenClaim := { program := "ytenibnblibnocaa", sum := "18f08f6a69fb74d41239f979c0c7e7a54c382b96cbbb9f02d3e05930a0b03339", func := "loop.example/localglobal/laws.FnExactConicPoint", spec := "fnExactConicPoint", plainKeys := false, apart := false, narrowed := true }
def FnExactConicPointUptoSaid : Prop := fnExactConicPointUptoRow.holds Try.pinned (OpenSpec.upto fnExactConicPointSpec)

/-- 'laws.FnExactConicOther', WHERE WHAT IT READS IS OF BULK AT MOST 1048576: true; the input reads as it did. -/
def fnExactConicOtherUptoRow : OpenClaim := { program := "ytenibnblibnocaa", sum := "18f08f6a69fb74d41239f979c0c7e7a54c382b96cbbb9f02d3e05930a0b03339", func := "loop.example/localglobal/laws.FnExactConicOther", spec := "fnExactConicOther", plainKeys := false, apart := false, narrowed := true }
def FnExactConicOtherUptoSaid : Prop := fnExactConicOtherUptoRow.holds Try.pinned (OpenSpec.upto fnExactConicOtherSpec)

/-- 'laws.FnExactConicAt', WHERE WHAT IT READS IS OF BULK AT MOST 1048576: true; the input reads as it did. -/
def fnExactConicAtUptoRow : OpenClaim := { program := "ytenibnblibnocaa", sum := "18f08f6a69fb74d41239f979c0c7e7a54c382b96cbbb9f02d3e05930a0b03339", func := "loop.example/localglobal/laws.FnExactConicAt", spec := "fnExactConicAt", plainKeys := false, apart := false, narrowed := true }
def FnExactConicAtUptoSaid : Prop := fnExactConicAtUptoRow.holds Try.pinned (OpenSpec.upto fnExactConicAtSpec)

/-- 'laws.FnExactConicBack', WHERE WHAT IT READS IS OF BULK AT MOST 1048576: true; the input reads as it did. -/
def fnExactConicBackUptoRow : OpenClaim := { program := "ytenibnblibnocaa", sum := "18f08f6a69fb74d41239f979c0c7e7a54c382b96cbbb9f02d3e05930a0b03339", func := "loop.example/localglobal/laws.FnExactConicBack", spec := "fnExactConicBack", plainKeys := false, apart := false, narrowed := true }
def FnExactConicBackUptoSaid : Prop := fnExactConicBackUptoRow.holds Try.pinned (OpenSpec.upto fnExactConicBackSpec)

/-- 'laws.FnExactConicMany', WHERE WHAT IT READS IS OF BULK AT MOST 1048576: true; the input reads as it did. -/
def fnExactConicManyUptoRow : OpenClaim := { program := "ytenibnblibnocaa", sum := "18f08f6a69fb74d41239f979c0c7e7a54c382b96cbbb9f02d3e05930a0b03339", func := "loop.example/localglobal/laws.FnExactConicMany", spec := "fnExactConicMany", unfollowed := true, recurses := true, plainKeys := false, apart := false, narrowed := true }
def FnExactConicManyUptoSaid : Prop := fnExactConicManyUptoRow.holds Try.pinned (OpenSpec.upto fnExactConicManySpec)

/-- 'laws.FnExactTripleIs', WHERE WHAT IT READS IS OF BULK AT MOST 1048576: true; the input reads as it did. -/
def fnExactTripleIsUptoRow : OpenClaim := { program := "ytenibnblibnocaa", sum := "18f08f6a69fb74d41239f979c0c7e7a54c382b96cbbb9f02d3e05930a0b03339", func := "loop.example/localglobal/laws.FnExactTripleIs", spec := "fnExactTripleIs", plainKeys := false, apart := false, narrowed := true }
def FnExactTripleIsUptoSaid : Prop := fnExactTripleIsUptoRow.holds Try.pinned (OpenSpec.upto fnExactTripleIsSpec)

/-- 'laws.FnExactTripleMake', WHERE WHAT IT READS IS OF BULK AT MOST 1048576: true; the input reads as it did. -/
def fnExactTripleMakeUptoRow : OpenClaim := { program := "ytenibnblibnocaa", sum := "18f08f6a69fb74d41239f979c0c7e7a54c382b96cbbb9f02d3e05930a0b03339", func := "loop.example/localglobal/laws.FnExactTripleMake", spec := "fnExactTripleMake", plainKeys := false, apart := false, narrowed := true }
def FnExactTripleMakeUptoSaid : Prop := fnExactTripleMakeUptoRow.holds Try.pinned (OpenSpec.upto fnExactTripleMakeSpec)

/-- 'laws.FnExactTripleBack', WHERE WHAT IT READS IS OF BULK AT MOST 1048576: true; the input reads as it did. -/
def fnExactTripleBackUptoRow : OpenClaim := { program := "ytenibnblibnocaa", sum := "18f08f6a69fb74d41239f979c0c7e7a54c382b96cbbb9f02d3e05930a0b03339", func := "loop.example/localglobal/laws.FnExactTripleBack", spec := "fnExactTripleBack", plainKeys := false, apart := false, narrowed := true }
def FnExactTripleBackUptoSaid : Prop := fnExactTripleBackUptoRow.holds Try.pinned (OpenSpec.upto fnExactTripleBackSpec)

/-- 'laws.FnExactTripleChild', WHERE WHAT IT READS IS OF BULK AT MOST 1048576: true; the input reads as it did. -/
def fnExactTripleChildUptoRow : OpenClaim := { program := "ytenibnblibnocaa", sum := "18f08f6a69fb74d41239f979c0c7e7a54c382b96cbbb9f02d3e05930a0b03339", func := "loop.example/localglobal/laws.FnExactTripleChild", spec := "fnExactTripleChild", plainKeys := false, apart := false, narrowed := true }
def FnExactTripleChildUptoSaid : Prop := fnExactTripleChildUptoRow.holds Try.pinned (OpenSpec.upto fnExactTripleChildSpec)

/-- 'laws.FnExactTripleParent', WHERE WHAT IT READS IS OF BULK AT MOST 1048576: true; the input reads as it did. -/
def fnExactTripleParentUptoRow : OpenClaim := { program := "ytenibnblibnocaa", sum := "18f08f6a69fb74d41239f979c0c7e7a54c382b96cbbb9f02d3e05930a0b03339", func := "loop.example/localglobal/laws.FnExactTripleParent", spec := "fnExactTripleParent", plainKeys := false, apart := false, narrowed := true }
def FnExactTripleParentUptoSaid : Prop := fnExactTripleParentUptoRow.holds Try.pinned (OpenSpec.upto fnExactTripleParentSpec)

/-- 'laws.FnExactTripleDepth', WHERE WHAT IT READS IS OF BULK AT MOST 1048576: true; the input reads as it did. -/
def fnExactTripleDepthUptoRow : OpenClaim := { program := "ytenibnblibnocaa", sum := "18f08f6a69fb74d41239f979c0c7e7a54c382b96cbbb9f02d3e05930a0b03339", func := "loop.example/localglobal/laws.FnExactTripleDepth", spec := "fnExactTripleDepth", recurses := true, plainKeys := false, apart := false, narrowed := true }
def FnExactTripleDepthUptoSaid : Prop := fnExactTripleDepthUptoRow.holds Try.pinned (OpenSpec.upto fnExactTripleDepthSpec)

end Rows
end Go.Proofs.Ytenibnblibnocaa
