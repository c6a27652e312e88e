/-
  No cell of these rows narrows 'for every input' (looked for: loops, veiled, ifaces, maps, wideKeys, modest, calm, conditions, laid).
  DERIVED. THE GIVEN ROWS OF THIS SEAT. 7 by the template 'for every input the law returns true; each argument reads behind the call as it read before'; 0 by the template 'total and deterministic' (their statements: YtciajpimpjpnfacTotals.lean).
  GIVEN WITH THE SEED: the statements are not yours to turn. If you find one false, say at which input.
  Laid BY PROGRAM, IN A SANDBOX (cutbox-rows.mjs): the forced cells as the released guide's own fill.sh prints them over the translation 0f2e1fa98ad4ac2d… (all of the seat's roots in one cut). By AI agents, Wed Nov 11 2026. No macro, syntax, notation, axiom, sorry.
-/
import Derived.Test.YtciajpimpjpnfacChecked
import GoSem.Claim
import GoSem.ClaimJoined
import GoSem.ClaimMapViews
import Derived.JoinedTies
import Derived.KernelRfl
namespace Go.Proofs.Ytciajpimpjpnfac
/- THE CELL 'sum', in the pinned program and in every row, IS THE sha256 OF THE DUMP (.gsa) THAT YtciajpimpjpnfacProg.lean LOADS. Nothing in Lean hashes anything: it is a label: what it is worth is what the hold of that sum in a sandbox is worth. -/
noncomputable def Try.pinned : Pinned := { name := "ytciajpimpjpnfac", sum := "0f2e1fa98ad4ac2d219b287a5e131d744c584d7e34f55ed01209295d3cf69b5c", checked := Try.checked }
namespace Rows
def none {H : Type} : Left H := { results := [], args := [] }

/-- 'laws.FnExactFormSame': WHATEVER THE INPUT: true; the input reads as it did. -/
def fnExactFormSameSpec : ChangeSpec := { name := "fnExactFormSame", fn := fun _ => fun
  | [d1, d2] => { results := [.lit (.bool true)], args := [d1, d2] }
  | _ => none }
def fnExactFormSameRow : OpenClaim := { program := "ytciajpimpjpnfac", sum := "0f2e1fa98ad4ac2d219b287a5e131d744c584d7e34f55ed01209295d3cf69b5c", func := "loop.example/localglobal/laws.FnExactFormSame", spec := "fnExactFormSame", unfollowed := true, recurses := true, apart := false }
def FnExactFormSameSaid : Prop := fnExactFormSameRow.holds Try.pinned (OpenSpec.ofChange fnExactFormSameSpec)

/-- ITS FALSE NEIGHBOUR: 'it returns false'. Refute it at one input. -/
def fnExactFormSameWrong : ChangeSpec := { name := "fnExactFormSame", fn := fun _ => fun
  | [d1, d2] => { results := [.lit (.bool false)], args := [d1, d2] }
  | _ => none }
def FnExactFormSameWrongFalsely : Prop := fnExactFormSameRow.holds Try.pinned (OpenSpec.ofChange fnExactFormSameWrong)

/-- 'laws.FnExactFormJoin': WHATEVER THE INPUT: true; the input reads as it did. -/
def fnExactFormJoinSpec : ChangeSpec := { name := "fnExactFormJoin", fn := fun _ => fun
  | [d1, d2] => { results := [.lit (.bool true)], args := [d1, d2] }
  | _ => none }
def fnExactFormJoinRow : OpenClaim := { program := "ytciajpimpjpnfac", sum := "0f2e1fa98ad4ac2d219b287a5e131d744c584d7e34f55ed01209295d3cf69b5c", func := "loop.example/localglobal/laws.FnExactFormJoin", spec := "fnExactFormJoin", apart := false }
def FnExactFormJoinSaid : Prop := fnExactFormJoinRow.holds Try.pinned (OpenSpec.ofChange fnExactFormJoinSpec)

/-- ITS FALSE NEIGHBOUR: 'it returns false'. Refute it at one input. -/
def fnExactFormJoinWrong : ChangeSpec := { name := "fnExactFormJoin", fn := fun _ => fun
  | [d1, d2] => { results := [.lit (.bool false)], args := [d1, d2] }
  | _ => none }
def FnExactFormJoinWrongFalsely : Prop := fnExactFormJoinRow.holds Try.pinned (OpenSpec.ofChange fnExactFormJoinWrong)

/-- 'laws.FnExactFormTimes': WHATEVER THE INPUT: true; the input reads as it did. -/
def fnExactFormTimesSpec : ChangeSpec := { name := "fnExactFormTimes", fn := fun _ => fun
  | [d1, d2] => { results := [.lit (.bool true)], args := [d1, d2] }
  | _ => none }
def fnExactFormTimesRow : OpenClaim := { program := "ytciajpimpjpnfac", sum := "0f2e1fa98ad4ac2d219b287a5e131d744c584d7e34f55ed01209295d3cf69b5c", func := "loop.example/localglobal/laws.FnExactFormTimes", spec := "fnExactFormTimes", unfollowed := true, recurses := true, apart := false }
def FnExactFormTimesSaid : Prop := fnExactFormTimesRow.holds Try.pinned (OpenSpec.ofChange fnExactFormTimesSpec)

/-- ITS FALSE NEIGHBOUR: 'it returns false'. Refute it at one input. -/
def fnExactFormTimesWrong : ChangeSpec := { name := "fnExactFormTimes", fn := fun _ => fun
  | [d1, d2] => { results := [.lit (.bool false)], args := [d1, d2] }
  | _ => none }
def FnExactFormTimesWrongFalsely : Prop := fnExactFormTimesRow.holds Try.pinned (OpenSpec.ofChange fnExactFormTimesWrong)

/-- 'laws.FnExactFormCores': WHATEVER THE INPUT: true; the input reads as it did. -/
def fnExactFormCoresSpec : ChangeSpec := { name := "fnExactFormCores", fn := fun _ => fun
  | [d] => { results := [.lit (.bool true)], args := [d] }
  | _ => none }
def fnExactFormCoresRow : OpenClaim := { program := "ytciajpimpjpnfac", sum := "0f2e1fa98ad4ac2d219b287a5e131d744c584d7e34f55ed01209295d3cf69b5c", func := "loop.example/localglobal/laws.FnExactFormCores", spec := "fnExactFormCores", unfollowed := true, recurses := true, apart := false }
def FnExactFormCoresSaid : Prop := fnExactFormCoresRow.holds Try.pinned (OpenSpec.ofChange fnExactFormCoresSpec)

/-- ITS FALSE NEIGHBOUR: 'it returns false'. Refute it at one input. -/
def fnExactFormCoresWrong : ChangeSpec := { name := "fnExactFormCores", fn := fun _ => fun
  | [d] => { results := [.lit (.bool false)], args := [d] }
  | _ => none }
def FnExactFormCoresWrongFalsely : Prop := fnExactFormCoresRow.holds Try.pinned (OpenSpec.ofChange fnExactFormCoresWrong)

/-- 'laws.FnCore': WHATEVER THE INPUT: true; the input reads as it did. -/
def fnCoreSpec : ChangeSpec := { name := "fnCore", fn := fun _ => fun
  | [d] => { results := [.lit (.bool true)], args := [d] }
  | _ => none }
def fnCoreRow : OpenClaim := { program := "ytciajpimpjpnfac", sum := "0f2e1fa98ad4ac2d219b287a5e131d744c584d7e34f55ed01209295d3cf69b5c", func := "loop.example/localglobal/laws.FnCore", spec := "fnCore", unfollowed := true, recurses := true, apart := false }
def FnCoreSaid : Prop := fnCoreRow.holds Try.pinned (OpenSpec.ofChange fnCoreSpec)

/-- ITS FALSE NEIGHBOUR: 'it returns false'. Refute it at one input. -/
def fnCoreWrong : ChangeSpec := { name := "fnCore", fn := fun _ => fun
  | [d] => { results := [.lit (.bool false)], args := [d] }
  | _ => none }
def FnCoreWrongFalsely : Prop := fnCoreRow.holds Try.pinned (OpenSpec.ofChange fnCoreWrong)

/-- 'laws.FnExactCoreOf': WHATEVER THE INPUT: true; the input reads as it did. -/
def fnExactCoreOfSpec : ChangeSpec := { name := "fnExactCoreOf", fn := fun _ => fun
  | [d] => { results := [.lit (.bool true)], args := [d] }
  | _ => none }
def fnExactCoreOfRow : OpenClaim := { program := "ytciajpimpjpnfac", sum := "0f2e1fa98ad4ac2d219b287a5e131d744c584d7e34f55ed01209295d3cf69b5c", func := "loop.example/localglobal/laws.FnExactCoreOf", spec := "fnExactCoreOf", unfollowed := true, recurses := true, apart := false }
def FnExactCoreOfSaid : Prop := fnExactCoreOfRow.holds Try.pinned (OpenSpec.ofChange fnExactCoreOfSpec)

/-- ITS FALSE NEIGHBOUR: 'it returns false'. Refute it at one input. -/
def fnExactCoreOfWrong : ChangeSpec := { name := "fnExactCoreOf", fn := fun _ => fun
  | [d] => { results := [.lit (.bool false)], args := [d] }
  | _ => none }
def FnExactCoreOfWrongFalsely : Prop := fnExactCoreOfRow.holds Try.pinned (OpenSpec.ofChange fnExactCoreOfWrong)

/-- 'laws.FnModulo': WHATEVER THE INPUT: true; the input reads as it did. -/
def fnModuloSpec : ChangeSpec := { name := "fnModulo", fn := fun _ => fun
  | [d] => { results := [.lit (.bool true)], args := [d] }
  | _ => none }
def fnModuloRow : OpenClaim := { program := "ytciajpimpjpnfac", sum := "0f2e1fa98ad4ac2d219b287a5e131d744c584d7e34f55ed01209295d3cf69b5c", func := "loop.example/localglobal/laws.FnModulo", spec := "fnModulo", unfollowed := true, recurses := true, apart := false }
def FnModuloSaid : Prop := fnModuloRow.holds Try.pinned (OpenSpec.ofChange fnModuloSpec)

/-- ITS FALSE NEIGHBOUR: 'it returns false'. Refute it at one input. -/
def fnModuloWrong : ChangeSpec := { name := "fnModulo", fn := fun _ => fun
  | [d] => { results := [.lit (.bool false)], args := [d] }
  | _ => none }
def FnModuloWrongFalsely : Prop := fnModuloRow.holds Try.pinned (OpenSpec.ofChange fnModuloWrong)

/- THE SECOND FORM. 'bulk': how many values and letters a reading holds, each counted each time it is reached (what is shared counts as often as it is met; a slice's spare places count too). A statement '..UptoSaid' is the law's where the arguments, and the package variables that the reading takes, are together of bulk at most 1048576: NARROWER than '..Said'. Prove '..Said' where nothing that the law and all that it calls make is longer than what came in: it says more and counts as full. Else prove '..UptoSaid'. A law counts once. -/
mutual
def uptoBulk {H : Type} : DataW H → Nat
  | .lit (.string bytes) => bytes.length + 1
  | .lit _ => 1
  | .nil => 1
  | .ptr d => uptoBulk d + 1
  | .slice elems spare => uptoBulkAll elems + uptoBulkAll spare + 1
  | .agg parts => uptoBulkAll parts + 1
  | .iface _ d => uptoBulk d + 1
  | .map entries => uptoBulkEntries entries + 1
  | .held _ => 1
def uptoBulkAll {H : Type} : List (DataW H) → Nat
  | [] => 0
  | d :: r => uptoBulk d + uptoBulkAll r
def uptoBulkEntries {H : Type} : List (Lit × DataW H) → Nat
  | [] => 0
  | x :: r => uptoBulkEntry x + uptoBulkEntries r
def uptoBulkEntry {H : Type} : Lit × DataW H → Nat
  | (.string bytes, d) => bytes.length + uptoBulk d + 1
  | (_, d) => uptoBulk d + 1
 end
def uptoSmall : (H : Type) → List (DataW H) → Bool := fun _ ds => decide (uptoBulkAll ds ≤ 1048576)
def OpenSpec.upto (s : _root_.Go.ChangeSpec) : _root_.Go.OpenSpec := { _root_.Go.OpenSpec.ofChange s with cond := some uptoSmall }

/-- 'laws.FnExactFormSame', WHERE WHAT IT READS IS OF BULK AT MOST 1048576: true; the input reads as it did. -/
def fnExactFormSameUptoRow : OpenClaim := { program := "ytciajpimpjpnfac", sum := "0f2e1fa98ad4ac2d219b287a5e131d744c584d7e34f55ed01209295d3cf69b5c", func := "loop.example/localglobal/laws.FnExactFormSame", spec := "fnExactFormSame", unfollowed := true, recurses := true, apart := false, narrowed := true }
def FnExactFormSameUptoSaid : Prop := fnExactFormSameUptoRow.holds Try.pinned (OpenSpec.upto fnExactFormSameSpec)

/-- 'laws.FnExactFormJoin', WHERE WHAT IT READS IS OF BULK AT MOST 1048576: true; the input reads as it did. -/
def fnExactFormJoinUptoRow : OpenClaim := { program := "ytciajpimpjpnfac", sum := "0f2e1fa98ad4ac2d219b287a5e131d744c584d7e34f55ed01209295d3cf69b5c", func := "loop.example/localglobal/laws.FnExactFormJoin", spec := "fnExactFormJoin", apart := false, narrowed := true }
def FnExactFormJoinUptoSaid : Prop := fnExactFormJoinUptoRow.holds Try.pinned (OpenSpec.upto fnExactFormJoinSpec)

/-- 'laws.FnExactFormTimes', WHERE WHAT IT READS IS OF BULK AT MOST 1048576: true; the input reads as it did. -/
def fnExactFormTimesUptoRow : OpenClaim := { program := "ytciajpimpjpnfac", sum := "0f2e1fa98ad4ac2d219b287a5e131d744c584d7e34f55ed01209295d3cf69b5c", func := "loop.example/localglobal/laws.FnExactFormTimes", spec := "fnExactFormTimes", unfollowed := true, recurses := true, apart := false, narrowed := true }
def FnExactFormTimesUptoSaid : Prop := fnExactFormTimesUptoRow.holds Try.pinned (OpenSpec.upto fnExactFormTimesSpec)

/-- 'laws.FnExactFormCores', WHERE WHAT IT READS IS OF BULK AT MOST 1048576: true; the input reads as it did. -/
def fnExactFormCoresUptoRow : OpenClaim := { program := "ytciajpimpjpnfac", sum := "0f2e1fa98ad4ac2d219b287a5e131d744c584d7e34f55ed01209295d3cf69b5c", func := "loop.example/localglobal/laws.FnExactFormCores", spec := "fnExactFormCores", unfollowed := true, recurses := true, apart := false, narrowed := true }
def FnExactFormCoresUptoSaid : Prop := fnExactFormCoresUptoRow.holds Try.pinned (OpenSpec.upto fnExactFormCoresSpec)

/-- 'laws.FnCore', WHERE WHAT IT READS IS OF BULK AT MOST 1048576: true; the input reads as it did. -/
def fnCoreUptoRow : OpenClaim := { program := "ytciajpimpjpnfac", sum := "0f2e1fa98ad4ac2d219b287a5e131d744c584d7e34f55ed01209295d3cf69b5c", func := "loop.example/localglobal/laws.FnCore", spec := "fnCore", unfollowed := true, recurses := true, apart := false, narrowed := true }
def FnCoreUptoSaid : Prop := fnCoreUptoRow.holds Try.pinned (OpenSpec.upto fnCoreSpec)

/-- 'laws.FnExactCoreOf', WHERE WHAT IT READS IS OF BULK AT MOST 1048576: true; the input reads as it did. -/
def fnExactCoreOfUptoRow : OpenClaim := { program := "ytciajpimpjpnfac", sum := "0f2e1fa98ad4ac2d219b287a5e131d744c584d7e34f55ed01209295d3cf69b5c", func := "loop.example/localglobal/laws.FnExactCoreOf", spec := "fnExactCoreOf", unfollowed := true, recurses := true, apart := false, narrowed := true }
def FnExactCoreOfUptoSaid : Prop := fnExactCoreOfUptoRow.holds Try.pinned (OpenSpec.upto fnExactCoreOfSpec)

/-- 'laws.FnModulo', WHERE WHAT IT READS IS OF BULK AT MOST 1048576: true; the input reads as it did. -/
def fnModuloUptoRow : OpenClaim := { program := "ytciajpimpjpnfac", sum := "0f2e1fa98ad4ac2d219b287a5e131d744c584d7e34f55ed01209295d3cf69b5c", func := "loop.example/localglobal/laws.FnModulo", spec := "fnModulo", unfollowed := true, recurses := true, apart := false, narrowed := true }
def FnModuloUptoSaid : Prop := fnModuloUptoRow.holds Try.pinned (OpenSpec.upto fnModuloSpec)

end Rows
end Go.Proofs.Ytciajpimpjpnfac
