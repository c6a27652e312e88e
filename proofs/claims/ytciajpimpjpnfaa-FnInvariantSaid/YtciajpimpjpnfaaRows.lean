/-
  No cell of these rows narrows 'for every input' (looked for: loops, veiled, ifaces, maps, wideKeys, modest, calm, conditions, laid).
  DERIVED. THE GIVEN ROWS OF THIS SEAT. 12 by the template 'for every input the law returns true; each argument reads behind the call as it read before'; 0 by the template 'total and deterministic' (their statements: YtciajpimpjpnfaaTotals.lean).
  GIVEN WITH THE SEED: the statements are not yours to turn. If you find one false, say at which input.
  Laid BY PROGRAM, IN A SANDBOX (cutbox-rows.mjs): the forced cells as the released guide's own fill.sh prints them over the translation 056d36d9d3c98c55… (all of the seat's roots in one cut). By AI agents, Wed Nov 11 2026. No macro, syntax, notation, axiom, sorry.
-/
import Derived.Test.YtciajpimpjpnfaaChecked
import GoSem.Claim
import GoSem.ClaimJoined
import GoSem.ClaimMapViews
import Derived.JoinedTies
import Derived.KernelRfl
namespace Go.Proofs.Ytciajpimpjpnfaa
/- THE CELL 'sum', in the pinned program and in every row, IS THE sha256 OF THE DUMP (.gsa) THAT YtciajpimpjpnfaaProg.lean LOADS. Nothing in Lean hashes anything: it is a label: what it is worth is what the hold of that sum in a sandbox is worth. -/
noncomputable def Try.pinned : Pinned := { name := "ytciajpimpjpnfaa", sum := "056d36d9d3c98c55571286f3bf05787d946f6834922e9c8a871a13e11f2111ee", checked := Try.checked }
namespace Rows
def none {H : Type} : Left H := { results := [], args := [] }

/-- 'laws.FnLevel': WHATEVER THE INPUT: true; the input reads as it did. -/
def fnLevelSpec : ChangeSpec := { name := "fnLevel", fn := fun _ => fun
  | [d] => { results := [.lit (.bool true)], args := [d] }
  | _ => none }
def fnLevelRow : OpenClaim := { program := "ytciajpimpjpnfaa", sum := "056d36d9d3c98c55571286f3bf05787d946f6834922e9c8a871a13e11f2111ee", func := "loop.example/localglobal/laws.FnLevel", spec := "fnLevel", unfollowed := true, recurses := true, plainKeys := false, apart := false }
def FnLevelSaid : Prop := fnLevelRow.holds Try.pinned (OpenSpec.ofChange fnLevelSpec)

/-- ITS FALSE NEIGHBOUR: 'it returns false'. Refute it at one input. -/
def fnLevelWrong : ChangeSpec := { name := "fnLevel", fn := fun _ => fun
  | [d] => { results := [.lit (.bool false)], args := [d] }
  | _ => none }
def FnLevelWrongFalsely : Prop := fnLevelRow.holds Try.pinned (OpenSpec.ofChange fnLevelWrong)

/-- 'laws.FnFormValue': WHATEVER THE INPUT: true; the input reads as it did. -/
def fnFormValueSpec : ChangeSpec := { name := "fnFormValue", fn := fun _ => fun
  | [d] => { results := [.lit (.bool true)], args := [d] }
  | _ => none }
def fnFormValueRow : OpenClaim := { program := "ytciajpimpjpnfaa", sum := "056d36d9d3c98c55571286f3bf05787d946f6834922e9c8a871a13e11f2111ee", func := "loop.example/localglobal/laws.FnFormValue", spec := "fnFormValue", plainKeys := false, apart := false }
def FnFormValueSaid : Prop := fnFormValueRow.holds Try.pinned (OpenSpec.ofChange fnFormValueSpec)

/-- ITS FALSE NEIGHBOUR: 'it returns false'. Refute it at one input. -/
def fnFormValueWrong : ChangeSpec := { name := "fnFormValue", fn := fun _ => fun
  | [d] => { results := [.lit (.bool false)], args := [d] }
  | _ => none }
def FnFormValueWrongFalsely : Prop := fnFormValueRow.holds Try.pinned (OpenSpec.ofChange fnFormValueWrong)

/-- 'laws.FnDisc': WHATEVER THE INPUT: true; the input reads as it did. -/
def fnDiscSpec : ChangeSpec := { name := "fnDisc", fn := fun _ => fun
  | [d1, d2] => { results := [.lit (.bool true)], args := [d1, d2] }
  | _ => none }
def fnDiscRow : OpenClaim := { program := "ytciajpimpjpnfaa", sum := "056d36d9d3c98c55571286f3bf05787d946f6834922e9c8a871a13e11f2111ee", func := "loop.example/localglobal/laws.FnDisc", spec := "fnDisc", unfollowed := true, recurses := true, plainKeys := false, apart := false }
def FnDiscSaid : Prop := fnDiscRow.holds Try.pinned (OpenSpec.ofChange fnDiscSpec)

/-- ITS FALSE NEIGHBOUR: 'it returns false'. Refute it at one input. -/
def fnDiscWrong : ChangeSpec := { name := "fnDisc", fn := fun _ => fun
  | [d1, d2] => { results := [.lit (.bool false)], args := [d1, d2] }
  | _ => none }
def FnDiscWrongFalsely : Prop := fnDiscRow.holds Try.pinned (OpenSpec.ofChange fnDiscWrong)

/-- 'laws.FnSigns': WHATEVER THE INPUT: true; the input reads as it did. -/
def fnSignsSpec : ChangeSpec := { name := "fnSigns", fn := fun _ => fun
  | [d1, d2] => { results := [.lit (.bool true)], args := [d1, d2] }
  | _ => none }
def fnSignsRow : OpenClaim := { program := "ytciajpimpjpnfaa", sum := "056d36d9d3c98c55571286f3bf05787d946f6834922e9c8a871a13e11f2111ee", func := "loop.example/localglobal/laws.FnSigns", spec := "fnSigns", unfollowed := true, recurses := true, plainKeys := false, apart := false }
def FnSignsSaid : Prop := fnSignsRow.holds Try.pinned (OpenSpec.ofChange fnSignsSpec)

/-- ITS FALSE NEIGHBOUR: 'it returns false'. Refute it at one input. -/
def fnSignsWrong : ChangeSpec := { name := "fnSigns", fn := fun _ => fun
  | [d1, d2] => { results := [.lit (.bool false)], args := [d1, d2] }
  | _ => none }
def FnSignsWrongFalsely : Prop := fnSignsRow.holds Try.pinned (OpenSpec.ofChange fnSignsWrong)

/-- 'laws.FnInvariant': WHATEVER THE INPUT: true; the input reads as it did. -/
def fnInvariantSpec : ChangeSpec := { name := "fnInvariant", fn := fun _ => fun
  | [d1, d2] => { results := [.lit (.bool true)], args := [d1, d2] }
  | _ => none }
def fnInvariantRow : OpenClaim := { program := "ytciajpimpjpnfaa", sum := "056d36d9d3c98c55571286f3bf05787d946f6834922e9c8a871a13e11f2111ee", func := "loop.example/localglobal/laws.FnInvariant", spec := "fnInvariant", unfollowed := true, recurses := true, plainKeys := false, apart := false }
def FnInvariantSaid : Prop := fnInvariantRow.holds Try.pinned (OpenSpec.ofChange fnInvariantSpec)

/-- ITS FALSE NEIGHBOUR: 'it returns false'. Refute it at one input. -/
def fnInvariantWrong : ChangeSpec := { name := "fnInvariant", fn := fun _ => fun
  | [d1, d2] => { results := [.lit (.bool false)], args := [d1, d2] }
  | _ => none }
def FnInvariantWrongFalsely : Prop := fnInvariantRow.holds Try.pinned (OpenSpec.ofChange fnInvariantWrong)

/-- 'laws.FnInvariants': WHATEVER THE INPUT: true; the input reads as it did. -/
def fnInvariantsSpec : ChangeSpec := { name := "fnInvariants", fn := fun _ => fun
  | [d] => { results := [.lit (.bool true)], args := [d] }
  | _ => none }
def fnInvariantsRow : OpenClaim := { program := "ytciajpimpjpnfaa", sum := "056d36d9d3c98c55571286f3bf05787d946f6834922e9c8a871a13e11f2111ee", func := "loop.example/localglobal/laws.FnInvariants", spec := "fnInvariants", unfollowed := true, recurses := true, plainKeys := false, apart := false }
def FnInvariantsSaid : Prop := fnInvariantsRow.holds Try.pinned (OpenSpec.ofChange fnInvariantsSpec)

/-- ITS FALSE NEIGHBOUR: 'it returns false'. Refute it at one input. -/
def fnInvariantsWrong : ChangeSpec := { name := "fnInvariants", fn := fun _ => fun
  | [d] => { results := [.lit (.bool false)], args := [d] }
  | _ => none }
def FnInvariantsWrongFalsely : Prop := fnInvariantsRow.holds Try.pinned (OpenSpec.ofChange fnInvariantsWrong)

/-- 'laws.FnVanishes': WHATEVER THE INPUT: true; the input reads as it did. -/
def fnVanishesSpec : ChangeSpec := { name := "fnVanishes", fn := fun _ => fun
  | [d1, d2] => { results := [.lit (.bool true)], args := [d1, d2] }
  | _ => none }
def fnVanishesRow : OpenClaim := { program := "ytciajpimpjpnfaa", sum := "056d36d9d3c98c55571286f3bf05787d946f6834922e9c8a871a13e11f2111ee", func := "loop.example/localglobal/laws.FnVanishes", spec := "fnVanishes", unfollowed := true, recurses := true, plainKeys := false, apart := false }
def FnVanishesSaid : Prop := fnVanishesRow.holds Try.pinned (OpenSpec.ofChange fnVanishesSpec)

/-- ITS FALSE NEIGHBOUR: 'it returns false'. Refute it at one input. -/
def fnVanishesWrong : ChangeSpec := { name := "fnVanishes", fn := fun _ => fun
  | [d1, d2] => { results := [.lit (.bool false)], args := [d1, d2] }
  | _ => none }
def FnVanishesWrongFalsely : Prop := fnVanishesRow.holds Try.pinned (OpenSpec.ofChange fnVanishesWrong)

/-- 'laws.FnVanishOdd': WHATEVER THE INPUT: true; the input reads as it did. -/
def fnVanishOddSpec : ChangeSpec := { name := "fnVanishOdd", fn := fun _ => fun
  | [d] => { results := [.lit (.bool true)], args := [d] }
  | _ => none }
def fnVanishOddRow : OpenClaim := { program := "ytciajpimpjpnfaa", sum := "056d36d9d3c98c55571286f3bf05787d946f6834922e9c8a871a13e11f2111ee", func := "loop.example/localglobal/laws.FnVanishOdd", spec := "fnVanishOdd", unfollowed := true, recurses := true, plainKeys := false, apart := false }
def FnVanishOddSaid : Prop := fnVanishOddRow.holds Try.pinned (OpenSpec.ofChange fnVanishOddSpec)

/-- ITS FALSE NEIGHBOUR: 'it returns false'. Refute it at one input. -/
def fnVanishOddWrong : ChangeSpec := { name := "fnVanishOdd", fn := fun _ => fun
  | [d] => { results := [.lit (.bool false)], args := [d] }
  | _ => none }
def FnVanishOddWrongFalsely : Prop := fnVanishOddRow.holds Try.pinned (OpenSpec.ofChange fnVanishOddWrong)

/-- 'laws.FnBad': WHATEVER THE INPUT: true; the input reads as it did. -/
def fnBadSpec : ChangeSpec := { name := "fnBad", fn := fun _ => fun
  | [d] => { results := [.lit (.bool true)], args := [d] }
  | _ => none }
def fnBadRow : OpenClaim := { program := "ytciajpimpjpnfaa", sum := "056d36d9d3c98c55571286f3bf05787d946f6834922e9c8a871a13e11f2111ee", func := "loop.example/localglobal/laws.FnBad", spec := "fnBad", unfollowed := true, recurses := true, plainKeys := false, apart := false }
def FnBadSaid : Prop := fnBadRow.holds Try.pinned (OpenSpec.ofChange fnBadSpec)

/-- ITS FALSE NEIGHBOUR: 'it returns false'. Refute it at one input. -/
def fnBadWrong : ChangeSpec := { name := "fnBad", fn := fun _ => fun
  | [d] => { results := [.lit (.bool false)], args := [d] }
  | _ => none }
def FnBadWrongFalsely : Prop := fnBadRow.holds Try.pinned (OpenSpec.ofChange fnBadWrong)

/-- 'laws.FnFormSame': WHATEVER THE INPUT: true; the input reads as it did. -/
def fnFormSameSpec : ChangeSpec := { name := "fnFormSame", fn := fun _ => fun
  | [d1, d2] => { results := [.lit (.bool true)], args := [d1, d2] }
  | _ => none }
def fnFormSameRow : OpenClaim := { program := "ytciajpimpjpnfaa", sum := "056d36d9d3c98c55571286f3bf05787d946f6834922e9c8a871a13e11f2111ee", func := "loop.example/localglobal/laws.FnFormSame", spec := "fnFormSame", unfollowed := true, recurses := true, plainKeys := false, apart := false }
def FnFormSameSaid : Prop := fnFormSameRow.holds Try.pinned (OpenSpec.ofChange fnFormSameSpec)

/-- ITS FALSE NEIGHBOUR: 'it returns false'. Refute it at one input. -/
def fnFormSameWrong : ChangeSpec := { name := "fnFormSame", fn := fun _ => fun
  | [d1, d2] => { results := [.lit (.bool false)], args := [d1, d2] }
  | _ => none }
def FnFormSameWrongFalsely : Prop := fnFormSameRow.holds Try.pinned (OpenSpec.ofChange fnFormSameWrong)

/-- 'laws.FnCancel': WHATEVER THE INPUT: true; the input reads as it did. -/
def fnCancelSpec : ChangeSpec := { name := "fnCancel", fn := fun _ => fun
  | [d1, d2] => { results := [.lit (.bool true)], args := [d1, d2] }
  | _ => none }
def fnCancelRow : OpenClaim := { program := "ytciajpimpjpnfaa", sum := "056d36d9d3c98c55571286f3bf05787d946f6834922e9c8a871a13e11f2111ee", func := "loop.example/localglobal/laws.FnCancel", spec := "fnCancel", unfollowed := true, recurses := true, plainKeys := false, apart := false }
def FnCancelSaid : Prop := fnCancelRow.holds Try.pinned (OpenSpec.ofChange fnCancelSpec)

/-- ITS FALSE NEIGHBOUR: 'it returns false'. Refute it at one input. -/
def fnCancelWrong : ChangeSpec := { name := "fnCancel", fn := fun _ => fun
  | [d1, d2] => { results := [.lit (.bool false)], args := [d1, d2] }
  | _ => none }
def FnCancelWrongFalsely : Prop := fnCancelRow.holds Try.pinned (OpenSpec.ofChange fnCancelWrong)

/-- 'laws.FnReplace': WHATEVER THE INPUT: true; the input reads as it did. -/
def fnReplaceSpec : ChangeSpec := { name := "fnReplace", fn := fun _ => fun
  | [d] => { results := [.lit (.bool true)], args := [d] }
  | _ => none }
def fnReplaceRow : OpenClaim := { program := "ytciajpimpjpnfaa", sum := "056d36d9d3c98c55571286f3bf05787d946f6834922e9c8a871a13e11f2111ee", func := "loop.example/localglobal/laws.FnReplace", spec := "fnReplace", unfollowed := true, recurses := true, plainKeys := false, apart := false }
def FnReplaceSaid : Prop := fnReplaceRow.holds Try.pinned (OpenSpec.ofChange fnReplaceSpec)

/-- ITS FALSE NEIGHBOUR: 'it returns false'. Refute it at one input. -/
def fnReplaceWrong : ChangeSpec := { name := "fnReplace", fn := fun _ => fun
  | [d] => { results := [.lit (.bool false)], args := [d] }
  | _ => none }
def FnReplaceWrongFalsely : Prop := fnReplaceRow.holds Try.pinned (OpenSpec.ofChange fnReplaceWrong)

/- THE SECOND FORM. 'bulk': how many values and letters a reading holds, each counted each time it is reached (what is shared counts as often as it is met; a slice's spare places count too). A statement '..UptoSaid' is the law's where the arguments, and the package variables that the reading takes, are together of bulk at most 1048576: NARROWER than '..Said'. Prove '..Said' where nothing that the law and all that it calls make is longer than what came in: it says more and counts as full. Else prove '..UptoSaid'. A law counts once. -/
mutual
def uptoBulk {H : Type} : DataW H → Nat
  | .lit (.string bytes) => bytes.length + 1
  | .lit _ => 1
  | .nil => 1
  | .ptr d => uptoBulk d + 1
  | .slice elems spare => uptoBulkAll elems + uptoBulkAll spare + 1
  | .agg parts => uptoBulkAll parts + 1
  | .iface _ d => uptoBulk d + 1
  | .map entries => uptoBulkEntries entries + 1
  | .held _ => 1
def uptoBulkAll {H : Type} : List (DataW H) → Nat
  | [] => 0
  | d :: r => uptoBulk d + uptoBulkAll r
def uptoBulkEntries {H : Type} : List (Lit × DataW H) → Nat
  | [] => 0
  | x :: r => uptoBulkEntry x + uptoBulkEntries r
def uptoBulkEntry {H : Type} : Lit × DataW H → Nat
  | (.string bytes, d) => bytes.length + uptoBulk d + 1
  | (_, d) => uptoBulk d + 1
 end
def uptoSmall : (H : Type) → List (DataW H) → Bool := fun _ ds => decide (uptoBulkAll ds ≤ 1048576)
def OpenSpec.upto (s : _root_.Go.ChangeSpec) : _root_.Go.OpenSpec := { _root_.Go.OpenSpec.ofChange s with cond := some uptoSmall }

/-- 'laws.FnLevel', WHERE WHAT IT READS IS OF BULK AT MOST 1048576: true; the input reads as it did. -/
def fnLevelUptoRow : OpenClaim := { program := "ytciajpimpjpnfaa", sum := "056d36d9d3c98c55571286f3bf05787d946f6834922e9c8a871a13e11f2111ee", func := "loop.example/localglobal/laws.FnLevel", spec := "fnLevel", unfollowed := true, recurses := true, plainKeys := false, apart := false, narrowed := true }
def FnLevelUptoSaid : Prop := fnLevelUptoRow.holds Try.pinned (OpenSpec.upto fnLevelSpec)

/-- 'laws.FnFormValue', WHERE WHAT IT READS IS OF BULK AT MOST 1048576: true; the input reads as it did. -/
def fnFormValueUptoRow : OpenClaim := { program := "ytciajpimpjpnfaa", sum := "056d36d9d3c98c55571286f3bf05787d946f6834922e9c8a871a13e11f2111ee", func := "loop.example/localglobal/laws.FnFormValue", spec := "fnFormValue", plainKeys := false, apart := false, narrowed := true }
def FnFormValueUptoSaid : Prop := fnFormValueUptoRow.holds Try.pinned (OpenSpec.upto fnFormValueSpec)

/-- 'laws.FnDisc', WHERE WHAT IT READS IS OF BULK AT MOST 1048576: true; the input reads as it did. -/
def fnDiscUptoRow : OpenClaim := { program := "ytciajpimpjpnfaa", sum := "056d36d9d3c98c55571286f3bf05787d946f6834922e9c8a871a13e11f2111ee", func := "loop.example/localglobal/laws.FnDisc", spec := "fnDisc", unfollowed := true, recurses := true, plainKeys := false, apart := false, narrowed := true }
def FnDiscUptoSaid : Prop := fnDiscUptoRow.holds Try.pinned (OpenSpec.upto fnDiscSpec)

/-- 'laws.FnSigns', WHERE WHAT IT READS IS OF BULK AT MOST 1048576: true; the input reads as it did. -/
def fnSignsUptoRow : OpenClaim := { program := "ytciajpimpjpnfaa", sum := "056d36d9d3c98c55571286f3bf05787d946f6834922e9c8a871a13e11f2111ee", func := "loop.example/localglobal/laws.FnSigns", spec := "fnSigns", unfollowed := true, recurses := true, plainKeys := false, apart := false, narrowed := true }
def FnSignsUptoSaid : Prop := fnSignsUptoRow.holds Try.pinned (OpenSpec.upto fnSignsSpec)

/-- 'laws.FnInvariant', WHERE WHAT IT READS IS OF BULK AT MOST 1048576: true; the input reads as it did. -/
def fnInvariantUptoRow : OpenClaim := { program := "ytciajpimpjpnfaa", sum := "056d36d9d3c98c55571286f3bf05787d946f6834922e9c8a871a13e11f2111ee", func := "loop.example/localglobal/laws.FnInvariant", spec := "fnInvariant", unfollowed := true, recurses := true, plainKeys := false, apart := false, narrowed := true }
def FnInvariantUptoSaid : Prop := fnInvariantUptoRow.holds Try.pinned (OpenSpec.upto fnInvariantSpec)

/-- 'laws.FnInvariants', WHERE WHAT IT READS IS OF BULK AT MOST 1048576: true; the input reads as it did. -/
def fnInvariantsUptoRow : OpenClaim := { program := "ytciajpimpjpnfaa", sum := "056d36d9d3c98c55571286f3bf05787d946f6834922e9c8a871a13e11f2111ee", func := "loop.example/localglobal/laws.FnInvariants", spec := "fnInvariants", unfollowed := true, recurses := true, plainKeys := false, apart := false, narrowed := true }
def FnInvariantsUptoSaid : Prop := fnInvariantsUptoRow.holds Try.pinned (OpenSpec.upto fnInvariantsSpec)

/-- 'laws.FnVanishes', WHERE WHAT IT READS IS OF BULK AT MOST 1048576: true; the input reads as it did. -/
def fnVanishesUptoRow : OpenClaim := { program := "ytciajpimpjpnfaa", sum := "056d36d9d3c98c55571286f3bf05787d946f6834922e9c8a871a13e11f2111ee", func := "loop.example/localglobal/laws.FnVanishes", spec := "fnVanishes", unfollowed := true, recurses := true, plainKeys := false, apart := false, narrowed := true }
def FnVanishesUptoSaid : Prop := fnVanishesUptoRow.holds Try.pinned (OpenSpec.upto fnVanishesSpec)

/-- 'laws.FnVanishOdd', WHERE WHAT IT READS IS OF BULK AT MOST 1048576: true; the input reads as it did. -/
def fnVanishOddUptoRow : OpenClaim := { program := "ytciajpimpjpnfaa", sum := "056d36d9d3c98c55571286f3bf05787d946f6834922e9c8a871a13e11f2111ee", func := "loop.example/localglobal/laws.FnVanishOdd", spec := "fnVanishOdd", unfollowed := true, recurses := true, plainKeys := false, apart := false, narrowed := true }
def FnVanishOddUptoSaid : Prop := fnVanishOddUptoRow.holds Try.pinned (OpenSpec.upto fnVanishOddSpec)

/-- 'laws.FnBad', WHERE WHAT IT READS IS OF BULK AT MOST 1048576: true; the input reads as it did. -/
def fnBadUptoRow : OpenClaim := { program := "ytciajpimpjpnfaa", sum := "056d36d9d3c98c55571286f3bf05787d946f6834922e9c8a871a13e11f2111ee", func := "loop.example/localglobal/laws.FnBad", spec := "fnBad", unfollowed := true, recurses := true, plainKeys := false, apart := false, narrowed := true }
def FnBadUptoSaid : Prop := fnBadUptoRow.holds Try.pinned (OpenSpec.upto fnBadSpec)

/-- 'laws.FnFormSame', WHERE WHAT IT READS IS OF BULK AT MOST 1048576: true; the input reads as it did. -/
def fnFormSameUptoRow : OpenClaim := { program := "ytciajpimpjpnfaa", sum := "056d36d9d3c98c55571286f3bf05787d946f6834922e9c8a871a13e11f2111ee", func := "loop.example/localglobal/laws.FnFormSame", spec := "fnFormSame", unfollowed := true, recurses := true, plainKeys := false, apart := false, narrowed := true }
def FnFormSameUptoSaid : Prop := fnFormSameUptoRow.holds Try.pinned (OpenSpec.upto fnFormSameSpec)

/-- 'laws.FnCancel', WHERE WHAT IT READS IS OF BULK AT MOST 1048576: true; the input reads as it did. -/
def fnCancelUptoRow : OpenClaim := { program := "ytciajpimpjpnfaa", sum := "056d36d9d3c98c55571286f3bf05787d946f6834922e9c8a871a13e11f2111ee", func := "loop.example/localglobal/laws.FnCancel", spec := "fnCancel", unfollowed := true, recurses := true, plainKeys := false, apart := false, narrowed := true }
def FnCancelUptoSaid : Prop := fnCancelUptoRow.holds Try.pinned (OpenSpec.upto fnCancelSpec)

/-- 'laws.FnReplace', WHERE WHAT IT READS IS OF BULK AT MOST 1048576: true; the input reads as it did. -/
def fnReplaceUptoRow : OpenClaim := { program := "ytciajpimpjpnfaa", sum := "056d36d9d3c98c55571286f3bf05787d946f6834922e9c8a871a13e11f2111ee", func := "loop.example/localglobal/laws.FnReplace", spec := "fnReplace", unfollowed := true, recurses := true, plainKeys := false, apart := false, narrowed := true }
def FnReplaceUptoSaid : Prop := fnReplaceUptoRow.holds Try.pinned (OpenSpec.upto fnReplaceSpec)

end Rows
end Go.Proofs.Ytciajpimpjpnfaa
