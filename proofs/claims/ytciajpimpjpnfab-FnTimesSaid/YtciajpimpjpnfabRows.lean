/-
  No cell of these rows narrows 'for every input' (looked for: loops, veiled, ifaces, maps, wideKeys, modest, calm, conditions, laid).
  DERIVED. THE GIVEN ROWS OF THIS SEAT. 12 by the template 'for every input the law returns true; each argument reads behind the call as it read before'; 0 by the template 'total and deterministic' (their statements: YtciajpimpjpnfabTotals.lean).
  GIVEN WITH THE SEED: the statements are not yours to turn. If you find one false, say at which input.
  Laid BY PROGRAM, IN A SANDBOX (cutbox-rows.mjs): the forced cells as the released guide's own fill.sh prints them over the translation dea3f131b85252d7… (all of the seat's roots in one cut). By AI agents, Wed Nov 11 2026. No macro, syntax, notation, axiom, sorry.
-/
import Derived.Test.YtciajpimpjpnfabChecked
import GoSem.Claim
import GoSem.ClaimJoined
import GoSem.ClaimMapViews
import Derived.JoinedTies
import Derived.KernelRfl
namespace Go.Proofs.Ytciajpimpjpnfab
/- THE CELL 'sum', in the pinned program and in every row, IS THE sha256 OF THE DUMP (.gsa) THAT YtciajpimpjpnfabProg.lean LOADS. Nothing in Lean hashes anything: it is a label: what it is worth is what the hold of that sum in a sandbox is worth. -/
noncomputable def Try.pinned : Pinned := { name := "ytciajpimpjpnfab", sum := "dea3f131b85252d70ae5962e4b71befb0674fbb81f12d49072b9c2fb31d1f050", checked := Try.checked }
namespace Rows
def none {H : Type} : Left H := { results := [], args := [] }

/-- 'laws.FnFormJoin': WHATEVER THE INPUT: true; the input reads as it did. -/
def fnFormJoinSpec : ChangeSpec := { name := "fnFormJoin", fn := fun _ => fun
  | [d] => { results := [.lit (.bool true)], args := [d] }
  | _ => none }
def fnFormJoinRow : OpenClaim := { program := "ytciajpimpjpnfab", sum := "dea3f131b85252d70ae5962e4b71befb0674fbb81f12d49072b9c2fb31d1f050", func := "loop.example/localglobal/laws.FnFormJoin", spec := "fnFormJoin", unfollowed := true, recurses := true, apart := false }
def FnFormJoinSaid : Prop := fnFormJoinRow.holds Try.pinned (OpenSpec.ofChange fnFormJoinSpec)

/-- ITS FALSE NEIGHBOUR: 'it returns false'. Refute it at one input. -/
def fnFormJoinWrong : ChangeSpec := { name := "fnFormJoin", fn := fun _ => fun
  | [d] => { results := [.lit (.bool false)], args := [d] }
  | _ => none }
def FnFormJoinWrongFalsely : Prop := fnFormJoinRow.holds Try.pinned (OpenSpec.ofChange fnFormJoinWrong)

/-- 'laws.FnTimes': WHATEVER THE INPUT: true; the input reads as it did. -/
def fnTimesSpec : ChangeSpec := { name := "fnTimes", fn := fun _ => fun
  | [d] => { results := [.lit (.bool true)], args := [d] }
  | _ => none }
def fnTimesRow : OpenClaim := { program := "ytciajpimpjpnfab", sum := "dea3f131b85252d70ae5962e4b71befb0674fbb81f12d49072b9c2fb31d1f050", func := "loop.example/localglobal/laws.FnTimes", spec := "fnTimes", unfollowed := true, recurses := true, apart := false }
def FnTimesSaid : Prop := fnTimesRow.holds Try.pinned (OpenSpec.ofChange fnTimesSpec)

/-- ITS FALSE NEIGHBOUR: 'it returns false'. Refute it at one input. -/
def fnTimesWrong : ChangeSpec := { name := "fnTimes", fn := fun _ => fun
  | [d] => { results := [.lit (.bool false)], args := [d] }
  | _ => none }
def FnTimesWrongFalsely : Prop := fnTimesRow.holds Try.pinned (OpenSpec.ofChange fnTimesWrong)

/-- 'laws.FnCores': WHATEVER THE INPUT: true; the input reads as it did. -/
def fnCoresSpec : ChangeSpec := { name := "fnCores", fn := fun _ => fun
  | [d] => { results := [.lit (.bool true)], args := [d] }
  | _ => none }
def fnCoresRow : OpenClaim := { program := "ytciajpimpjpnfab", sum := "dea3f131b85252d70ae5962e4b71befb0674fbb81f12d49072b9c2fb31d1f050", func := "loop.example/localglobal/laws.FnCores", spec := "fnCores", unfollowed := true, recurses := true, apart := false }
def FnCoresSaid : Prop := fnCoresRow.holds Try.pinned (OpenSpec.ofChange fnCoresSpec)

/-- ITS FALSE NEIGHBOUR: 'it returns false'. Refute it at one input. -/
def fnCoresWrong : ChangeSpec := { name := "fnCores", fn := fun _ => fun
  | [d] => { results := [.lit (.bool false)], args := [d] }
  | _ => none }
def FnCoresWrongFalsely : Prop := fnCoresRow.holds Try.pinned (OpenSpec.ofChange fnCoresWrong)

/-- 'laws.FnExactFormValid': WHATEVER THE INPUT: true; the input reads as it did. -/
def fnExactFormValidSpec : ChangeSpec := { name := "fnExactFormValid", fn := fun _ => fun
  | [d] => { results := [.lit (.bool true)], args := [d] }
  | _ => none }
def fnExactFormValidRow : OpenClaim := { program := "ytciajpimpjpnfab", sum := "dea3f131b85252d70ae5962e4b71befb0674fbb81f12d49072b9c2fb31d1f050", func := "loop.example/localglobal/laws.FnExactFormValid", spec := "fnExactFormValid", apart := false }
def FnExactFormValidSaid : Prop := fnExactFormValidRow.holds Try.pinned (OpenSpec.ofChange fnExactFormValidSpec)

/-- ITS FALSE NEIGHBOUR: 'it returns false'. Refute it at one input. -/
def fnExactFormValidWrong : ChangeSpec := { name := "fnExactFormValid", fn := fun _ => fun
  | [d] => { results := [.lit (.bool false)], args := [d] }
  | _ => none }
def FnExactFormValidWrongFalsely : Prop := fnExactFormValidRow.holds Try.pinned (OpenSpec.ofChange fnExactFormValidWrong)

/-- 'laws.FnExactFormValue': WHATEVER THE INPUT: true; the input reads as it did. -/
def fnExactFormValueSpec : ChangeSpec := { name := "fnExactFormValue", fn := fun _ => fun
  | [d1, d2] => { results := [.lit (.bool true)], args := [d1, d2] }
  | _ => none }
def fnExactFormValueRow : OpenClaim := { program := "ytciajpimpjpnfab", sum := "dea3f131b85252d70ae5962e4b71befb0674fbb81f12d49072b9c2fb31d1f050", func := "loop.example/localglobal/laws.FnExactFormValue", spec := "fnExactFormValue", apart := false }
def FnExactFormValueSaid : Prop := fnExactFormValueRow.holds Try.pinned (OpenSpec.ofChange fnExactFormValueSpec)

/-- ITS FALSE NEIGHBOUR: 'it returns false'. Refute it at one input. -/
def fnExactFormValueWrong : ChangeSpec := { name := "fnExactFormValue", fn := fun _ => fun
  | [d1, d2] => { results := [.lit (.bool false)], args := [d1, d2] }
  | _ => none }
def FnExactFormValueWrongFalsely : Prop := fnExactFormValueRow.holds Try.pinned (OpenSpec.ofChange fnExactFormValueWrong)

/-- 'laws.FnExactFormDisc': WHATEVER THE INPUT: true; the input reads as it did. -/
def fnExactFormDiscSpec : ChangeSpec := { name := "fnExactFormDisc", fn := fun _ => fun
  | [d] => { results := [.lit (.bool true)], args := [d] }
  | _ => none }
def fnExactFormDiscRow : OpenClaim := { program := "ytciajpimpjpnfab", sum := "dea3f131b85252d70ae5962e4b71befb0674fbb81f12d49072b9c2fb31d1f050", func := "loop.example/localglobal/laws.FnExactFormDisc", spec := "fnExactFormDisc", unfollowed := true, recurses := true, apart := false }
def FnExactFormDiscSaid : Prop := fnExactFormDiscRow.holds Try.pinned (OpenSpec.ofChange fnExactFormDiscSpec)

/-- ITS FALSE NEIGHBOUR: 'it returns false'. Refute it at one input. -/
def fnExactFormDiscWrong : ChangeSpec := { name := "fnExactFormDisc", fn := fun _ => fun
  | [d] => { results := [.lit (.bool false)], args := [d] }
  | _ => none }
def FnExactFormDiscWrongFalsely : Prop := fnExactFormDiscRow.holds Try.pinned (OpenSpec.ofChange fnExactFormDiscWrong)

/-- 'laws.FnExactFormSigns': WHATEVER THE INPUT: true; the input reads as it did. -/
def fnExactFormSignsSpec : ChangeSpec := { name := "fnExactFormSigns", fn := fun _ => fun
  | [d] => { results := [.lit (.bool true)], args := [d] }
  | _ => none }
def fnExactFormSignsRow : OpenClaim := { program := "ytciajpimpjpnfab", sum := "dea3f131b85252d70ae5962e4b71befb0674fbb81f12d49072b9c2fb31d1f050", func := "loop.example/localglobal/laws.FnExactFormSigns", spec := "fnExactFormSigns", unfollowed := true, recurses := true, apart := false }
def FnExactFormSignsSaid : Prop := fnExactFormSignsRow.holds Try.pinned (OpenSpec.ofChange fnExactFormSignsSpec)

/-- ITS FALSE NEIGHBOUR: 'it returns false'. Refute it at one input. -/
def fnExactFormSignsWrong : ChangeSpec := { name := "fnExactFormSigns", fn := fun _ => fun
  | [d] => { results := [.lit (.bool false)], args := [d] }
  | _ => none }
def FnExactFormSignsWrongFalsely : Prop := fnExactFormSignsRow.holds Try.pinned (OpenSpec.ofChange fnExactFormSignsWrong)

/-- 'laws.FnExactFormInvariant': WHATEVER THE INPUT: true; the input reads as it did. -/
def fnExactFormInvariantSpec : ChangeSpec := { name := "fnExactFormInvariant", fn := fun _ => fun
  | [d1, d2] => { results := [.lit (.bool true)], args := [d1, d2] }
  | _ => none }
def fnExactFormInvariantRow : OpenClaim := { program := "ytciajpimpjpnfab", sum := "dea3f131b85252d70ae5962e4b71befb0674fbb81f12d49072b9c2fb31d1f050", func := "loop.example/localglobal/laws.FnExactFormInvariant", spec := "fnExactFormInvariant", unfollowed := true, recurses := true, apart := false }
def FnExactFormInvariantSaid : Prop := fnExactFormInvariantRow.holds Try.pinned (OpenSpec.ofChange fnExactFormInvariantSpec)

/-- ITS FALSE NEIGHBOUR: 'it returns false'. Refute it at one input. -/
def fnExactFormInvariantWrong : ChangeSpec := { name := "fnExactFormInvariant", fn := fun _ => fun
  | [d1, d2] => { results := [.lit (.bool false)], args := [d1, d2] }
  | _ => none }
def FnExactFormInvariantWrongFalsely : Prop := fnExactFormInvariantRow.holds Try.pinned (OpenSpec.ofChange fnExactFormInvariantWrong)

/-- 'laws.FnExactFormPlaces': WHATEVER THE INPUT: true; the input reads as it did. -/
def fnExactFormPlacesSpec : ChangeSpec := { name := "fnExactFormPlaces", fn := fun _ => fun
  | [d] => { results := [.lit (.bool true)], args := [d] }
  | _ => none }
def fnExactFormPlacesRow : OpenClaim := { program := "ytciajpimpjpnfab", sum := "dea3f131b85252d70ae5962e4b71befb0674fbb81f12d49072b9c2fb31d1f050", func := "loop.example/localglobal/laws.FnExactFormPlaces", spec := "fnExactFormPlaces", unfollowed := true, recurses := true, apart := false }
def FnExactFormPlacesSaid : Prop := fnExactFormPlacesRow.holds Try.pinned (OpenSpec.ofChange fnExactFormPlacesSpec)

/-- ITS FALSE NEIGHBOUR: 'it returns false'. Refute it at one input. -/
def fnExactFormPlacesWrong : ChangeSpec := { name := "fnExactFormPlaces", fn := fun _ => fun
  | [d] => { results := [.lit (.bool false)], args := [d] }
  | _ => none }
def FnExactFormPlacesWrongFalsely : Prop := fnExactFormPlacesRow.holds Try.pinned (OpenSpec.ofChange fnExactFormPlacesWrong)

/-- 'laws.FnExactFormVanishes': WHATEVER THE INPUT: true; the input reads as it did. -/
def fnExactFormVanishesSpec : ChangeSpec := { name := "fnExactFormVanishes", fn := fun _ => fun
  | [d1, d2] => { results := [.lit (.bool true)], args := [d1, d2] }
  | _ => none }
def fnExactFormVanishesRow : OpenClaim := { program := "ytciajpimpjpnfab", sum := "dea3f131b85252d70ae5962e4b71befb0674fbb81f12d49072b9c2fb31d1f050", func := "loop.example/localglobal/laws.FnExactFormVanishes", spec := "fnExactFormVanishes", unfollowed := true, recurses := true, apart := false }
def FnExactFormVanishesSaid : Prop := fnExactFormVanishesRow.holds Try.pinned (OpenSpec.ofChange fnExactFormVanishesSpec)

/-- ITS FALSE NEIGHBOUR: 'it returns false'. Refute it at one input. -/
def fnExactFormVanishesWrong : ChangeSpec := { name := "fnExactFormVanishes", fn := fun _ => fun
  | [d1, d2] => { results := [.lit (.bool false)], args := [d1, d2] }
  | _ => none }
def FnExactFormVanishesWrongFalsely : Prop := fnExactFormVanishesRow.holds Try.pinned (OpenSpec.ofChange fnExactFormVanishesWrong)

/-- 'laws.FnExactFormBad': WHATEVER THE INPUT: true; the input reads as it did. -/
def fnExactFormBadSpec : ChangeSpec := { name := "fnExactFormBad", fn := fun _ => fun
  | [d] => { results := [.lit (.bool true)], args := [d] }
  | _ => none }
def fnExactFormBadRow : OpenClaim := { program := "ytciajpimpjpnfab", sum := "dea3f131b85252d70ae5962e4b71befb0674fbb81f12d49072b9c2fb31d1f050", func := "loop.example/localglobal/laws.FnExactFormBad", spec := "fnExactFormBad", unfollowed := true, recurses := true, apart := false }
def FnExactFormBadSaid : Prop := fnExactFormBadRow.holds Try.pinned (OpenSpec.ofChange fnExactFormBadSpec)

/-- ITS FALSE NEIGHBOUR: 'it returns false'. Refute it at one input. -/
def fnExactFormBadWrong : ChangeSpec := { name := "fnExactFormBad", fn := fun _ => fun
  | [d] => { results := [.lit (.bool false)], args := [d] }
  | _ => none }
def FnExactFormBadWrongFalsely : Prop := fnExactFormBadRow.holds Try.pinned (OpenSpec.ofChange fnExactFormBadWrong)

/-- 'laws.FnExactFormAlike': WHATEVER THE INPUT: true; the input reads as it did. -/
def fnExactFormAlikeSpec : ChangeSpec := { name := "fnExactFormAlike", fn := fun _ => fun
  | [d1, d2, d3] => { results := [.lit (.bool true)], args := [d1, d2, d3] }
  | _ => none }
def fnExactFormAlikeRow : OpenClaim := { program := "ytciajpimpjpnfab", sum := "dea3f131b85252d70ae5962e4b71befb0674fbb81f12d49072b9c2fb31d1f050", func := "loop.example/localglobal/laws.FnExactFormAlike", spec := "fnExactFormAlike", unfollowed := true, recurses := true, apart := false }
def FnExactFormAlikeSaid : Prop := fnExactFormAlikeRow.holds Try.pinned (OpenSpec.ofChange fnExactFormAlikeSpec)

/-- ITS FALSE NEIGHBOUR: 'it returns false'. Refute it at one input. -/
def fnExactFormAlikeWrong : ChangeSpec := { name := "fnExactFormAlike", fn := fun _ => fun
  | [d1, d2, d3] => { results := [.lit (.bool false)], args := [d1, d2, d3] }
  | _ => none }
def FnExactFormAlikeWrongFalsely : Prop := fnExactFormAlikeRow.holds Try.pinned (OpenSpec.ofChange fnExactFormAlikeWrong)

/- THE SECOND FORM. 'bulk': how many values and letters a reading holds, each counted each time it is reached (what is shared counts as often as it is met; a slice's spare places count too). A statement '..UptoSaid' is the law's where the arguments, and the package variables that the reading takes, are together of bulk at most 1048576: NARROWER than '..Said'. Prove '..Said' where nothing that the law and all that it calls make is longer than what came in: it says more and counts as full. Else prove '..UptoSaid'. A law counts once. -/
mutual
def uptoBulk {H : Type} : DataW H → Nat
  | .lit (.string bytes) => bytes.length + 1
  | .lit _ => 1
  | .nil => 1
  | .ptr d => uptoBulk d + 1
  | .slice elems spare => uptoBulkAll elems + uptoBulkAll spare + 1
  | .agg parts => uptoBulkAll parts + 1
  | .iface _ d => uptoBulk d + 1
  | .map entries => uptoBulkEntries entries + 1
  | .held _ => 1
def uptoBulkAll {H : Type} : List (DataW H) → Nat
  | [] => 0
  | d :: r => uptoBulk d + uptoBulkAll r
def uptoBulkEntries {H : Type} : List (Lit × DataW H) → Nat
  | [] => 0
  | x :: r => uptoBulkEntry x + uptoBulkEntries r
def uptoBulkEntry {H : Type} : Lit × DataW H → Nat
  | (.string bytes, d) => bytes.length + uptoBulk d + 1
  | (_, d) => uptoBulk d + 1
 end
def uptoSmall : (H : Type) → List (DataW H) → Bool := fun _ ds => decide (uptoBulkAll ds ≤ 1048576)
def OpenSpec.upto (s : _root_.Go.ChangeSpec) : _root_.Go.OpenSpec := { _root_.Go.OpenSpec.ofChange s with cond := some uptoSmall }

/-- 'laws.FnFormJoin', WHERE WHAT IT READS IS OF BULK AT MOST 1048576: true; the input reads as it did. -/
def fnFormJoinUptoRow : OpenClaim := { program := "ytciajpimpjpnfab", sum := "dea3f131b85252d70ae5962e4b71befb0674fbb81f12d49072b9c2fb31d1f050", func := "loop.example/localglobal/laws.FnFormJoin", spec := "fnFormJoin", unfollowed := true, recurses := true, apart := false, narrowed := true }
def FnFormJoinUptoSaid : Prop := fnFormJoinUptoRow.holds Try.pinned (OpenSpec.upto fnFormJoinSpec)

/-- 'laws.FnTimes', WHERE WHAT IT READS IS OF BULK AT MOST 1048576: true; the input reads as it did. -/
def fnTimesUptoRow : OpenClaim := { program := "ytciajpimpjpnfab", sum := "dea3f131b85252d70ae5962e4b71befb0674fbb81f12d49072b9c2fb31d1f050", func := "loop.example/localglobal/laws.FnTimes", spec := "fnTimes", unfollowed := true, recurses := true, apart := false, narrowed := true }
def FnTimesUptoSaid : Prop := fnTimesUptoRow.holds Try.pinned (OpenSpec.upto fnTimesSpec)

/-- 'laws.FnCores', WHERE WHAT IT READS IS OF BULK AT MOST 1048576: true; the input reads as it did. -/
def fnCoresUptoRow : OpenClaim := { program := "ytciajpimpjpnfab", sum := "dea3f131b85252d70ae5962e4b71befb0674fbb81f12d49072b9c2fb31d1f050", func := "loop.example/localglobal/laws.FnCores", spec := "fnCores", unfollowed := true, recurses := true, apart := false, narrowed := true }
def FnCoresUptoSaid : Prop := fnCoresUptoRow.holds Try.pinned (OpenSpec.upto fnCoresSpec)

/-- 'laws.FnExactFormValid', WHERE WHAT IT READS IS OF BULK AT MOST 1048576: true; the input reads as it did. -/
def fnExactFormValidUptoRow : OpenClaim := { program := "ytciajpimpjpnfab", sum := "dea3f131b85252d70ae5962e4b71befb0674fbb81f12d49072b9c2fb31d1f050", func := "loop.example/localglobal/laws.FnExactFormValid", spec := "fnExactFormValid", apart := false, narrowed := true }
def FnExactFormValidUptoSaid : Prop := fnExactFormValidUptoRow.holds Try.pinned (OpenSpec.upto fnExactFormValidSpec)

/-- 'laws.FnExactFormValue', WHERE WHAT IT READS IS OF BULK AT MOST 1048576: true; the input reads as it did. -/
def fnExactFormValueUptoRow : OpenClaim := { program := "ytciajpimpjpnfab", sum := "dea3f131b85252d70ae5962e4b71befb0674fbb81f12d49072b9c2fb31d1f050", func := "loop.example/localglobal/laws.FnExactFormValue", spec := "fnExactFormValue", apart := false, narrowed := true }
def FnExactFormValueUptoSaid : Prop := fnExactFormValueUptoRow.holds Try.pinned (OpenSpec.upto fnExactFormValueSpec)

/-- 'laws.FnExactFormDisc', WHERE WHAT IT READS IS OF BULK AT MOST 1048576: true; the input reads as it did. -/
def fnExactFormDiscUptoRow : OpenClaim := { program := "ytciajpimpjpnfab", sum := "dea3f131b85252d70ae5962e4b71befb0674fbb81f12d49072b9c2fb31d1f050", func := "loop.example/localglobal/laws.FnExactFormDisc", spec := "fnExactFormDisc", unfollowed := true, recurses := true, apart := false, narrowed := true }
def FnExactFormDiscUptoSaid : Prop := fnExactFormDiscUptoRow.holds Try.pinned (OpenSpec.upto fnExactFormDiscSpec)

/-- 'laws.FnExactFormSigns', WHERE WHAT IT READS IS OF BULK AT MOST 1048576: true; the input reads as it did. -/
def fnExactFormSignsUptoRow : OpenClaim := { program := "ytciajpimpjpnfab", sum := "dea3f131b85252d70ae5962e4b71befb0674fbb81f12d49072b9c2fb31d1f050", func := "loop.example/localglobal/laws.FnExactFormSigns", spec := "fnExactFormSigns", unfollowed := true, recurses := true, apart := false, narrowed := true }
def FnExactFormSignsUptoSaid : Prop := fnExactFormSignsUptoRow.holds Try.pinned (OpenSpec.upto fnExactFormSignsSpec)

/-- 'laws.FnExactFormInvariant', WHERE WHAT IT READS IS OF BULK AT MOST 1048576: true; the input reads as it did. -/
def fnExactFormInvariantUptoRow : OpenClaim := { program := "ytciajpimpjpnfab", sum := "dea3f131b85252d70ae5962e4b71befb0674fbb81f12d49072b9c2fb31d1f050", func := "loop.example/localglobal/laws.FnExactFormInvariant", spec := "fnExactFormInvariant", unfollowed := true, recurses := true, apart := false, narrowed := true }
def FnExactFormInvariantUptoSaid : Prop := fnExactFormInvariantUptoRow.holds Try.pinned (OpenSpec.upto fnExactFormInvariantSpec)

/-- 'laws.FnExactFormPlaces', WHERE WHAT IT READS IS OF BULK AT MOST 1048576: true; the input reads as it did. -/
def fnExactFormPlacesUptoRow : OpenClaim := { program := "ytciajpimpjpnfab", sum := "dea3f131b85252d70ae5962e4b71befb0674fbb81f12d49072b9c2fb31d1f050", func := "loop.example/localglobal/laws.FnExactFormPlaces", spec := "fnExactFormPlaces", unfollowed := true, recurses := true, apart := false, narrowed := true }
def FnExactFormPlacesUptoSaid : Prop := fnExactFormPlacesUptoRow.holds Try.pinned (OpenSpec.upto fnExactFormPlacesSpec)

/-- 'laws.FnExactFormVanishes', WHERE WHAT IT READS IS OF BULK AT MOST 1048576: true; the input reads as it did. -/
def fnExactFormVanishesUptoRow : OpenClaim := { program := "ytciajpimpjpnfab", sum := "dea3f131b85252d70ae5962e4b71befb0674fbb81f12d49072b9c2fb31d1f050", func := "loop.example/localglobal/laws.FnExactFormVanishes", spec := "fnExactFormVanishes", unfollowed := true, recurses := true, apart := false, narrowed := true }
def FnExactFormVanishesUptoSaid : Prop := fnExactFormVanishesUptoRow.holds Try.pinned (OpenSpec.upto fnExactFormVanishesSpec)

/-- 'laws.FnExactFormBad', WHERE WHAT IT READS IS OF BULK AT MOST 1048576: true; the input reads as it did. -/
def fnExactFormBadUptoRow : OpenClaim := { program := "ytciajpimpjpnfab", sum := "dea3f131b85252d70ae5962e4b71befb0674fbb81f12d49072b9c2fb31d1f050", func := "loop.example/localglobal/laws.FnExactFormBad", spec := "fnExactFormBad", unfollowed := true, recurses := true, apart := false, narrowed := true }
def FnExactFormBadUptoSaid : Prop := fnExactFormBadUptoRow.holds Try.pinned (OpenSpec.upto fnExactFormBadSpec)

/-- 'laws.FnExactFormAlike', WHERE WHAT IT READS IS OF BULK AT MOST 1048576: true; the input reads as it did. -/
def fnExactFormAlikeUptoRow : OpenClaim := { program := "ytciajpimpjpnfab", sum := "dea3f131b85252d70ae5962e4b71befb0674fbb81f12d49072b9c2fb31d1f050", func := "loop.example/localglobal/laws.FnExactFormAlike", spec := "fnExactFormAlike", unfollowed := true, recurses := true, apart := false, narrowed := true }
def FnExactFormAlikeUptoSaid : Prop := fnExactFormAlikeUptoRow.holds Try.pinned (OpenSpec.upto fnExactFormAlikeSpec)

end Rows
end Go.Proofs.Ytciajpimpjpnfab
