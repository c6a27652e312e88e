/-
  No cell of these rows narrows 'for every input' (looked for: loops, veiled, ifaces, maps, wideKeys, modest, calm, conditions, laid).
  DERIVED. THE GIVEN ROWS OF THIS SEAT. 7 by the template 'for every input the law returns true; each argument reads behind the call as it read before'; 0 by the template 'total and deterministic' (their statements: YtamdjgcnjgiflabTotals.lean).
  GIVEN WITH THE SEED: the statements are not yours to turn. If you find one false, say at which input.
  Laid BY PROGRAM, IN A SANDBOX (cutbox-rows.mjs): the forced cells as the released guide's own fill.sh prints them over the translation 8639d834ce75631a… (all of the seat's roots in one cut). By AI agents, Wed Nov 11 2026. No macro, syntax, notation, axiom, sorry.
-/
import Derived.Test.YtamdjgcnjgiflabChecked
import GoSem.Claim
import GoSem.ClaimJoined
import GoSem.ClaimMapViews
import Derived.JoinedTies
import Derived.KernelRfl
namespace Go.Proofs.Ytamdjgcnjgiflab
/- THE CELL 'sum', in the pinned program and in every row, IS THE sha256 OF THE DUMP (.gsa) THAT YtamdjgcnjgiflabProg.lean LOADS. Nothing in Lean hashes anything: it is a label: what it is worth is what the hold of that sum in a sandbox is worth. -/
noncomputable def Try.pinned : Pinned := { name := "ytamdjgcnjgiflab", sum := "8639d834ce75631a6a9df1dbb1a581249d3218cae8935be2d8ac61aba7570ee7", checked := Try.checked }
namespace Rows
def none {H : Type} : Left H := { results := [], args := [] }

/-- 'laws.FnExactLocalName': WHATEVER THE INPUT: true; the input reads as it did. -/
def fnExactLocalNameSpec : ChangeSpec := { name := "fnExactLocalName", fn := fun _ => fun
  | [d1, d2] => { results := [.lit (.bool true)], args := [d1, d2] }
  | _ => none }
def fnExactLocalNameRow : OpenClaim := { program := "ytamdjgcnjgiflab", sum := "8639d834ce75631a6a9df1dbb1a581249d3218cae8935be2d8ac61aba7570ee7", func := "loop.example/localglobal/laws.FnExactLocalName", spec := "fnExactLocalName", unfollowed := true, recurses := true, plainKeys := false, apart := false }
def FnExactLocalNameSaid : Prop := fnExactLocalNameRow.holds Try.pinned (OpenSpec.ofChange fnExactLocalNameSpec)

/-- ITS FALSE NEIGHBOUR: 'it returns false'. Refute it at one input. -/
def fnExactLocalNameWrong : ChangeSpec := { name := "fnExactLocalName", fn := fun _ => fun
  | [d1, d2] => { results := [.lit (.bool false)], args := [d1, d2] }
  | _ => none }
def FnExactLocalNameWrongFalsely : Prop := fnExactLocalNameRow.holds Try.pinned (OpenSpec.ofChange fnExactLocalNameWrong)

/-- 'laws.FnExactLocalSame': WHATEVER THE INPUT: true; the input reads as it did. -/
def fnExactLocalSameSpec : ChangeSpec := { name := "fnExactLocalSame", fn := fun _ => fun
  | [d1, d2, d3] => { results := [.lit (.bool true)], args := [d1, d2, d3] }
  | _ => none }
def fnExactLocalSameRow : OpenClaim := { program := "ytamdjgcnjgiflab", sum := "8639d834ce75631a6a9df1dbb1a581249d3218cae8935be2d8ac61aba7570ee7", func := "loop.example/localglobal/laws.FnExactLocalSame", spec := "fnExactLocalSame", unfollowed := true, recurses := true, plainKeys := false, apart := false }
def FnExactLocalSameSaid : Prop := fnExactLocalSameRow.holds Try.pinned (OpenSpec.ofChange fnExactLocalSameSpec)

/-- ITS FALSE NEIGHBOUR: 'it returns false'. Refute it at one input. -/
def fnExactLocalSameWrong : ChangeSpec := { name := "fnExactLocalSame", fn := fun _ => fun
  | [d1, d2, d3] => { results := [.lit (.bool false)], args := [d1, d2, d3] }
  | _ => none }
def FnExactLocalSameWrongFalsely : Prop := fnExactLocalSameRow.holds Try.pinned (OpenSpec.ofChange fnExactLocalSameWrong)

/-- 'laws.FnExactLocalMul': WHATEVER THE INPUT: true; the input reads as it did. -/
def fnExactLocalMulSpec : ChangeSpec := { name := "fnExactLocalMul", fn := fun _ => fun
  | [d1, d2, d3] => { results := [.lit (.bool true)], args := [d1, d2, d3] }
  | _ => none }
def fnExactLocalMulRow : OpenClaim := { program := "ytamdjgcnjgiflab", sum := "8639d834ce75631a6a9df1dbb1a581249d3218cae8935be2d8ac61aba7570ee7", func := "loop.example/localglobal/laws.FnExactLocalMul", spec := "fnExactLocalMul", unfollowed := true, recurses := true, plainKeys := false, apart := false }
def FnExactLocalMulSaid : Prop := fnExactLocalMulRow.holds Try.pinned (OpenSpec.ofChange fnExactLocalMulSpec)

/-- ITS FALSE NEIGHBOUR: 'it returns false'. Refute it at one input. -/
def fnExactLocalMulWrong : ChangeSpec := { name := "fnExactLocalMul", fn := fun _ => fun
  | [d1, d2, d3] => { results := [.lit (.bool false)], args := [d1, d2, d3] }
  | _ => none }
def FnExactLocalMulWrongFalsely : Prop := fnExactLocalMulRow.holds Try.pinned (OpenSpec.ofChange fnExactLocalMulWrong)

/-- 'laws.FnExactLocalPlaces': WHATEVER THE INPUT: true; the input reads as it did. -/
def fnExactLocalPlacesSpec : ChangeSpec := { name := "fnExactLocalPlaces", fn := fun _ => fun
  | [d] => { results := [.lit (.bool true)], args := [d] }
  | _ => none }
def fnExactLocalPlacesRow : OpenClaim := { program := "ytamdjgcnjgiflab", sum := "8639d834ce75631a6a9df1dbb1a581249d3218cae8935be2d8ac61aba7570ee7", func := "loop.example/localglobal/laws.FnExactLocalPlaces", spec := "fnExactLocalPlaces", unfollowed := true, recurses := true, plainKeys := false, apart := false }
def FnExactLocalPlacesSaid : Prop := fnExactLocalPlacesRow.holds Try.pinned (OpenSpec.ofChange fnExactLocalPlacesSpec)

/-- ITS FALSE NEIGHBOUR: 'it returns false'. Refute it at one input. -/
def fnExactLocalPlacesWrong : ChangeSpec := { name := "fnExactLocalPlaces", fn := fun _ => fun
  | [d] => { results := [.lit (.bool false)], args := [d] }
  | _ => none }
def FnExactLocalPlacesWrongFalsely : Prop := fnExactLocalPlacesRow.holds Try.pinned (OpenSpec.ofChange fnExactLocalPlacesWrong)

/-- 'laws.FnExactLocalRoot': WHATEVER THE INPUT: true; the input reads as it did. -/
def fnExactLocalRootSpec : ChangeSpec := { name := "fnExactLocalRoot", fn := fun _ => fun
  | [d1, d2, d3] => { results := [.lit (.bool true)], args := [d1, d2, d3] }
  | _ => none }
def fnExactLocalRootRow : OpenClaim := { program := "ytamdjgcnjgiflab", sum := "8639d834ce75631a6a9df1dbb1a581249d3218cae8935be2d8ac61aba7570ee7", func := "loop.example/localglobal/laws.FnExactLocalRoot", spec := "fnExactLocalRoot", unfollowed := true, recurses := true, plainKeys := false, apart := false }
def FnExactLocalRootSaid : Prop := fnExactLocalRootRow.holds Try.pinned (OpenSpec.ofChange fnExactLocalRootSpec)

/-- ITS FALSE NEIGHBOUR: 'it returns false'. Refute it at one input. -/
def fnExactLocalRootWrong : ChangeSpec := { name := "fnExactLocalRoot", fn := fun _ => fun
  | [d1, d2, d3] => { results := [.lit (.bool false)], args := [d1, d2, d3] }
  | _ => none }
def FnExactLocalRootWrongFalsely : Prop := fnExactLocalRootRow.holds Try.pinned (OpenSpec.ofChange fnExactLocalRootWrong)

/-- 'laws.FnExactLocalLevel': WHATEVER THE INPUT: true; the input reads as it did. -/
def fnExactLocalLevelSpec : ChangeSpec := { name := "fnExactLocalLevel", fn := fun _ => fun
  | [d] => { results := [.lit (.bool true)], args := [d] }
  | _ => none }
def fnExactLocalLevelRow : OpenClaim := { program := "ytamdjgcnjgiflab", sum := "8639d834ce75631a6a9df1dbb1a581249d3218cae8935be2d8ac61aba7570ee7", func := "loop.example/localglobal/laws.FnExactLocalLevel", spec := "fnExactLocalLevel", unfollowed := true, recurses := true, plainKeys := false, apart := false }
def FnExactLocalLevelSaid : Prop := fnExactLocalLevelRow.holds Try.pinned (OpenSpec.ofChange fnExactLocalLevelSpec)

/-- ITS FALSE NEIGHBOUR: 'it returns false'. Refute it at one input. -/
def fnExactLocalLevelWrong : ChangeSpec := { name := "fnExactLocalLevel", fn := fun _ => fun
  | [d] => { results := [.lit (.bool false)], args := [d] }
  | _ => none }
def FnExactLocalLevelWrongFalsely : Prop := fnExactLocalLevelRow.holds Try.pinned (OpenSpec.ofChange fnExactLocalLevelWrong)

/-- 'laws.FnExactLocalUnit': WHATEVER THE INPUT: true; the input reads as it did. -/
def fnExactLocalUnitSpec : ChangeSpec := { name := "fnExactLocalUnit", fn := fun _ => fun
  | [d1, d2] => { results := [.lit (.bool true)], args := [d1, d2] }
  | _ => none }
def fnExactLocalUnitRow : OpenClaim := { program := "ytamdjgcnjgiflab", sum := "8639d834ce75631a6a9df1dbb1a581249d3218cae8935be2d8ac61aba7570ee7", func := "loop.example/localglobal/laws.FnExactLocalUnit", spec := "fnExactLocalUnit", unfollowed := true, recurses := true, plainKeys := false, apart := false }
def FnExactLocalUnitSaid : Prop := fnExactLocalUnitRow.holds Try.pinned (OpenSpec.ofChange fnExactLocalUnitSpec)

/-- ITS FALSE NEIGHBOUR: 'it returns false'. Refute it at one input. -/
def fnExactLocalUnitWrong : ChangeSpec := { name := "fnExactLocalUnit", fn := fun _ => fun
  | [d1, d2] => { results := [.lit (.bool false)], args := [d1, d2] }
  | _ => none }
def FnExactLocalUnitWrongFalsely : Prop := fnExactLocalUnitRow.holds Try.pinned (OpenSpec.ofChange fnExactLocalUnitWrong)

/- THE SECOND FORM. 'bulk': how many values and letters a reading holds, each counted each time it is reached (what is shared counts as often as it is met; a slice's spare places count too). A statement '..UptoSaid' is the law's where the arguments, and the package variables that the reading takes, are together of bulk at most 1048576: NARROWER than '..Said'. Prove '..Said' where nothing that the law and all that it calls make is longer than what came in: it says more and counts as full. Else prove '..UptoSaid'. A law counts once. -/
mutual
def uptoBulk {H : Type} : DataW H → Nat
  | .lit (.string bytes) => bytes.length + 1
  | .lit _ => 1
  | .nil => 1
  | .ptr d => uptoBulk d + 1
  | .slice elems spare => uptoBulkAll elems + uptoBulkAll spare + 1
  | .agg parts => uptoBulkAll parts + 1
  | .iface _ d => uptoBulk d + 1
  | .map entries => uptoBulkEntries entries + 1
  | .held _ => 1
def uptoBulkAll {H : Type} : List (DataW H) → Nat
  | [] => 0
  | d :: r => uptoBulk d + uptoBulkAll r
def uptoBulkEntries {H : Type} : List (Lit × DataW H) → Nat
  | [] => 0
  | x :: r => uptoBulkEntry x + uptoBulkEntries r
def uptoBulkEntry {H : Type} : Lit × DataW H → Nat
  | (.string bytes, d) => bytes.length + uptoBulk d + 1
  | (_, d) => uptoBulk d + 1
 end
def uptoSmall : (H : Type) → List (DataW H) → Bool := fun _ ds => decide (uptoBulkAll ds ≤ 1048576)
def OpenSpec.upto (s : _root_.Go.ChangeSpec) : _root_.Go.OpenSpec := { _root_.Go.OpenSpec.ofChange s with cond := some uptoSmall }

/-- 'laws.FnExactLocalName', WHERE WHAT IT READS IS OF BULK AT MOST 1048576: true; the input reads as it did. -/
def fnExactLocalNameUptoRow : OpenClaim := { program := "ytamdjgcnjgiflab", sum := "8639d834ce75631a6a9df1dbb1a581249d3218cae8935be2d8ac61aba7570ee7", func := "loop.example/localglobal/laws.FnExactLocalName", spec := "fnExactLocalName", unfollowed := true, recurses := true, plainKeys := false, apart := false, narrowed := true }
def FnExactLocalNameUptoSaid : Prop := fnExactLocalNameUptoRow.holds Try.pinned (OpenSpec.upto fnExactLocalNameSpec)

/-- 'laws.FnExactLocalSame', WHERE WHAT IT READS IS OF BULK AT MOST 1048576: true; the input reads as it did. -/
def fnExactLocalSameUptoRow : OpenClaim := { program := "ytamdjgcnjgiflab", sum := "8639d834ce75631a6a9df1dbb1a581249d3218cae8935be2d8ac61aba7570ee7", func := "loop.example/localglobal/laws.FnExactLocalSame", spec := "fnExactLocalSame", unfollowed := true, recurses := true, plainKeys := false, apart := false, narrowed := true }
def FnExactLocalSameUptoSaid : Prop := fnExactLocalSameUptoRow.holds Try.pinned (OpenSpec.upto fnExactLocalSameSpec)

/-- 'laws.FnExactLocalMul', WHERE WHAT IT READS IS OF BULK AT MOST 1048576: true; the input reads as it did. -/
def fnExactLocalMulUptoRow : OpenClaim := { program := "ytamdjgcnjgiflab", sum := "8639d834ce75631a6a9df1dbb1a581249d3218cae8935be2d8ac61aba7570ee7", func := "loop.example/localglobal/laws.FnExactLocalMul", spec := "fnExactLocalMul", unfollowed := true, recurses := true, plainKeys := false, apart := false, narrowed := true }
def FnExactLocalMulUptoSaid : Prop := fnExactLocalMulUptoRow.holds Try.pinned (OpenSpec.upto fnExactLocalMulSpec)

/-- 'laws.FnExactLocalPlaces', WHERE WHAT IT READS IS OF BULK AT MOST 1048576: true; the input reads as it did. -/
def fnExactLocalPlacesUptoRow : OpenClaim := { program := "ytamdjgcnjgiflab", sum := "8639d834ce75631a6a9df1dbb1a581249d3218cae8935be2d8ac61aba7570ee7", func := "loop.example/localglobal/laws.FnExactLocalPlaces", spec := "fnExactLocalPlaces", unfollowed := true, recurses := true, plainKeys := false, apart := false, narrowed := true }
def FnExactLocalPlacesUptoSaid : Prop := fnExactLocalPlacesUptoRow.holds Try.pinned (OpenSpec.upto fnExactLocalPlacesSpec)

/-- 'laws.FnExactLocalRoot', WHERE WHAT IT READS IS OF BULK AT MOST 1048576: true; the input reads as it did. -/
def fnExactLocalRootUptoRow : OpenClaim := { program := "ytamdjgcnjgiflab", sum := "8639d834ce75631a6a9df1dbb1a581249d3218cae8935be2d8ac61aba7570ee7", func := "loop.example/localglobal/laws.FnExactLocalRoot", spec := "fnExactLocalRoot", unfollowed := true, recurses := true, plainKeys := false, apart := false, narrowed := true }
def FnExactLocalRootUptoSaid : Prop := fnExactLocalRootUptoRow.holds Try.pinned (OpenSpec.upto fnExactLocalRootSpec)

/-- 'laws.FnExactLocalLevel', WHERE WHAT IT READS IS OF BULK AT MOST 1048576: true; the input reads as it did. -/
def fnExactLocalLevelUptoRow : OpenClaim := { program := "ytamdjgcnjgiflab", sum := "8639d834ce75631a6a9df1dbb1a581249d3218cae8935be2d8ac61aba7570ee7", func := "loop.example/localglobal/laws.FnExactLocalLevel", spec := "fnExactLocalLevel", unfollowed := true, recurses := true, plainKeys := false, apart := false, narrowed := true }
def FnExactLocalLevelUptoSaid : Prop := fnExactLocalLevelUptoRow.holds Try.pinned (OpenSpec.upto fnExactLocalLevelSpec)

/-- 'laws.FnExactLocalUnit', WHERE WHAT IT READS IS OF BULK AT MOST 1048576: true; the input reads as it did. -/
def fnExactLocalUnitUptoRow : OpenClaim := { program := "ytamdjgcnjgiflab", sum := "8639d834ce75631a6a9df1dbb1a581249d3218cae8935be2d8ac61aba7570ee7", func := "loop.example/localglobal/laws.FnExactLocalUnit", spec := "fnExactLocalUnit", unfollowed := true, recurses := true, plainKeys := false, apart := false, narrowed := true }
def FnExactLocalUnitUptoSaid : Prop := fnExactLocalUnitUptoRow.holds Try.pinned (OpenSpec.upto fnExactLocalUnitSpec)

end Rows
end Go.Proofs.Ytamdjgcnjgiflab
