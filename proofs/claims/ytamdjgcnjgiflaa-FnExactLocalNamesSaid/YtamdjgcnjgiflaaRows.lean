/-
  No cell of these rows narrows 'for every input' (looked for: loops, veiled, ifaces, maps, wideKeys, modest, calm, conditions, laid).
  DERIVED. THE GIVEN ROWS OF THIS SEAT. 12 by the template 'for every input the law returns true; each argument reads behind the call as it read before'; 0 by the template 'total and deterministic' (their statements: YtamdjgcnjgiflaaTotals.lean).
  GIVEN WITH THE SEED: the statements are not yours to turn. If you find one false, say at which input.
  Laid BY PROGRAM, IN A SANDBOX (cutbox-rows.mjs): the forced cells as the released guide's own fill.sh prints them over the translation bfdf97c88ed17789… (all of the seat's roots in one cut). By AI agents, Wed Nov 11 2026. No macro, syntax, notation, axiom, sorry.
-/
import Derived.Test.YtamdjgcnjgiflaaChecked
import GoSem.Claim
import GoSem.ClaimJoined
import GoSem.ClaimMapViews
import Derived.JoinedTies
import Derived.KernelRfl
namespace Go.Proofs.Ytamdjgcnjgiflaa
/- THE CELL 'sum', in the pinned program and in every row, IS THE sha256 OF THE DUMP (.gsa) THAT YtamdjgcnjgiflaaProg.lean LOADS. Nothing in Lean hashes anything: it is a label: what it is worth is what the hold of that sum in a sandbox is worth. -/
noncomputable def Try.pinned : Pinned := { name := "ytamdjgcnjgiflaa", sum := "bfdf97c88ed1778983743d98df3d1445d472b54c0e166e8b8725323f3195da16", checked := Try.checked }
namespace Rows
def none {H : Type} : Left H := { results := [], args := [] }

/-- 'laws.FnLocalSquare': WHATEVER THE INPUT: true; the input reads as it did. -/
def fnLocalSquareSpec : ChangeSpec := { name := "fnLocalSquare", fn := fun _ => fun
  | [d1, d2] => { results := [.lit (.bool true)], args := [d1, d2] }
  | _ => none }
def fnLocalSquareRow : OpenClaim := { program := "ytamdjgcnjgiflaa", sum := "bfdf97c88ed1778983743d98df3d1445d472b54c0e166e8b8725323f3195da16", func := "loop.example/localglobal/laws.FnLocalSquare", spec := "fnLocalSquare", unfollowed := true, recurses := true, plainKeys := false, apart := false }
def FnLocalSquareSaid : Prop := fnLocalSquareRow.holds Try.pinned (OpenSpec.ofChange fnLocalSquareSpec)

/-- ITS FALSE NEIGHBOUR: 'it returns false'. Refute it at one input. -/
def fnLocalSquareWrong : ChangeSpec := { name := "fnLocalSquare", fn := fun _ => fun
  | [d1, d2] => { results := [.lit (.bool false)], args := [d1, d2] }
  | _ => none }
def FnLocalSquareWrongFalsely : Prop := fnLocalSquareRow.holds Try.pinned (OpenSpec.ofChange fnLocalSquareWrong)

/-- 'laws.FnName': WHATEVER THE INPUT: true; the input reads as it did. -/
def fnNameSpec : ChangeSpec := { name := "fnName", fn := fun _ => fun
  | [d] => { results := [.lit (.bool true)], args := [d] }
  | _ => none }
def fnNameRow : OpenClaim := { program := "ytamdjgcnjgiflaa", sum := "bfdf97c88ed1778983743d98df3d1445d472b54c0e166e8b8725323f3195da16", func := "loop.example/localglobal/laws.FnName", spec := "fnName", unfollowed := true, recurses := true, plainKeys := false, apart := false }
def FnNameSaid : Prop := fnNameRow.holds Try.pinned (OpenSpec.ofChange fnNameSpec)

/-- ITS FALSE NEIGHBOUR: 'it returns false'. Refute it at one input. -/
def fnNameWrong : ChangeSpec := { name := "fnName", fn := fun _ => fun
  | [d] => { results := [.lit (.bool false)], args := [d] }
  | _ => none }
def FnNameWrongFalsely : Prop := fnNameRow.holds Try.pinned (OpenSpec.ofChange fnNameWrong)

/-- 'laws.FnNames': WHATEVER THE INPUT: true; the input reads as it did. -/
def fnNamesSpec : ChangeSpec := { name := "fnNames", fn := fun _ => fun
  | [d] => { results := [.lit (.bool true)], args := [d] }
  | _ => none }
def fnNamesRow : OpenClaim := { program := "ytamdjgcnjgiflaa", sum := "bfdf97c88ed1778983743d98df3d1445d472b54c0e166e8b8725323f3195da16", func := "loop.example/localglobal/laws.FnNames", spec := "fnNames", unfollowed := true, recurses := true, plainKeys := false, apart := false }
def FnNamesSaid : Prop := fnNamesRow.holds Try.pinned (OpenSpec.ofChange fnNamesSpec)

/-- ITS FALSE NEIGHBOUR: 'it returns false'. Refute it at one input. -/
def fnNamesWrong : ChangeSpec := { name := "fnNames", fn := fun _ => fun
  | [d] => { results := [.lit (.bool false)], args := [d] }
  | _ => none }
def FnNamesWrongFalsely : Prop := fnNamesRow.holds Try.pinned (OpenSpec.ofChange fnNamesWrong)

/-- 'laws.FnLocalSame': WHATEVER THE INPUT: true; the input reads as it did. -/
def fnLocalSameSpec : ChangeSpec := { name := "fnLocalSame", fn := fun _ => fun
  | [d] => { results := [.lit (.bool true)], args := [d] }
  | _ => none }
def fnLocalSameRow : OpenClaim := { program := "ytamdjgcnjgiflaa", sum := "bfdf97c88ed1778983743d98df3d1445d472b54c0e166e8b8725323f3195da16", func := "loop.example/localglobal/laws.FnLocalSame", spec := "fnLocalSame", unfollowed := true, recurses := true, plainKeys := false, apart := false }
def FnLocalSameSaid : Prop := fnLocalSameRow.holds Try.pinned (OpenSpec.ofChange fnLocalSameSpec)

/-- ITS FALSE NEIGHBOUR: 'it returns false'. Refute it at one input. -/
def fnLocalSameWrong : ChangeSpec := { name := "fnLocalSame", fn := fun _ => fun
  | [d] => { results := [.lit (.bool false)], args := [d] }
  | _ => none }
def FnLocalSameWrongFalsely : Prop := fnLocalSameRow.holds Try.pinned (OpenSpec.ofChange fnLocalSameWrong)

/-- 'laws.FnMul': WHATEVER THE INPUT: true; the input reads as it did. -/
def fnMulSpec : ChangeSpec := { name := "fnMul", fn := fun _ => fun
  | [d] => { results := [.lit (.bool true)], args := [d] }
  | _ => none }
def fnMulRow : OpenClaim := { program := "ytamdjgcnjgiflaa", sum := "bfdf97c88ed1778983743d98df3d1445d472b54c0e166e8b8725323f3195da16", func := "loop.example/localglobal/laws.FnMul", spec := "fnMul", unfollowed := true, recurses := true, plainKeys := false, apart := false }
def FnMulSaid : Prop := fnMulRow.holds Try.pinned (OpenSpec.ofChange fnMulSpec)

/-- ITS FALSE NEIGHBOUR: 'it returns false'. Refute it at one input. -/
def fnMulWrong : ChangeSpec := { name := "fnMul", fn := fun _ => fun
  | [d] => { results := [.lit (.bool false)], args := [d] }
  | _ => none }
def FnMulWrongFalsely : Prop := fnMulRow.holds Try.pinned (OpenSpec.ofChange fnMulWrong)

/-- 'laws.FnLocalPlaces': WHATEVER THE INPUT: true; the input reads as it did. -/
def fnLocalPlacesSpec : ChangeSpec := { name := "fnLocalPlaces", fn := fun _ => fun
  | [d] => { results := [.lit (.bool true)], args := [d] }
  | _ => none }
def fnLocalPlacesRow : OpenClaim := { program := "ytamdjgcnjgiflaa", sum := "bfdf97c88ed1778983743d98df3d1445d472b54c0e166e8b8725323f3195da16", func := "loop.example/localglobal/laws.FnLocalPlaces", spec := "fnLocalPlaces", unfollowed := true, recurses := true, plainKeys := false, apart := false }
def FnLocalPlacesSaid : Prop := fnLocalPlacesRow.holds Try.pinned (OpenSpec.ofChange fnLocalPlacesSpec)

/-- ITS FALSE NEIGHBOUR: 'it returns false'. Refute it at one input. -/
def fnLocalPlacesWrong : ChangeSpec := { name := "fnLocalPlaces", fn := fun _ => fun
  | [d] => { results := [.lit (.bool false)], args := [d] }
  | _ => none }
def FnLocalPlacesWrongFalsely : Prop := fnLocalPlacesRow.holds Try.pinned (OpenSpec.ofChange fnLocalPlacesWrong)

/-- 'laws.FnLocalRoot': WHATEVER THE INPUT: true; the input reads as it did. -/
def fnLocalRootSpec : ChangeSpec := { name := "fnLocalRoot", fn := fun _ => fun
  | [d] => { results := [.lit (.bool true)], args := [d] }
  | _ => none }
def fnLocalRootRow : OpenClaim := { program := "ytamdjgcnjgiflaa", sum := "bfdf97c88ed1778983743d98df3d1445d472b54c0e166e8b8725323f3195da16", func := "loop.example/localglobal/laws.FnLocalRoot", spec := "fnLocalRoot", unfollowed := true, recurses := true, plainKeys := false, apart := false }
def FnLocalRootSaid : Prop := fnLocalRootRow.holds Try.pinned (OpenSpec.ofChange fnLocalRootSpec)

/-- ITS FALSE NEIGHBOUR: 'it returns false'. Refute it at one input. -/
def fnLocalRootWrong : ChangeSpec := { name := "fnLocalRoot", fn := fun _ => fun
  | [d] => { results := [.lit (.bool false)], args := [d] }
  | _ => none }
def FnLocalRootWrongFalsely : Prop := fnLocalRootRow.holds Try.pinned (OpenSpec.ofChange fnLocalRootWrong)

/-- 'laws.FnRootLift': WHATEVER THE INPUT: true; the input reads as it did. -/
def fnRootLiftSpec : ChangeSpec := { name := "fnRootLift", fn := fun _ => fun
  | [d] => { results := [.lit (.bool true)], args := [d] }
  | _ => none }
def fnRootLiftRow : OpenClaim := { program := "ytamdjgcnjgiflaa", sum := "bfdf97c88ed1778983743d98df3d1445d472b54c0e166e8b8725323f3195da16", func := "loop.example/localglobal/laws.FnRootLift", spec := "fnRootLift", unfollowed := true, recurses := true, plainKeys := false, apart := false }
def FnRootLiftSaid : Prop := fnRootLiftRow.holds Try.pinned (OpenSpec.ofChange fnRootLiftSpec)

/-- ITS FALSE NEIGHBOUR: 'it returns false'. Refute it at one input. -/
def fnRootLiftWrong : ChangeSpec := { name := "fnRootLift", fn := fun _ => fun
  | [d] => { results := [.lit (.bool false)], args := [d] }
  | _ => none }
def FnRootLiftWrongFalsely : Prop := fnRootLiftRow.holds Try.pinned (OpenSpec.ofChange fnRootLiftWrong)

/-- 'laws.FnUnit': WHATEVER THE INPUT: true; the input reads as it did. -/
def fnUnitSpec : ChangeSpec := { name := "fnUnit", fn := fun _ => fun
  | [d] => { results := [.lit (.bool true)], args := [d] }
  | _ => none }
def fnUnitRow : OpenClaim := { program := "ytamdjgcnjgiflaa", sum := "bfdf97c88ed1778983743d98df3d1445d472b54c0e166e8b8725323f3195da16", func := "loop.example/localglobal/laws.FnUnit", spec := "fnUnit", unfollowed := true, recurses := true, plainKeys := false, apart := false }
def FnUnitSaid : Prop := fnUnitRow.holds Try.pinned (OpenSpec.ofChange fnUnitSpec)

/-- ITS FALSE NEIGHBOUR: 'it returns false'. Refute it at one input. -/
def fnUnitWrong : ChangeSpec := { name := "fnUnit", fn := fun _ => fun
  | [d] => { results := [.lit (.bool false)], args := [d] }
  | _ => none }
def FnUnitWrongFalsely : Prop := fnUnitRow.holds Try.pinned (OpenSpec.ofChange fnUnitWrong)

/-- 'laws.FnExactPlaceValid': WHATEVER THE INPUT: true; the input reads as it did. -/
def fnExactPlaceValidSpec : ChangeSpec := { name := "fnExactPlaceValid", fn := fun _ => fun
  | [d] => { results := [.lit (.bool true)], args := [d] }
  | _ => none }
def fnExactPlaceValidRow : OpenClaim := { program := "ytamdjgcnjgiflaa", sum := "bfdf97c88ed1778983743d98df3d1445d472b54c0e166e8b8725323f3195da16", func := "loop.example/localglobal/laws.FnExactPlaceValid", spec := "fnExactPlaceValid", unfollowed := true, recurses := true, plainKeys := false, apart := false }
def FnExactPlaceValidSaid : Prop := fnExactPlaceValidRow.holds Try.pinned (OpenSpec.ofChange fnExactPlaceValidSpec)

/-- ITS FALSE NEIGHBOUR: 'it returns false'. Refute it at one input. -/
def fnExactPlaceValidWrong : ChangeSpec := { name := "fnExactPlaceValid", fn := fun _ => fun
  | [d] => { results := [.lit (.bool false)], args := [d] }
  | _ => none }
def FnExactPlaceValidWrongFalsely : Prop := fnExactPlaceValidRow.holds Try.pinned (OpenSpec.ofChange fnExactPlaceValidWrong)

/-- 'laws.FnExactLocalSquare': WHATEVER THE INPUT: true; the input reads as it did. -/
def fnExactLocalSquareSpec : ChangeSpec := { name := "fnExactLocalSquare", fn := fun _ => fun
  | [d1, d2] => { results := [.lit (.bool true)], args := [d1, d2] }
  | _ => none }
def fnExactLocalSquareRow : OpenClaim := { program := "ytamdjgcnjgiflaa", sum := "bfdf97c88ed1778983743d98df3d1445d472b54c0e166e8b8725323f3195da16", func := "loop.example/localglobal/laws.FnExactLocalSquare", spec := "fnExactLocalSquare", unfollowed := true, recurses := true, plainKeys := false, apart := false }
def FnExactLocalSquareSaid : Prop := fnExactLocalSquareRow.holds Try.pinned (OpenSpec.ofChange fnExactLocalSquareSpec)

/-- ITS FALSE NEIGHBOUR: 'it returns false'. Refute it at one input. -/
def fnExactLocalSquareWrong : ChangeSpec := { name := "fnExactLocalSquare", fn := fun _ => fun
  | [d1, d2] => { results := [.lit (.bool false)], args := [d1, d2] }
  | _ => none }
def FnExactLocalSquareWrongFalsely : Prop := fnExactLocalSquareRow.holds Try.pinned (OpenSpec.ofChange fnExactLocalSquareWrong)

/-- 'laws.FnExactLocalNames': WHATEVER THE INPUT: true; the input reads as it did. -/
def fnExactLocalNamesSpec : ChangeSpec := { name := "fnExactLocalNames", fn := fun _ => fun
  | [d] => { results := [.lit (.bool true)], args := [d] }
  | _ => none }
def fnExactLocalNamesRow : OpenClaim := { program := "ytamdjgcnjgiflaa", sum := "bfdf97c88ed1778983743d98df3d1445d472b54c0e166e8b8725323f3195da16", func := "loop.example/localglobal/laws.FnExactLocalNames", spec := "fnExactLocalNames", unfollowed := true, recurses := true, plainKeys := false, apart := false }
def FnExactLocalNamesSaid : Prop := fnExactLocalNamesRow.holds Try.pinned (OpenSpec.ofChange fnExactLocalNamesSpec)

/-- ITS FALSE NEIGHBOUR: 'it returns false'. Refute it at one input. -/
def fnExactLocalNamesWrong : ChangeSpec := { name := "fnExactLocalNames", fn := fun _ => fun
  | [d] => { results := [.lit (.bool false)], args := [d] }
  | _ => none }
def FnExactLocalNamesWrongFalsely : Prop := fnExactLocalNamesRow.holds Try.pinned (OpenSpec.ofChange fnExactLocalNamesWrong)

/- THE SECOND FORM. 'bulk': how many values and letters a reading holds, each counted each time it is reached (what is shared counts as often as it is met; a slice's spare places count too). A statement '..UptoSaid' is the law's where the arguments, and the package variables that the reading takes, are together of bulk at most 1048576: NARROWER than '..Said'. Prove '..Said' where nothing that the law and all that it calls make is longer than what came in: it says more and counts as full. Else prove '..UptoSaid'. A law counts once. -/
mutual
def uptoBulk {H : Type} : DataW H → Nat
  | .lit (.string bytes) => bytes.length + 1
  | .lit _ => 1
  | .nil => 1
  | .ptr d => uptoBulk d + 1
  | .slice elems spare => uptoBulkAll elems + uptoBulkAll spare + 1
  | .agg parts => uptoBulkAll parts + 1
  | .iface _ d => uptoBulk d + 1
  | .map entries => uptoBulkEntries entries + 1
  | .held _ => 1
def uptoBulkAll {H : Type} : List (DataW H) → Nat
  | [] => 0
  | d :: r => uptoBulk d + uptoBulkAll r
def uptoBulkEntries {H : Type} : List (Lit × DataW H) → Nat
  | [] => 0
  | x :: r => uptoBulkEntry x + uptoBulkEntries r
def uptoBulkEntry {H : Type} : Lit × DataW H → Nat
  | (.string bytes, d) => bytes.length + uptoBulk d + 1
  | (_, d) => uptoBulk d + 1
 end
def uptoSmall : (H : Type) → List (DataW H) → Bool := fun _ ds => decide (uptoBulkAll ds ≤ 1048576)
def OpenSpec.upto (s : _root_.Go.ChangeSpec) : _root_.Go.OpenSpec := { _root_.Go.OpenSpec.ofChange s with cond := some uptoSmall }

/-- 'laws.FnLocalSquare', WHERE WHAT IT READS IS OF BULK AT MOST 1048576: true; the input reads as it did. -/
def fnLocalSquareUptoRow : OpenClaim := { program := "ytamdjgcnjgiflaa", sum := "bfdf97c88ed1778983743d98df3d1445d472b54c0e166e8b8725323f3195da16", func := "loop.example/localglobal/laws.FnLocalSquare", spec := "fnLocalSquare", unfollowed := true, recurses := true, plainKeys := false, apart := false, narrowed := true }
def FnLocalSquareUptoSaid : Prop := fnLocalSquareUptoRow.holds Try.pinned (OpenSpec.upto fnLocalSquareSpec)

/-- 'laws.FnName', WHERE WHAT IT READS IS OF BULK AT MOST 1048576: true; the input reads as it did. -/
def fnNameUptoRow : OpenClaim := { program := "ytamdjgcnjgiflaa", sum := "bfdf97c88ed1778983743d98df3d1445d472b54c0e166e8b8725323f3195da16", func := "loop.example/localglobal/laws.FnName", spec := "fnName", unfollowed := true, recurses := true, plainKeys := false, apart := false, narrowed := true }
def FnNameUptoSaid : Prop := fnNameUptoRow.holds Try.pinned (OpenSpec.upto fnNameSpec)

/-- 'laws.FnNames', WHERE WHAT IT READS IS OF BULK AT MOST 1048576: true; the input reads as it did. -/
def fnNamesUptoRow : OpenClaim := { program := "ytamdjgcnjgiflaa", sum := "bfdf97c88ed1778983743d98df3d1445d472b54c0e166e8b8725323f3195da16", func := "loop.example/localglobal/laws.FnNames", spec := "fnNames", unfollowed := true, recurses := true, plainKeys := false, apart := false, narrowed := true }
def FnNamesUptoSaid : Prop := fnNamesUptoRow.holds Try.pinned (OpenSpec.upto fnNamesSpec)

/-- 'laws.FnLocalSame', WHERE WHAT IT READS IS OF BULK AT MOST 1048576: true; the input reads as it did. -/
def fnLocalSameUptoRow : OpenClaim := { program := "ytamdjgcnjgiflaa", sum := "bfdf97c88ed1778983743d98df3d1445d472b54c0e166e8b8725323f3195da16", func := "loop.example/localglobal/laws.FnLocalSame", spec := "fnLocalSame", unfollowed := true, recurses := true, plainKeys := false, apart := false, narrowed := true }
def FnLocalSameUptoSaid : Prop := fnLocalSameUptoRow.holds Try.pinned (OpenSpec.upto fnLocalSameSpec)

/-- 'laws.FnMul', WHERE WHAT IT READS IS OF BULK AT MOST 1048576: true; the input reads as it did. -/
def fnMulUptoRow : OpenClaim := { program := "ytamdjgcnjgiflaa", sum := "bfdf97c88ed1778983743d98df3d1445d472b54c0e166e8b8725323f3195da16", func := "loop.example/localglobal/laws.FnMul", spec := "fnMul", unfollowed := true, recurses := true, plainKeys := false, apart := false, narrowed := true }
def FnMulUptoSaid : Prop := fnMulUptoRow.holds Try.pinned (OpenSpec.upto fnMulSpec)

/-- 'laws.FnLocalPlaces', WHERE WHAT IT READS IS OF BULK AT MOST 1048576: true; the input reads as it did. -/
def fnLocalPlacesUptoRow : OpenClaim := { program := "ytamdjgcnjgiflaa", sum := "bfdf97c88ed1778983743d98df3d1445d472b54c0e166e8b8725323f3195da16", func := "loop.example/localglobal/laws.FnLocalPlaces", spec := "fnLocalPlaces", unfollowed := true, recurses := true, plainKeys := false, apart := false, narrowed := true }
def FnLocalPlacesUptoSaid : Prop := fnLocalPlacesUptoRow.holds Try.pinned (OpenSpec.upto fnLocalPlacesSpec)

/-- 'laws.FnLocalRoot', WHERE WHAT IT READS IS OF BULK AT MOST 1048576: true; the input reads as it did. -/
def fnLocalRootUptoRow : OpenClaim := { program := "ytamdjgcnjgiflaa", sum := "bfdf97c88ed1778983743d98df3d1445d472b54c0e166e8b8725323f3195da16", func := "loop.example/localglobal/laws.FnLocalRoot", spec := "fnLocalRoot", unfollowed := true, recurses := true, plainKeys := false, apart := false, narrowed := true }
def FnLocalRootUptoSaid : Prop := fnLocalRootUptoRow.holds Try.pinned (OpenSpec.upto fnLocalRootSpec)

/-- 'laws.FnRootLift', WHERE WHAT IT READS IS OF BULK AT MOST 1048576: true; the input reads as it did. -/
def fnRootLiftUptoRow : OpenClaim := { program := "ytamdjgcnjgiflaa", sum := "bfdf97c88ed1778983743d98df3d1445d472b54c0e166e8b8725323f3195da16", func := "loop.example/localglobal/laws.FnRootLift", spec := "fnRootLift", unfollowed := true, recurses := true, plainKeys := false, apart := false, narrowed := true }
def FnRootLiftUptoSaid : Prop := fnRootLiftUptoRow.holds Try.pinned (OpenSpec.upto fnRootLiftSpec)

/-- 'laws.FnUnit', WHERE WHAT IT READS IS OF BULK AT MOST 1048576: true; the input reads as it did. -/
def fnUnitUptoRow : OpenClaim := { program := "ytamdjgcnjgiflaa", sum := "bfdf97c88ed1778983743d98df3d1445d472b54c0e166e8b8725323f3195da16", func := "loop.example/localglobal/laws.FnUnit", spec := "fnUnit", unfollowed := true, recurses := true, plainKeys := false, apart := false, narrowed := true }
def FnUnitUptoSaid : Prop := fnUnitUptoRow.holds Try.pinned (OpenSpec.upto fnUnitSpec)

/-- 'laws.FnExactPlaceValid', WHERE WHAT IT READS IS OF BULK AT MOST 1048576: true; the input reads as it did. -/
def fnExactPlaceValidUptoRow : OpenClaim := { program := "ytamdjgcnjgiflaa", sum := "bfdf97c88ed1778983743d98df3d1445d472b54c0e166e8b8725323f3195da16", func := "loop.example/localglobal/laws.FnExactPlaceValid", spec := "fnExactPlaceValid", unfollowed := true, recurses := true, plainKeys := false, apart := false, narrowed := true }
def FnExactPlaceValidUptoSaid : Prop := fnExactPlaceValidUptoRow.holds Try.pinned (OpenSpec.upto fnExactPlaceValidSpec)

/-- 'laws.FnExactLocalSquare', WHERE WHAT IT READS IS OF BULK AT MOST 1048576: true; the input reads as it did. -/
def fnExactLocalSquareUptoRow : OpenClaim := { program := "ytamdjgcnjgiflaa", sum := "bfdf97c88ed1778983743d98df3d1445d472b54c0e166e8b8725323f3195da16", func := "loop.example/localglobal/laws.FnExactLocalSquare", spec := "fnExactLocalSquare", unfollowed := true, recurses := true, plainKeys := false, apart := false, narrowed := true }
def FnExactLocalSquareUptoSaid : Prop := fnExactLocalSquareUptoRow.holds Try.pinned (OpenSpec.upto fnExactLocalSquareSpec)

/-- 'laws.FnExactLocalNames', WHERE WHAT IT READS IS OF BULK AT MOST 1048576: true; the input reads as it did. -/
def fnExactLocalNamesUptoRow : OpenClaim := { program := "ytamdjgcnjgiflaa", sum := "bfdf97c88ed1778983743d98df3d1445d472b54c0e166e8b8725323f3195da16", func := "loop.example/localglobal/laws.FnExactLocalNames", spec := "fnExactLocalNames", unfollowed := true, recurses := true, plainKeys := false, apart := false, narrowed := true }
def FnExactLocalNamesUptoSaid : Prop := fnExactLocalNamesUptoRow.holds Try.pinned (OpenSpec.upto fnExactLocalNamesSpec)

end Rows
end Go.Proofs.Ytamdjgcnjgiflaa
