/-
  No cell of these rows narrows 'for every input' (looked for: loops, veiled, ifaces, maps, wideKeys, modest, calm, conditions, laid).
  DERIVED. THE GIVEN ROWS OF THIS SEAT. 14 by the template 'for every input the law returns true; each argument reads behind the call as it read before'; 0 by the template 'total and deterministic' (their statements: YtdclmjmefkgbbaaTotals.lean).
  GIVEN WITH THE SEED: the statements are not yours to turn. If you find one false, say at which input.
  Laid BY PROGRAM, IN A SANDBOX (cutbox-rows.mjs): the forced cells as the released guide's own fill.sh prints them over the translation 4c772c8ff717c1cf… (all of the seat's roots in one cut). By AI agents, Wed Nov 11 2026. No macro, syntax, notation, axiom, sorry.
-/
import Derived.Test.YtdclmjmefkgbbaaChecked
import GoSem.Claim
import GoSem.ClaimJoined
import GoSem.ClaimMapViews
import Derived.JoinedTies
import Derived.KernelRfl
namespace Go.Proofs.Ytdclmjmefkgbbaa
/- THE CELL 'sum', in the pinned program and in every row, IS THE sha256 OF THE DUMP (.gsa) THAT YtdclmjmefkgbbaaProg.lean LOADS. Nothing in Lean hashes anything: it is a label: what it is worth is what the hold of that sum in a sandbox is worth. -/
noncomputable def Try.pinned : Pinned := { name := "ytdclmjmefkgbbaa", sum := "4c772c8ff717c1cf4e29541b471a1265031b0e17ca3dfddb5f68d289192bdd8c", checked := Try.checked }
namespace Rows
def none {H : Type} : Left H := { results := [], args := [] }

/-- 'laws.FnExactTwoIs': WHATEVER THE INPUT: true; the input reads as it did. -/
def fnExactTwoIsSpec : ChangeSpec := { name := "fnExactTwoIs", fn := fun _ => fun
  | [d] => { results := [.lit (.bool true)], args := [d] }
  | _ => none }
def fnExactTwoIsRow : OpenClaim := { program := "ytdclmjmefkgbbaa", sum := "4c772c8ff717c1cf4e29541b471a1265031b0e17ca3dfddb5f68d289192bdd8c", func := "loop.example/localglobal/laws.FnExactTwoIs", spec := "fnExactTwoIs", unfollowed := true, recurses := true, apart := false }
def FnExactTwoIsSaid : Prop := fnExactTwoIsRow.holds Try.pinned (OpenSpec.ofChange fnExactTwoIsSpec)

/-- ITS FALSE NEIGHBOUR: 'it returns false'. Refute it at one input. -/
def fnExactTwoIsWrong : ChangeSpec := { name := "fnExactTwoIs", fn := fun _ => fun
  | [d] => { results := [.lit (.bool false)], args := [d] }
  | _ => none }
def FnExactTwoIsWrongFalsely : Prop := fnExactTwoIsRow.holds Try.pinned (OpenSpec.ofChange fnExactTwoIsWrong)

/-- 'laws.FnExactTwoFind': WHATEVER THE INPUT: true; the input reads as it did. -/
def fnExactTwoFindSpec : ChangeSpec := { name := "fnExactTwoFind", fn := fun _ => fun
  | [d] => { results := [.lit (.bool true)], args := [d] }
  | _ => none }
def fnExactTwoFindRow : OpenClaim := { program := "ytdclmjmefkgbbaa", sum := "4c772c8ff717c1cf4e29541b471a1265031b0e17ca3dfddb5f68d289192bdd8c", func := "loop.example/localglobal/laws.FnExactTwoFind", spec := "fnExactTwoFind", recurses := true, apart := false }
def FnExactTwoFindSaid : Prop := fnExactTwoFindRow.holds Try.pinned (OpenSpec.ofChange fnExactTwoFindSpec)

/-- ITS FALSE NEIGHBOUR: 'it returns false'. Refute it at one input. -/
def fnExactTwoFindWrong : ChangeSpec := { name := "fnExactTwoFind", fn := fun _ => fun
  | [d] => { results := [.lit (.bool false)], args := [d] }
  | _ => none }
def FnExactTwoFindWrongFalsely : Prop := fnExactTwoFindRow.holds Try.pinned (OpenSpec.ofChange fnExactTwoFindWrong)

/-- 'laws.FnExactTwoMany': WHATEVER THE INPUT: true; the input reads as it did. -/
def fnExactTwoManySpec : ChangeSpec := { name := "fnExactTwoMany", fn := fun _ => fun
  | [d] => { results := [.lit (.bool true)], args := [d] }
  | _ => none }
def fnExactTwoManyRow : OpenClaim := { program := "ytdclmjmefkgbbaa", sum := "4c772c8ff717c1cf4e29541b471a1265031b0e17ca3dfddb5f68d289192bdd8c", func := "loop.example/localglobal/laws.FnExactTwoMany", spec := "fnExactTwoMany", unfollowed := true, recurses := true, apart := false }
def FnExactTwoManySaid : Prop := fnExactTwoManyRow.holds Try.pinned (OpenSpec.ofChange fnExactTwoManySpec)

/-- ITS FALSE NEIGHBOUR: 'it returns false'. Refute it at one input. -/
def fnExactTwoManyWrong : ChangeSpec := { name := "fnExactTwoMany", fn := fun _ => fun
  | [d] => { results := [.lit (.bool false)], args := [d] }
  | _ => none }
def FnExactTwoManyWrongFalsely : Prop := fnExactTwoManyRow.holds Try.pinned (OpenSpec.ofChange fnExactTwoManyWrong)

/-- 'laws.FnExactTwoEach': WHATEVER THE INPUT: true; the input reads as it did. -/
def fnExactTwoEachSpec : ChangeSpec := { name := "fnExactTwoEach", fn := fun _ => fun
  | [d] => { results := [.lit (.bool true)], args := [d] }
  | _ => none }
def fnExactTwoEachRow : OpenClaim := { program := "ytdclmjmefkgbbaa", sum := "4c772c8ff717c1cf4e29541b471a1265031b0e17ca3dfddb5f68d289192bdd8c", func := "loop.example/localglobal/laws.FnExactTwoEach", spec := "fnExactTwoEach", unfollowed := true, recurses := true, apart := false }
def FnExactTwoEachSaid : Prop := fnExactTwoEachRow.holds Try.pinned (OpenSpec.ofChange fnExactTwoEachSpec)

/-- ITS FALSE NEIGHBOUR: 'it returns false'. Refute it at one input. -/
def fnExactTwoEachWrong : ChangeSpec := { name := "fnExactTwoEach", fn := fun _ => fun
  | [d] => { results := [.lit (.bool false)], args := [d] }
  | _ => none }
def FnExactTwoEachWrongFalsely : Prop := fnExactTwoEachRow.holds Try.pinned (OpenSpec.ofChange fnExactTwoEachWrong)

/-- 'laws.FnExactThreeIs': WHATEVER THE INPUT: true; the input reads as it did. -/
def fnExactThreeIsSpec : ChangeSpec := { name := "fnExactThreeIs", fn := fun _ => fun
  | [d] => { results := [.lit (.bool true)], args := [d] }
  | _ => none }
def fnExactThreeIsRow : OpenClaim := { program := "ytdclmjmefkgbbaa", sum := "4c772c8ff717c1cf4e29541b471a1265031b0e17ca3dfddb5f68d289192bdd8c", func := "loop.example/localglobal/laws.FnExactThreeIs", spec := "fnExactThreeIs", apart := false }
def FnExactThreeIsSaid : Prop := fnExactThreeIsRow.holds Try.pinned (OpenSpec.ofChange fnExactThreeIsSpec)

/-- ITS FALSE NEIGHBOUR: 'it returns false'. Refute it at one input. -/
def fnExactThreeIsWrong : ChangeSpec := { name := "fnExactThreeIs", fn := fun _ => fun
  | [d] => { results := [.lit (.bool false)], args := [d] }
  | _ => none }
def FnExactThreeIsWrongFalsely : Prop := fnExactThreeIsRow.holds Try.pinned (OpenSpec.ofChange fnExactThreeIsWrong)

/-- 'laws.FnExactThreeFind': WHATEVER THE INPUT: true; the input reads as it did. -/
def fnExactThreeFindSpec : ChangeSpec := { name := "fnExactThreeFind", fn := fun _ => fun
  | [d] => { results := [.lit (.bool true)], args := [d] }
  | _ => none }
def fnExactThreeFindRow : OpenClaim := { program := "ytdclmjmefkgbbaa", sum := "4c772c8ff717c1cf4e29541b471a1265031b0e17ca3dfddb5f68d289192bdd8c", func := "loop.example/localglobal/laws.FnExactThreeFind", spec := "fnExactThreeFind", recurses := true, apart := false }
def FnExactThreeFindSaid : Prop := fnExactThreeFindRow.holds Try.pinned (OpenSpec.ofChange fnExactThreeFindSpec)

/-- ITS FALSE NEIGHBOUR: 'it returns false'. Refute it at one input. -/
def fnExactThreeFindWrong : ChangeSpec := { name := "fnExactThreeFind", fn := fun _ => fun
  | [d] => { results := [.lit (.bool false)], args := [d] }
  | _ => none }
def FnExactThreeFindWrongFalsely : Prop := fnExactThreeFindRow.holds Try.pinned (OpenSpec.ofChange fnExactThreeFindWrong)

/-- 'laws.FnExactFourMany': WHATEVER THE INPUT: true; the input reads as it did. -/
def fnExactFourManySpec : ChangeSpec := { name := "fnExactFourMany", fn := fun _ => fun
  | [d] => { results := [.lit (.bool true)], args := [d] }
  | _ => none }
def fnExactFourManyRow : OpenClaim := { program := "ytdclmjmefkgbbaa", sum := "4c772c8ff717c1cf4e29541b471a1265031b0e17ca3dfddb5f68d289192bdd8c", func := "loop.example/localglobal/laws.FnExactFourMany", spec := "fnExactFourMany", unfollowed := true, recurses := true, apart := false }
def FnExactFourManySaid : Prop := fnExactFourManyRow.holds Try.pinned (OpenSpec.ofChange fnExactFourManySpec)

/-- ITS FALSE NEIGHBOUR: 'it returns false'. Refute it at one input. -/
def fnExactFourManyWrong : ChangeSpec := { name := "fnExactFourMany", fn := fun _ => fun
  | [d] => { results := [.lit (.bool false)], args := [d] }
  | _ => none }
def FnExactFourManyWrongFalsely : Prop := fnExactFourManyRow.holds Try.pinned (OpenSpec.ofChange fnExactFourManyWrong)

/-- 'laws.FnExactFourEach': WHATEVER THE INPUT: true; the input reads as it did. -/
def fnExactFourEachSpec : ChangeSpec := { name := "fnExactFourEach", fn := fun _ => fun
  | [d] => { results := [.lit (.bool true)], args := [d] }
  | _ => none }
def fnExactFourEachRow : OpenClaim := { program := "ytdclmjmefkgbbaa", sum := "4c772c8ff717c1cf4e29541b471a1265031b0e17ca3dfddb5f68d289192bdd8c", func := "loop.example/localglobal/laws.FnExactFourEach", spec := "fnExactFourEach", unfollowed := true, recurses := true, apart := false }
def FnExactFourEachSaid : Prop := fnExactFourEachRow.holds Try.pinned (OpenSpec.ofChange fnExactFourEachSpec)

/-- ITS FALSE NEIGHBOUR: 'it returns false'. Refute it at one input. -/
def fnExactFourEachWrong : ChangeSpec := { name := "fnExactFourEach", fn := fun _ => fun
  | [d] => { results := [.lit (.bool false)], args := [d] }
  | _ => none }
def FnExactFourEachWrongFalsely : Prop := fnExactFourEachRow.holds Try.pinned (OpenSpec.ofChange fnExactFourEachWrong)

/-- 'laws.FnExactFourFind': WHATEVER THE INPUT: true; the input reads as it did. -/
def fnExactFourFindSpec : ChangeSpec := { name := "fnExactFourFind", fn := fun _ => fun
  | [d] => { results := [.lit (.bool true)], args := [d] }
  | _ => none }
def fnExactFourFindRow : OpenClaim := { program := "ytdclmjmefkgbbaa", sum := "4c772c8ff717c1cf4e29541b471a1265031b0e17ca3dfddb5f68d289192bdd8c", func := "loop.example/localglobal/laws.FnExactFourFind", spec := "fnExactFourFind", recurses := true, apart := false }
def FnExactFourFindSaid : Prop := fnExactFourFindRow.holds Try.pinned (OpenSpec.ofChange fnExactFourFindSpec)

/-- ITS FALSE NEIGHBOUR: 'it returns false'. Refute it at one input. -/
def fnExactFourFindWrong : ChangeSpec := { name := "fnExactFourFind", fn := fun _ => fun
  | [d] => { results := [.lit (.bool false)], args := [d] }
  | _ => none }
def FnExactFourFindWrongFalsely : Prop := fnExactFourFindRow.holds Try.pinned (OpenSpec.ofChange fnExactFourFindWrong)

/-- 'laws.FnExactQuatValid': WHATEVER THE INPUT: true; the input reads as it did. -/
def fnExactQuatValidSpec : ChangeSpec := { name := "fnExactQuatValid", fn := fun _ => fun
  | [d] => { results := [.lit (.bool true)], args := [d] }
  | _ => none }
def fnExactQuatValidRow : OpenClaim := { program := "ytdclmjmefkgbbaa", sum := "4c772c8ff717c1cf4e29541b471a1265031b0e17ca3dfddb5f68d289192bdd8c", func := "loop.example/localglobal/laws.FnExactQuatValid", spec := "fnExactQuatValid", apart := false }
def FnExactQuatValidSaid : Prop := fnExactQuatValidRow.holds Try.pinned (OpenSpec.ofChange fnExactQuatValidSpec)

/-- ITS FALSE NEIGHBOUR: 'it returns false'. Refute it at one input. -/
def fnExactQuatValidWrong : ChangeSpec := { name := "fnExactQuatValid", fn := fun _ => fun
  | [d] => { results := [.lit (.bool false)], args := [d] }
  | _ => none }
def FnExactQuatValidWrongFalsely : Prop := fnExactQuatValidRow.holds Try.pinned (OpenSpec.ofChange fnExactQuatValidWrong)

/-- 'laws.FnExactQuatNorm': WHATEVER THE INPUT: true; the input reads as it did. -/
def fnExactQuatNormSpec : ChangeSpec := { name := "fnExactQuatNorm", fn := fun _ => fun
  | [d] => { results := [.lit (.bool true)], args := [d] }
  | _ => none }
def fnExactQuatNormRow : OpenClaim := { program := "ytdclmjmefkgbbaa", sum := "4c772c8ff717c1cf4e29541b471a1265031b0e17ca3dfddb5f68d289192bdd8c", func := "loop.example/localglobal/laws.FnExactQuatNorm", spec := "fnExactQuatNorm", apart := false }
def FnExactQuatNormSaid : Prop := fnExactQuatNormRow.holds Try.pinned (OpenSpec.ofChange fnExactQuatNormSpec)

/-- ITS FALSE NEIGHBOUR: 'it returns false'. Refute it at one input. -/
def fnExactQuatNormWrong : ChangeSpec := { name := "fnExactQuatNorm", fn := fun _ => fun
  | [d] => { results := [.lit (.bool false)], args := [d] }
  | _ => none }
def FnExactQuatNormWrongFalsely : Prop := fnExactQuatNormRow.holds Try.pinned (OpenSpec.ofChange fnExactQuatNormWrong)

/-- 'laws.FnExactQuatMul': WHATEVER THE INPUT: true; the input reads as it did. -/
def fnExactQuatMulSpec : ChangeSpec := { name := "fnExactQuatMul", fn := fun _ => fun
  | [d1, d2] => { results := [.lit (.bool true)], args := [d1, d2] }
  | _ => none }
def fnExactQuatMulRow : OpenClaim := { program := "ytdclmjmefkgbbaa", sum := "4c772c8ff717c1cf4e29541b471a1265031b0e17ca3dfddb5f68d289192bdd8c", func := "loop.example/localglobal/laws.FnExactQuatMul", spec := "fnExactQuatMul", apart := false }
def FnExactQuatMulSaid : Prop := fnExactQuatMulRow.holds Try.pinned (OpenSpec.ofChange fnExactQuatMulSpec)

/-- ITS FALSE NEIGHBOUR: 'it returns false'. Refute it at one input. -/
def fnExactQuatMulWrong : ChangeSpec := { name := "fnExactQuatMul", fn := fun _ => fun
  | [d1, d2] => { results := [.lit (.bool false)], args := [d1, d2] }
  | _ => none }
def FnExactQuatMulWrongFalsely : Prop := fnExactQuatMulRow.holds Try.pinned (OpenSpec.ofChange fnExactQuatMulWrong)

/-- 'laws.FnExactQuatConj': WHATEVER THE INPUT: true; the input reads as it did. -/
def fnExactQuatConjSpec : ChangeSpec := { name := "fnExactQuatConj", fn := fun _ => fun
  | [d] => { results := [.lit (.bool true)], args := [d] }
  | _ => none }
def fnExactQuatConjRow : OpenClaim := { program := "ytdclmjmefkgbbaa", sum := "4c772c8ff717c1cf4e29541b471a1265031b0e17ca3dfddb5f68d289192bdd8c", func := "loop.example/localglobal/laws.FnExactQuatConj", spec := "fnExactQuatConj", apart := false }
def FnExactQuatConjSaid : Prop := fnExactQuatConjRow.holds Try.pinned (OpenSpec.ofChange fnExactQuatConjSpec)

/-- ITS FALSE NEIGHBOUR: 'it returns false'. Refute it at one input. -/
def fnExactQuatConjWrong : ChangeSpec := { name := "fnExactQuatConj", fn := fun _ => fun
  | [d] => { results := [.lit (.bool false)], args := [d] }
  | _ => none }
def FnExactQuatConjWrongFalsely : Prop := fnExactQuatConjRow.holds Try.pinned (OpenSpec.ofChange fnExactQuatConjWrong)

/-- 'laws.FnExactQuatTurn': WHATEVER THE INPUT: true; the input reads as it did. -/
def fnExactQuatTurnSpec : ChangeSpec := { name := "fnExactQuatTurn", fn := fun _ => fun
  | [d1, d2] => { results := [.lit (.bool true)], args := [d1, d2] }
  | _ => none }
def fnExactQuatTurnRow : OpenClaim := { program := "ytdclmjmefkgbbaa", sum := "4c772c8ff717c1cf4e29541b471a1265031b0e17ca3dfddb5f68d289192bdd8c", func := "loop.example/localglobal/laws.FnExactQuatTurn", spec := "fnExactQuatTurn", apart := false }
def FnExactQuatTurnSaid : Prop := fnExactQuatTurnRow.holds Try.pinned (OpenSpec.ofChange fnExactQuatTurnSpec)

/-- ITS FALSE NEIGHBOUR: 'it returns false'. Refute it at one input. -/
def fnExactQuatTurnWrong : ChangeSpec := { name := "fnExactQuatTurn", fn := fun _ => fun
  | [d1, d2] => { results := [.lit (.bool false)], args := [d1, d2] }
  | _ => none }
def FnExactQuatTurnWrongFalsely : Prop := fnExactQuatTurnRow.holds Try.pinned (OpenSpec.ofChange fnExactQuatTurnWrong)

/- THE SECOND FORM. 'bulk': how many values and letters a reading holds, each counted each time it is reached (what is shared counts as often as it is met; a slice's spare places count too). A statement '..UptoSaid' is the law's where the arguments, and the package variables that the reading takes, are together of bulk at most 1048576: NARROWER than '..Said'. Prove '..Said' where nothing that the law and all that it calls make is longer than what came in: it says more and counts as full. Else prove '..UptoSaid'. A law counts once. -/
mutual
def uptoBulk {H : Type} : DataW H → Nat
  | .lit (.string bytes) => bytes.length + 1
  | .lit _ => 1
  | .nil => 1
  | .ptr d => uptoBulk d + 1
  | .slice elems spare => uptoBulkAll elems + uptoBulkAll spare + 1
  | .agg parts => uptoBulkAll parts + 1
  | .iface _ d => uptoBulk d + 1
  | .map entries => uptoBulkEntries entries + 1
  | .held _ => 1
def uptoBulkAll {H : Type} : List (DataW H) → Nat
  | [] => 0
  | d :: r => uptoBulk d + uptoBulkAll r
def uptoBulkEntries {H : Type} : List (Lit × DataW H) → Nat
  | [] => 0
  | x :: r => uptoBulkEntry x + uptoBulkEntries r
def uptoBulkEntry {H : Type} : Lit × DataW H → Nat
  | (.string bytes, d) => bytes.length + uptoBulk d + 1
  | (_, d) => uptoBulk d + 1
 end
def uptoSmall : (H : Type) → List (DataW H) → Bool := fun _ ds => decide (uptoBulkAll ds ≤ 1048576)
def OpenSpec.upto (s : _root_.Go.ChangeSpec) : _root_.Go.OpenSpec := { _root_.Go.OpenSpec.ofChange s with cond := some uptoSmall }

/-- 'laws.FnExactTwoIs', WHERE WHAT IT READS IS OF BULK AT MOST 1048576: true; the input reads as it did. -/
def fnExactTwoIsUptoRow : OpenClaim := { program := "ytdclmjmefkgbbaa", sum := "4c772c8ff717c1cf4e29541b471a1265031b0e17ca3dfddb5f68d289192bdd8c", func := "loop.example/localglobal/laws.FnExactTwoIs", spec := "fnExactTwoIs", unfollowed := true, recurses := true, apart := false, narrowed := true }
def FnExactTwoIsUptoSaid : Prop := fnExactTwoIsUptoRow.holds Try.pinned (OpenSpec.upto fnExactTwoIsSpec)

/-- 'laws.FnExactTwoFind', WHERE WHAT IT READS IS OF BULK AT MOST 1048576: true; the input reads as it did. -/
def fnExactTwoFindUptoRow : OpenClaim := { program := "ytdclmjmefkgbbaa", sum := "4c772c8ff717c1cf4e29541b471a1265031b0e17ca3dfddb5f68d289192bdd8c", func := "loop.example/localglobal/laws.FnExactTwoFind", spec := "fnExactTwoFind", recurses := true, apart := false, narrowed := true }
def FnExactTwoFindUptoSaid : Prop := fnExactTwoFindUptoRow.holds Try.pinned (OpenSpec.upto fnExactTwoFindSpec)

/-- 'laws.FnExactTwoMany', WHERE WHAT IT READS IS OF BULK AT MOST 1048576: true; the input reads as it did. -/
def fnExactTwoManyUptoRow : OpenClaim := { program := "ytdclmjmefkgbbaa", sum := "4c772c8ff717c1cf4e29541b471a1265031b0e17ca3dfddb5f68d289192bdd8c", func := "loop.example/localglobal/laws.FnExactTwoMany", spec := "fnExactTwoMany", unfollowed := true, recurses := true, apart := false, narrowed := true }
def FnExactTwoManyUptoSaid : Prop := fnExactTwoManyUptoRow.holds Try.pinned (OpenSpec.upto fnExactTwoManySpec)

/-- 'laws.FnExactTwoEach', WHERE WHAT IT READS IS OF BULK AT MOST 1048576: true; the input reads as it did. -/
def fnExactTwoEachUptoRow : OpenClaim := { program := "ytdclmjmefkgbbaa", sum := "4c772c8ff717c1cf4e29541b471a1265031b0e17ca3dfddb5f68d289192bdd8c", func := "loop.example/localglobal/laws.FnExactTwoEach", spec := "fnExactTwoEach", unfollowed := true, recurses := true, apart := false, narrowed := true }
def FnExactTwoEachUptoSaid : Prop := fnExactTwoEachUptoRow.holds Try.pinned (OpenSpec.upto fnExactTwoEachSpec)

/-- 'laws.FnExactThreeIs', WHERE WHAT IT READS IS OF BULK AT MOST 1048576: true; the input reads as it did. -/
def fnExactThreeIsUptoRow : OpenClaim := { program := "ytdclmjmefkgbbaa", sum := "4c772c8ff717c1cf4e29541b471a1265031b0e17ca3dfddb5f68d289192bdd8c", func := "loop.example/localglobal/laws.FnExactThreeIs", spec := "fnExactThreeIs", apart := false, narrowed := true }
def FnExactThreeIsUptoSaid : Prop := fnExactThreeIsUptoRow.holds Try.pinned (OpenSpec.upto fnExactThreeIsSpec)

/-- 'laws.FnExactThreeFind', WHERE WHAT IT READS IS OF BULK AT MOST 1048576: true; the input reads as it did. -/
def fnExactThreeFindUptoRow : OpenClaim := { program := "ytdclmjmefkgbbaa", sum := "4c772c8ff717c1cf4e29541b471a1265031b0e17ca3dfddb5f68d289192bdd8c", func := "loop.example/localglobal/laws.FnExactThreeFind", spec := "fnExactThreeFind", recurses := true, apart := false, narrowed := true }
def FnExactThreeFindUptoSaid : Prop := fnExactThreeFindUptoRow.holds Try.pinned (OpenSpec.upto fnExactThreeFindSpec)

/-- 'laws.FnExactFourMany', WHERE WHAT IT READS IS OF BULK AT MOST 1048576: true; the input reads as it did. -/
def fnExactFourManyUptoRow : OpenClaim := { program := "ytdclmjmefkgbbaa", sum := "4c772c8ff717c1cf4e29541b471a1265031b0e17ca3dfddb5f68d289192bdd8c", func := "loop.example/localglobal/laws.FnExactFourMany", spec := "fnExactFourMany", unfollowed := true, recurses := true, apart := false, narrowed := true }
def FnExactFourManyUptoSaid : Prop := fnExactFourManyUptoRow.holds Try.pinned (OpenSpec.upto fnExactFourManySpec)

/-- 'laws.FnExactFourEach', WHERE WHAT IT READS IS OF BULK AT MOST 1048576: true; the input reads as it did. -/
def fnExactFourEachUptoRow : OpenClaim := { program := "ytdclmjmefkgbbaa", sum := "4c772c8ff717c1cf4e29541b471a1265031b0e17ca3dfddb5f68d289192bdd8c", func := "loop.example/localglobal/laws.FnExactFourEach", spec := "fnExactFourEach", unfollowed := true, recurses := true, apart := false, narrowed := true }
def FnExactFourEachUptoSaid : Prop := fnExactFourEachUptoRow.holds Try.pinned (OpenSpec.upto fnExactFourEachSpec)

/-- 'laws.FnExactFourFind', WHERE WHAT IT READS IS OF BULK AT MOST 1048576: true; the input reads as it did. -/
def fnExactFourFindUptoRow : OpenClaim := { program := "ytdclmjmefkgbbaa", sum := "4c772c8ff717c1cf4e29541b471a1265031b0e17ca3dfddb5f68d289192bdd8c", func := "loop.example/localglobal/laws.FnExactFourFind", spec := "fnExactFourFind", recurses := true, apart := false, narrowed := true }
def FnExactFourFindUptoSaid : Prop := fnExactFourFindUptoRow.holds Try.pinned (OpenSpec.upto fnExactFourFindSpec)

/-- 'laws.FnExactQuatValid', WHERE WHAT IT READS IS OF BULK AT MOST 1048576: true; the input reads as it did. -/
def fnExactQuatValidUptoRow : OpenClaim := { program := "ytdclmjmefkgbbaa", sum := "4c772c8ff717c1cf4e29541b471a1265031b0e17ca3dfddb5f68d289192bdd8c", func := "loop.example/localglobal/laws.FnExactQuatValid", spec := "fnExactQuatValid", apart := false, narrowed := true }
def FnExactQuatValidUptoSaid : Prop := fnExactQuatValidUptoRow.holds Try.pinned (OpenSpec.upto fnExactQuatValidSpec)

/-- 'laws.FnExactQuatNorm', WHERE WHAT IT READS IS OF BULK AT MOST 1048576: true; the input reads as it did. -/
def fnExactQuatNormUptoRow : OpenClaim := { program := "ytdclmjmefkgbbaa", sum := "4c772c8ff717c1cf4e29541b471a1265031b0e17ca3dfddb5f68d289192bdd8c", func := "loop.example/localglobal/laws.FnExactQuatNorm", spec := "fnExactQuatNorm", apart := false, narrowed := true }
def FnExactQuatNormUptoSaid : Prop := fnExactQuatNormUptoRow.holds Try.pinned (OpenSpec.upto fnExactQuatNormSpec)

/-- 'laws.FnExactQuatMul', WHERE WHAT IT READS IS OF BULK AT MOST 1048576: true; the input reads as it did. -/
def fnExactQuatMulUptoRow : OpenClaim := { program := "ytdclmjmefkgbbaa", sum := "4c772c8ff717c1cf4e29541b471a1265031b0e17ca3dfddb5f68d289192bdd8c", func := "loop.example/localglobal/laws.FnExactQuatMul", spec := "fnExactQuatMul", apart := false, narrowed := true }
def FnExactQuatMulUptoSaid : Prop := fnExactQuatMulUptoRow.holds Try.pinned (OpenSpec.upto fnExactQuatMulSpec)

/-- 'laws.FnExactQuatConj', WHERE WHAT IT READS IS OF BULK AT MOST 1048576: true; the input reads as it did. -/
def fnExactQuatConjUptoRow : OpenClaim := { program := "ytdclmjmefkgbbaa", sum := "4c772c8ff717c1cf4e29541b471a1265031b0e17ca3dfddb5f68d289192bdd8c", func := "loop.example/localglobal/laws.FnExactQuatConj", spec := "fnExactQuatConj", apart := false, narrowed := true }
def FnExactQuatConjUptoSaid : Prop := fnExactQuatConjUptoRow.holds Try.pinned (OpenSpec.upto fnExactQuatConjSpec)

/-- 'laws.FnExactQuatTurn', WHERE WHAT IT READS IS OF BULK AT MOST 1048576: true; the input reads as it did. -/
def fnExactQuatTurnUptoRow : OpenClaim := { program := "ytdclmjmefkgbbaa", sum := "4c772c8ff717c1cf4e29541b471a1265031b0e17ca3dfddb5f68d289192bdd8c", func := "loop.example/localglobal/laws.FnExactQuatTurn", spec := "fnExactQuatTurn", apart := false, narrowed := true }
def FnExactQuatTurnUptoSaid : Prop := fnExactQuatTurnUptoRow.holds Try.pinned (OpenSpec.upto fnExactQuatTurnSpec)

end Rows
end Go.Proofs.Ytdclmjmefkgbbaa
