/-
  No cell of these rows narrows 'for every input' (looked for: loops, veiled, ifaces, maps, wideKeys, modest, calm, conditions, laid).
  DERIVED. THE GIVEN ROWS OF THIS SEAT. 12 by the template 'for every input the law returns true; each argument reads behind the call as it read before'; 0 by the template 'total and deterministic' (their statements: YtdclmjmefkgbbabTotals.lean).
  GIVEN WITH THE SEED: the statements are not yours to turn. If you find one false, say at which input.
  Laid BY PROGRAM, IN A SANDBOX (cutbox-rows.mjs): the forced cells as the released guide's own fill.sh prints them over the translation 8fcb7aa85175564d… (all of the seat's roots in one cut). By AI agents, Wed Nov 11 2026. No macro, syntax, notation, axiom, sorry.
-/
import Derived.Test.YtdclmjmefkgbbabChecked
import GoSem.Claim
import GoSem.ClaimJoined
import GoSem.ClaimMapViews
import Derived.JoinedTies
import Derived.KernelRfl
namespace Go.Proofs.Ytdclmjmefkgbbab
/- THE CELL 'sum', in the pinned program and in every row, IS THE sha256 OF THE DUMP (.gsa) THAT YtdclmjmefkgbbabProg.lean LOADS. Nothing in Lean hashes anything: it is a label: what it is worth is what the hold of that sum in a sandbox is worth. -/
noncomputable def Try.pinned : Pinned := { name := "ytdclmjmefkgbbab", sum := "8fcb7aa85175564d87632df39835517aab0805b353b09573deaaf4c31b081617", checked := Try.checked }
namespace Rows
def none {H : Type} : Left H := { results := [], args := [] }

/-- 'laws.FnTwoIs': WHATEVER THE INPUT: true; the input reads as it did. -/
def fnTwoIsSpec : ChangeSpec := { name := "fnTwoIs", fn := fun _ => fun
  | [d] => { results := [.lit (.bool true)], args := [d] }
  | _ => none }
def fnTwoIsRow : OpenClaim := { program := "ytdclmjmefkgbbab", sum := "8fcb7aa85175564d87632df39835517aab0805b353b09573deaaf4c31b081617", func := "loop.example/localglobal/laws.FnTwoIs", spec := "fnTwoIs", unfollowed := true, recurses := true, apart := false }
def FnTwoIsSaid : Prop := fnTwoIsRow.holds Try.pinned (OpenSpec.ofChange fnTwoIsSpec)

/-- ITS FALSE NEIGHBOUR: 'it returns false'. Refute it at one input. -/
def fnTwoIsWrong : ChangeSpec := { name := "fnTwoIs", fn := fun _ => fun
  | [d] => { results := [.lit (.bool false)], args := [d] }
  | _ => none }
def FnTwoIsWrongFalsely : Prop := fnTwoIsRow.holds Try.pinned (OpenSpec.ofChange fnTwoIsWrong)

/-- 'laws.FnTwoFind': WHATEVER THE INPUT: true; the input reads as it did. -/
def fnTwoFindSpec : ChangeSpec := { name := "fnTwoFind", fn := fun _ => fun
  | [d] => { results := [.lit (.bool true)], args := [d] }
  | _ => none }
def fnTwoFindRow : OpenClaim := { program := "ytdclmjmefkgbbab", sum := "8fcb7aa85175564d87632df39835517aab0805b353b09573deaaf4c31b081617", func := "loop.example/localglobal/laws.FnTwoFind", spec := "fnTwoFind", unfollowed := true, recurses := true, apart := false }
def FnTwoFindSaid : Prop := fnTwoFindRow.holds Try.pinned (OpenSpec.ofChange fnTwoFindSpec)

/-- ITS FALSE NEIGHBOUR: 'it returns false'. Refute it at one input. -/
def fnTwoFindWrong : ChangeSpec := { name := "fnTwoFind", fn := fun _ => fun
  | [d] => { results := [.lit (.bool false)], args := [d] }
  | _ => none }
def FnTwoFindWrongFalsely : Prop := fnTwoFindRow.holds Try.pinned (OpenSpec.ofChange fnTwoFindWrong)

/-- 'laws.FnTwoMany': WHATEVER THE INPUT: true; the input reads as it did. -/
def fnTwoManySpec : ChangeSpec := { name := "fnTwoMany", fn := fun _ => fun
  | [d] => { results := [.lit (.bool true)], args := [d] }
  | _ => none }
def fnTwoManyRow : OpenClaim := { program := "ytdclmjmefkgbbab", sum := "8fcb7aa85175564d87632df39835517aab0805b353b09573deaaf4c31b081617", func := "loop.example/localglobal/laws.FnTwoMany", spec := "fnTwoMany", unfollowed := true, recurses := true, apart := false }
def FnTwoManySaid : Prop := fnTwoManyRow.holds Try.pinned (OpenSpec.ofChange fnTwoManySpec)

/-- ITS FALSE NEIGHBOUR: 'it returns false'. Refute it at one input. -/
def fnTwoManyWrong : ChangeSpec := { name := "fnTwoMany", fn := fun _ => fun
  | [d] => { results := [.lit (.bool false)], args := [d] }
  | _ => none }
def FnTwoManyWrongFalsely : Prop := fnTwoManyRow.holds Try.pinned (OpenSpec.ofChange fnTwoManyWrong)

/-- 'laws.FnThreeIs': WHATEVER THE INPUT: true; the input reads as it did. -/
def fnThreeIsSpec : ChangeSpec := { name := "fnThreeIs", fn := fun _ => fun
  | [d] => { results := [.lit (.bool true)], args := [d] }
  | _ => none }
def fnThreeIsRow : OpenClaim := { program := "ytdclmjmefkgbbab", sum := "8fcb7aa85175564d87632df39835517aab0805b353b09573deaaf4c31b081617", func := "loop.example/localglobal/laws.FnThreeIs", spec := "fnThreeIs", unfollowed := true, recurses := true, apart := false }
def FnThreeIsSaid : Prop := fnThreeIsRow.holds Try.pinned (OpenSpec.ofChange fnThreeIsSpec)

/-- ITS FALSE NEIGHBOUR: 'it returns false'. Refute it at one input. -/
def fnThreeIsWrong : ChangeSpec := { name := "fnThreeIs", fn := fun _ => fun
  | [d] => { results := [.lit (.bool false)], args := [d] }
  | _ => none }
def FnThreeIsWrongFalsely : Prop := fnThreeIsRow.holds Try.pinned (OpenSpec.ofChange fnThreeIsWrong)

/-- 'laws.FnThreeFind': WHATEVER THE INPUT: true; the input reads as it did. -/
def fnThreeFindSpec : ChangeSpec := { name := "fnThreeFind", fn := fun _ => fun
  | [d] => { results := [.lit (.bool true)], args := [d] }
  | _ => none }
def fnThreeFindRow : OpenClaim := { program := "ytdclmjmefkgbbab", sum := "8fcb7aa85175564d87632df39835517aab0805b353b09573deaaf4c31b081617", func := "loop.example/localglobal/laws.FnThreeFind", spec := "fnThreeFind", recurses := true, apart := false }
def FnThreeFindSaid : Prop := fnThreeFindRow.holds Try.pinned (OpenSpec.ofChange fnThreeFindSpec)

/-- ITS FALSE NEIGHBOUR: 'it returns false'. Refute it at one input. -/
def fnThreeFindWrong : ChangeSpec := { name := "fnThreeFind", fn := fun _ => fun
  | [d] => { results := [.lit (.bool false)], args := [d] }
  | _ => none }
def FnThreeFindWrongFalsely : Prop := fnThreeFindRow.holds Try.pinned (OpenSpec.ofChange fnThreeFindWrong)

/-- 'laws.FnFourMany': WHATEVER THE INPUT: true; the input reads as it did. -/
def fnFourManySpec : ChangeSpec := { name := "fnFourMany", fn := fun _ => fun
  | [d] => { results := [.lit (.bool true)], args := [d] }
  | _ => none }
def fnFourManyRow : OpenClaim := { program := "ytdclmjmefkgbbab", sum := "8fcb7aa85175564d87632df39835517aab0805b353b09573deaaf4c31b081617", func := "loop.example/localglobal/laws.FnFourMany", spec := "fnFourMany", unfollowed := true, recurses := true, apart := false }
def FnFourManySaid : Prop := fnFourManyRow.holds Try.pinned (OpenSpec.ofChange fnFourManySpec)

/-- ITS FALSE NEIGHBOUR: 'it returns false'. Refute it at one input. -/
def fnFourManyWrong : ChangeSpec := { name := "fnFourMany", fn := fun _ => fun
  | [d] => { results := [.lit (.bool false)], args := [d] }
  | _ => none }
def FnFourManyWrongFalsely : Prop := fnFourManyRow.holds Try.pinned (OpenSpec.ofChange fnFourManyWrong)

/-- 'laws.FnFourEach': WHATEVER THE INPUT: true; the input reads as it did. -/
def fnFourEachSpec : ChangeSpec := { name := "fnFourEach", fn := fun _ => fun
  | [d] => { results := [.lit (.bool true)], args := [d] }
  | _ => none }
def fnFourEachRow : OpenClaim := { program := "ytdclmjmefkgbbab", sum := "8fcb7aa85175564d87632df39835517aab0805b353b09573deaaf4c31b081617", func := "loop.example/localglobal/laws.FnFourEach", spec := "fnFourEach", unfollowed := true, recurses := true, apart := false }
def FnFourEachSaid : Prop := fnFourEachRow.holds Try.pinned (OpenSpec.ofChange fnFourEachSpec)

/-- ITS FALSE NEIGHBOUR: 'it returns false'. Refute it at one input. -/
def fnFourEachWrong : ChangeSpec := { name := "fnFourEach", fn := fun _ => fun
  | [d] => { results := [.lit (.bool false)], args := [d] }
  | _ => none }
def FnFourEachWrongFalsely : Prop := fnFourEachRow.holds Try.pinned (OpenSpec.ofChange fnFourEachWrong)

/-- 'laws.FnFourFind': WHATEVER THE INPUT: true; the input reads as it did. -/
def fnFourFindSpec : ChangeSpec := { name := "fnFourFind", fn := fun _ => fun
  | [d] => { results := [.lit (.bool true)], args := [d] }
  | _ => none }
def fnFourFindRow : OpenClaim := { program := "ytdclmjmefkgbbab", sum := "8fcb7aa85175564d87632df39835517aab0805b353b09573deaaf4c31b081617", func := "loop.example/localglobal/laws.FnFourFind", spec := "fnFourFind", recurses := true, apart := false }
def FnFourFindSaid : Prop := fnFourFindRow.holds Try.pinned (OpenSpec.ofChange fnFourFindSpec)

/-- ITS FALSE NEIGHBOUR: 'it returns false'. Refute it at one input. -/
def fnFourFindWrong : ChangeSpec := { name := "fnFourFind", fn := fun _ => fun
  | [d] => { results := [.lit (.bool false)], args := [d] }
  | _ => none }
def FnFourFindWrongFalsely : Prop := fnFourFindRow.holds Try.pinned (OpenSpec.ofChange fnFourFindWrong)

/-- 'laws.FnQuatNorm': WHATEVER THE INPUT: true; the input reads as it did. -/
def fnQuatNormSpec : ChangeSpec := { name := "fnQuatNorm", fn := fun _ => fun
  | [d] => { results := [.lit (.bool true)], args := [d] }
  | _ => none }
def fnQuatNormRow : OpenClaim := { program := "ytdclmjmefkgbbab", sum := "8fcb7aa85175564d87632df39835517aab0805b353b09573deaaf4c31b081617", func := "loop.example/localglobal/laws.FnQuatNorm", spec := "fnQuatNorm", apart := false }
def FnQuatNormSaid : Prop := fnQuatNormRow.holds Try.pinned (OpenSpec.ofChange fnQuatNormSpec)

/-- ITS FALSE NEIGHBOUR: 'it returns false'. Refute it at one input. -/
def fnQuatNormWrong : ChangeSpec := { name := "fnQuatNorm", fn := fun _ => fun
  | [d] => { results := [.lit (.bool false)], args := [d] }
  | _ => none }
def FnQuatNormWrongFalsely : Prop := fnQuatNormRow.holds Try.pinned (OpenSpec.ofChange fnQuatNormWrong)

/-- 'laws.FnQuatMul': WHATEVER THE INPUT: true; the input reads as it did. -/
def fnQuatMulSpec : ChangeSpec := { name := "fnQuatMul", fn := fun _ => fun
  | [d1, d2] => { results := [.lit (.bool true)], args := [d1, d2] }
  | _ => none }
def fnQuatMulRow : OpenClaim := { program := "ytdclmjmefkgbbab", sum := "8fcb7aa85175564d87632df39835517aab0805b353b09573deaaf4c31b081617", func := "loop.example/localglobal/laws.FnQuatMul", spec := "fnQuatMul", apart := false }
def FnQuatMulSaid : Prop := fnQuatMulRow.holds Try.pinned (OpenSpec.ofChange fnQuatMulSpec)

/-- ITS FALSE NEIGHBOUR: 'it returns false'. Refute it at one input. -/
def fnQuatMulWrong : ChangeSpec := { name := "fnQuatMul", fn := fun _ => fun
  | [d1, d2] => { results := [.lit (.bool false)], args := [d1, d2] }
  | _ => none }
def FnQuatMulWrongFalsely : Prop := fnQuatMulRow.holds Try.pinned (OpenSpec.ofChange fnQuatMulWrong)

/-- 'laws.FnConj': WHATEVER THE INPUT: true; the input reads as it did. -/
def fnConjSpec : ChangeSpec := { name := "fnConj", fn := fun _ => fun
  | [d] => { results := [.lit (.bool true)], args := [d] }
  | _ => none }
def fnConjRow : OpenClaim := { program := "ytdclmjmefkgbbab", sum := "8fcb7aa85175564d87632df39835517aab0805b353b09573deaaf4c31b081617", func := "loop.example/localglobal/laws.FnConj", spec := "fnConj", apart := false }
def FnConjSaid : Prop := fnConjRow.holds Try.pinned (OpenSpec.ofChange fnConjSpec)

/-- ITS FALSE NEIGHBOUR: 'it returns false'. Refute it at one input. -/
def fnConjWrong : ChangeSpec := { name := "fnConj", fn := fun _ => fun
  | [d] => { results := [.lit (.bool false)], args := [d] }
  | _ => none }
def FnConjWrongFalsely : Prop := fnConjRow.holds Try.pinned (OpenSpec.ofChange fnConjWrong)

/-- 'laws.FnTurn': WHATEVER THE INPUT: true; the input reads as it did. -/
def fnTurnSpec : ChangeSpec := { name := "fnTurn", fn := fun _ => fun
  | [d] => { results := [.lit (.bool true)], args := [d] }
  | _ => none }
def fnTurnRow : OpenClaim := { program := "ytdclmjmefkgbbab", sum := "8fcb7aa85175564d87632df39835517aab0805b353b09573deaaf4c31b081617", func := "loop.example/localglobal/laws.FnTurn", spec := "fnTurn", apart := false }
def FnTurnSaid : Prop := fnTurnRow.holds Try.pinned (OpenSpec.ofChange fnTurnSpec)

/-- ITS FALSE NEIGHBOUR: 'it returns false'. Refute it at one input. -/
def fnTurnWrong : ChangeSpec := { name := "fnTurn", fn := fun _ => fun
  | [d] => { results := [.lit (.bool false)], args := [d] }
  | _ => none }
def FnTurnWrongFalsely : Prop := fnTurnRow.holds Try.pinned (OpenSpec.ofChange fnTurnWrong)

/- THE SECOND FORM. 'bulk': how many values and letters a reading holds, each counted each time it is reached (what is shared counts as often as it is met; a slice's spare places count too). A statement '..UptoSaid' is the law's where the arguments, and the package variables that the reading takes, are together of bulk at most 1048576: NARROWER than '..Said'. Prove '..Said' where nothing that the law and all that it calls make is longer than what came in: it says more and counts as full. Else prove '..UptoSaid'. A law counts once. -/
mutual
def uptoBulk {H : Type} : DataW H → Nat
  | .lit (.string bytes) => bytes.length + 1
  | .lit _ => 1
  | .nil => 1
  | .ptr d => uptoBulk d + 1
  | .slice elems spare => uptoBulkAll elems + uptoBulkAll spare + 1
  | .agg parts => uptoBulkAll parts + 1
  | .iface _ d => uptoBulk d + 1
  | .map entries => uptoBulkEntries entries + 1
  | .held _ => 1
def uptoBulkAll {H : Type} : List (DataW H) → Nat
  | [] => 0
  | d :: r => uptoBulk d + uptoBulkAll r
def uptoBulkEntries {H : Type} : List (Lit × DataW H) → Nat
  | [] => 0
  | x :: r => uptoBulkEntry x + uptoBulkEntries r
def uptoBulkEntry {H : Type} : Lit × DataW H → Nat
  | (.string bytes, d) => bytes.length + uptoBulk d + 1
  | (_, d) => uptoBulk d + 1
 end
def uptoSmall : (H : Type) → List (DataW H) → Bool := fun _ ds => decide (uptoBulkAll ds ≤ 1048576)
def OpenSpec.upto (s : _root_.Go.ChangeSpec) : _root_.Go.OpenSpec := { _root_.Go.OpenSpec.ofChange s with cond := some uptoSmall }

/-- 'laws.FnTwoIs', WHERE WHAT IT READS IS OF BULK AT MOST 1048576: true; the input reads as it did. -/
def fnTwoIsUptoRow : OpenClaim := { program := "ytdclmjmefkgbbab", sum := "8fcb7aa85175564d87632df39835517aab0805b353b09573deaaf4c31b081617", func := "loop.example/localglobal/laws.FnTwoIs", spec := "fnTwoIs", unfollowed := true, recurses := true, apart := false, narrowed := true }
def FnTwoIsUptoSaid : Prop := fnTwoIsUptoRow.holds Try.pinned (OpenSpec.upto fnTwoIsSpec)

/-- 'laws.FnTwoFind', WHERE WHAT IT READS IS OF BULK AT MOST 1048576: true; the input reads as it did. -/
def fnTwoFindUptoRow : OpenClaim := { program := "ytdclmjmefkgbbab", sum := "8fcb7aa85175564d87632df39835517aab0805b353b09573deaaf4c31b081617", func := "loop.example/localglobal/laws.FnTwoFind", spec := "fnTwoFind", unfollowed := true, recurses := true, apart := false, narrowed := true }
def FnTwoFindUptoSaid : Prop := fnTwoFindUptoRow.holds Try.pinned (OpenSpec.upto fnTwoFindSpec)

/-- 'laws.FnTwoMany', WHERE WHAT IT READS IS OF BULK AT MOST 1048576: true; the input reads as it did. -/
def fnTwoManyUptoRow : OpenClaim := { program := "ytdclmjmefkgbbab", sum := "8fcb7aa85175564d87632df39835517aab0805b353b09573deaaf4c31b081617", func := "loop.example/localglobal/laws.FnTwoMany", spec := "fnTwoMany", unfollowed := true, recurses := true, apart := false, narrowed := true }
def FnTwoManyUptoSaid : Prop := fnTwoManyUptoRow.holds Try.pinned (OpenSpec.upto fnTwoManySpec)

/-- 'laws.FnThreeIs', WHERE WHAT IT READS IS OF BULK AT MOST 1048576: true; the input reads as it did. -/
def fnThreeIsUptoRow : OpenClaim := { program := "ytdclmjmefkgbbab", sum := "8fcb7aa85175564d87632df39835517aab0805b353b09573deaaf4c31b081617", func := "loop.example/localglobal/laws.FnThreeIs", spec := "fnThreeIs", unfollowed := true, recurses := true, apart := false, narrowed := true }
def FnThreeIsUptoSaid : Prop := fnThreeIsUptoRow.holds Try.pinned (OpenSpec.upto fnThreeIsSpec)

/-- 'laws.FnThreeFind', WHERE WHAT IT READS IS OF BULK AT MOST 1048576: true; the input reads as it did. -/
def fnThreeFindUptoRow : OpenClaim := { program := "ytdclmjmefkgbbab", sum := "8fcb7aa85175564d87632df39835517aab0805b353b09573deaaf4c31b081617", func := "loop.example/localglobal/laws.FnThreeFind", spec := "fnThreeFind", recurses := true, apart := false, narrowed := true }
def FnThreeFindUptoSaid : Prop := fnThreeFindUptoRow.holds Try.pinned (OpenSpec.upto fnThreeFindSpec)

/-- 'laws.FnFourMany', WHERE WHAT IT READS IS OF BULK AT MOST 1048576: true; the input reads as it did. -/
def fnFourManyUptoRow : OpenClaim := { program := "ytdclmjmefkgbbab", sum := "8fcb7aa85175564d87632df39835517aab0805b353b09573deaaf4c31b081617", func := "loop.example/localglobal/laws.FnFourMany", spec := "fnFourMany", unfollowed := true, recurses := true, apart := false, narrowed := true }
def FnFourManyUptoSaid : Prop := fnFourManyUptoRow.holds Try.pinned (OpenSpec.upto fnFourManySpec)

/-- 'laws.FnFourEach', WHERE WHAT IT READS IS OF BULK AT MOST 1048576: true; the input reads as it did. -/
def fnFourEachUptoRow : OpenClaim := { program := "ytdclmjmefkgbbab", sum := "8fcb7aa85175564d87632df39835517aab0805b353b09573deaaf4c31b081617", func := "loop.example/localglobal/laws.FnFourEach", spec := "fnFourEach", unfollowed := true, recurses := true, apart := false, narrowed := true }
def FnFourEachUptoSaid : Prop := fnFourEachUptoRow.holds Try.pinned (OpenSpec.upto fnFourEachSpec)

/-- 'laws.FnFourFind', WHERE WHAT IT READS IS OF BULK AT MOST 1048576: true; the input reads as it did. -/
def fnFourFindUptoRow : OpenClaim := { program := "ytdclmjmefkgbbab", sum := "8fcb7aa85175564d87632df39835517aab0805b353b09573deaaf4c31b081617", func := "loop.example/localglobal/laws.FnFourFind", spec := "fnFourFind", recurses := true, apart := false, narrowed := true }
def FnFourFindUptoSaid : Prop := fnFourFindUptoRow.holds Try.pinned (OpenSpec.upto fnFourFindSpec)

/-- 'laws.FnQuatNorm', WHERE WHAT IT READS IS OF BULK AT MOST 1048576: true; the input reads as it did. -/
def fnQuatNormUptoRow : OpenClaim := { program := "ytdclmjmefkgbbab", sum := "8fcb7aa85175564d87632df39835517aab0805b353b09573deaaf4c31b081617", func := "loop.example/localglobal/laws.FnQuatNorm", spec := "fnQuatNorm", apart := false, narrowed := true }
def FnQuatNormUptoSaid : Prop := fnQuatNormUptoRow.holds Try.pinned (OpenSpec.upto fnQuatNormSpec)

/-- 'laws.FnQuatMul', WHERE WHAT IT READS IS OF BULK AT MOST 1048576: true; the input reads as it did. -/
def fnQuatMulUptoRow : OpenClaim := { program := "ytdclmjmefkgbbab", sum := "8fcb7aa85175564d87632df39835517aab0805b353b09573deaaf4c31b081617", func := "loop.example/localglobal/laws.FnQuatMul", spec := "fnQuatMul", apart := false, narrowed := true }
def FnQuatMulUptoSaid : Prop := fnQuatMulUptoRow.holds Try.pinned (OpenSpec.upto fnQuatMulSpec)

/-- 'laws.FnConj', WHERE WHAT IT READS IS OF BULK AT MOST 1048576: true; the input reads as it did. -/
def fnConjUptoRow : OpenClaim := { program := "ytdclmjmefkgbbab", sum := "8fcb7aa85175564d87632df39835517aab0805b353b09573deaaf4c31b081617", func := "loop.example/localglobal/laws.FnConj", spec := "fnConj", apart := false, narrowed := true }
def FnConjUptoSaid : Prop := fnConjUptoRow.holds Try.pinned (OpenSpec.upto fnConjSpec)

/-- 'laws.FnTurn', WHERE WHAT IT READS IS OF BULK AT MOST 1048576: true; the input reads as it did. -/
def fnTurnUptoRow : OpenClaim := { program := "ytdclmjmefkgbbab", sum := "8fcb7aa85175564d87632df39835517aab0805b353b09573deaaf4c31b081617", func := "loop.example/localglobal/laws.FnTurn", spec := "fnTurn", apart := false, narrowed := true }
def FnTurnUptoSaid : Prop := fnTurnUptoRow.holds Try.pinned (OpenSpec.upto fnTurnSpec)

end Rows
end Go.Proofs.Ytdclmjmefkgbbab
