/-
  No cell of these rows narrows 'for every input' (looked for: loops, veiled, ifaces, maps, wideKeys, modest, calm, conditions, laid).
  DERIVED. THE GIVEN ROWS OF THIS SEAT. 10 by the template 'for every input the law returns true; each argument reads behind the call as it read before'; 0 by the template 'total and deterministic' (their statements: YtjabklpnohfjpabTotals.lean).
  GIVEN WITH THE SEED: the statements are not yours to turn. If you find one false, say at which input.
  Laid BY PROGRAM, IN A SANDBOX (cutbox-rows.mjs): the forced cells as the released guide's own fill.sh prints them over the translation f8268832a5093b7f… (all of the seat's roots in one cut). By AI agents, Wed Nov 11 2026. No macro, syntax, notation, axiom, sorry.
-/
import Derived.Test.YtjabklpnohfjpabChecked
import GoSem.Claim
import GoSem.ClaimJoined
import GoSem.ClaimMapViews
import Derived.JoinedTies
import Derived.KernelRfl
namespace Go.Proofs.Ytjabklpnohfjpab
/- THE CELL 'sum', in the pinned program and in every row, IS THE sha256 OF THE DUMP (.gsa) THAT YtjabklpnohfjpabProg.lean LOADS. Nothing in Lean hashes anything: it is a label: what it is worth is what the hold of that sum in a sandbox is worth. -/
noncomputable def Try.pinned : Pinned := { name := "ytjabklpnohfjpab", sum := "f8268832a5093b7f8ce8ea68e63458918951a5a3b291104240c117d8ebaf85bf", checked := Try.checked }
namespace Rows
def none {H : Type} : Left H := { results := [], args := [] }

/-- 'laws.FnExactMoveValid': WHATEVER THE INPUT: true; the input reads as it did. -/
def fnExactMoveValidSpec : ChangeSpec := { name := "fnExactMoveValid", fn := fun _ => fun
  | [d1, d2] => { results := [.lit (.bool true)], args := [d1, d2] }
  | _ => none }
def fnExactMoveValidRow : OpenClaim := { program := "ytjabklpnohfjpab", sum := "f8268832a5093b7f8ce8ea68e63458918951a5a3b291104240c117d8ebaf85bf", func := "loop.example/localglobal/laws.FnExactMoveValid", spec := "fnExactMoveValid", apart := false }
def FnExactMoveValidSaid : Prop := fnExactMoveValidRow.holds Try.pinned (OpenSpec.ofChange fnExactMoveValidSpec)

/-- ITS FALSE NEIGHBOUR: 'it returns false'. Refute it at one input. -/
def fnExactMoveValidWrong : ChangeSpec := { name := "fnExactMoveValid", fn := fun _ => fun
  | [d1, d2] => { results := [.lit (.bool false)], args := [d1, d2] }
  | _ => none }
def FnExactMoveValidWrongFalsely : Prop := fnExactMoveValidRow.holds Try.pinned (OpenSpec.ofChange fnExactMoveValidWrong)

/-- 'laws.FnExactMoveStay': WHATEVER THE INPUT: true; the input reads as it did. -/
def fnExactMoveStaySpec : ChangeSpec := { name := "fnExactMoveStay", fn := fun _ => fun
  | [d] => { results := [.lit (.bool true)], args := [d] }
  | _ => none }
def fnExactMoveStayRow : OpenClaim := { program := "ytjabklpnohfjpab", sum := "f8268832a5093b7f8ce8ea68e63458918951a5a3b291104240c117d8ebaf85bf", func := "loop.example/localglobal/laws.FnExactMoveStay", spec := "fnExactMoveStay", unfollowed := true, recurses := true, apart := false }
def FnExactMoveStaySaid : Prop := fnExactMoveStayRow.holds Try.pinned (OpenSpec.ofChange fnExactMoveStaySpec)

/-- ITS FALSE NEIGHBOUR: 'it returns false'. Refute it at one input. -/
def fnExactMoveStayWrong : ChangeSpec := { name := "fnExactMoveStay", fn := fun _ => fun
  | [d] => { results := [.lit (.bool false)], args := [d] }
  | _ => none }
def FnExactMoveStayWrongFalsely : Prop := fnExactMoveStayRow.holds Try.pinned (OpenSpec.ofChange fnExactMoveStayWrong)

/-- 'laws.FnExactMoveMirror': WHATEVER THE INPUT: true; the input reads as it did. -/
def fnExactMoveMirrorSpec : ChangeSpec := { name := "fnExactMoveMirror", fn := fun _ => fun
  | [d1, d2] => { results := [.lit (.bool true)], args := [d1, d2] }
  | _ => none }
def fnExactMoveMirrorRow : OpenClaim := { program := "ytjabklpnohfjpab", sum := "f8268832a5093b7f8ce8ea68e63458918951a5a3b291104240c117d8ebaf85bf", func := "loop.example/localglobal/laws.FnExactMoveMirror", spec := "fnExactMoveMirror", unfollowed := true, recurses := true, apart := false }
def FnExactMoveMirrorSaid : Prop := fnExactMoveMirrorRow.holds Try.pinned (OpenSpec.ofChange fnExactMoveMirrorSpec)

/-- ITS FALSE NEIGHBOUR: 'it returns false'. Refute it at one input. -/
def fnExactMoveMirrorWrong : ChangeSpec := { name := "fnExactMoveMirror", fn := fun _ => fun
  | [d1, d2] => { results := [.lit (.bool false)], args := [d1, d2] }
  | _ => none }
def FnExactMoveMirrorWrongFalsely : Prop := fnExactMoveMirrorRow.holds Try.pinned (OpenSpec.ofChange fnExactMoveMirrorWrong)

/-- 'laws.FnExactMoveMul': WHATEVER THE INPUT: true; the input reads as it did. -/
def fnExactMoveMulSpec : ChangeSpec := { name := "fnExactMoveMul", fn := fun _ => fun
  | [d1, d2, d3] => { results := [.lit (.bool true)], args := [d1, d2, d3] }
  | _ => none }
def fnExactMoveMulRow : OpenClaim := { program := "ytjabklpnohfjpab", sum := "f8268832a5093b7f8ce8ea68e63458918951a5a3b291104240c117d8ebaf85bf", func := "loop.example/localglobal/laws.FnExactMoveMul", spec := "fnExactMoveMul", unfollowed := true, recurses := true, apart := false }
def FnExactMoveMulSaid : Prop := fnExactMoveMulRow.holds Try.pinned (OpenSpec.ofChange fnExactMoveMulSpec)

/-- ITS FALSE NEIGHBOUR: 'it returns false'. Refute it at one input. -/
def fnExactMoveMulWrong : ChangeSpec := { name := "fnExactMoveMul", fn := fun _ => fun
  | [d1, d2, d3] => { results := [.lit (.bool false)], args := [d1, d2, d3] }
  | _ => none }
def FnExactMoveMulWrongFalsely : Prop := fnExactMoveMulRow.holds Try.pinned (OpenSpec.ofChange fnExactMoveMulWrong)

/-- 'laws.FnExactMoveBack': WHATEVER THE INPUT: true; the input reads as it did. -/
def fnExactMoveBackSpec : ChangeSpec := { name := "fnExactMoveBack", fn := fun _ => fun
  | [d1, d2] => { results := [.lit (.bool true)], args := [d1, d2] }
  | _ => none }
def fnExactMoveBackRow : OpenClaim := { program := "ytjabklpnohfjpab", sum := "f8268832a5093b7f8ce8ea68e63458918951a5a3b291104240c117d8ebaf85bf", func := "loop.example/localglobal/laws.FnExactMoveBack", spec := "fnExactMoveBack", unfollowed := true, recurses := true, apart := false }
def FnExactMoveBackSaid : Prop := fnExactMoveBackRow.holds Try.pinned (OpenSpec.ofChange fnExactMoveBackSpec)

/-- ITS FALSE NEIGHBOUR: 'it returns false'. Refute it at one input. -/
def fnExactMoveBackWrong : ChangeSpec := { name := "fnExactMoveBack", fn := fun _ => fun
  | [d1, d2] => { results := [.lit (.bool false)], args := [d1, d2] }
  | _ => none }
def FnExactMoveBackWrongFalsely : Prop := fnExactMoveBackRow.holds Try.pinned (OpenSpec.ofChange fnExactMoveBackWrong)

/-- 'laws.FnExactMoveOn': WHATEVER THE INPUT: true; the input reads as it did. -/
def fnExactMoveOnSpec : ChangeSpec := { name := "fnExactMoveOn", fn := fun _ => fun
  | [d1, d2, d3] => { results := [.lit (.bool true)], args := [d1, d2, d3] }
  | _ => none }
def fnExactMoveOnRow : OpenClaim := { program := "ytjabklpnohfjpab", sum := "f8268832a5093b7f8ce8ea68e63458918951a5a3b291104240c117d8ebaf85bf", func := "loop.example/localglobal/laws.FnExactMoveOn", spec := "fnExactMoveOn", apart := false }
def FnExactMoveOnSaid : Prop := fnExactMoveOnRow.holds Try.pinned (OpenSpec.ofChange fnExactMoveOnSpec)

/-- ITS FALSE NEIGHBOUR: 'it returns false'. Refute it at one input. -/
def fnExactMoveOnWrong : ChangeSpec := { name := "fnExactMoveOn", fn := fun _ => fun
  | [d1, d2, d3] => { results := [.lit (.bool false)], args := [d1, d2, d3] }
  | _ => none }
def FnExactMoveOnWrongFalsely : Prop := fnExactMoveOnRow.holds Try.pinned (OpenSpec.ofChange fnExactMoveOnWrong)

/-- 'laws.FnExactMoveSign': WHATEVER THE INPUT: true; the input reads as it did. -/
def fnExactMoveSignSpec : ChangeSpec := { name := "fnExactMoveSign", fn := fun _ => fun
  | [d1, d2] => { results := [.lit (.bool true)], args := [d1, d2] }
  | _ => none }
def fnExactMoveSignRow : OpenClaim := { program := "ytjabklpnohfjpab", sum := "f8268832a5093b7f8ce8ea68e63458918951a5a3b291104240c117d8ebaf85bf", func := "loop.example/localglobal/laws.FnExactMoveSign", spec := "fnExactMoveSign", recurses := true, apart := false }
def FnExactMoveSignSaid : Prop := fnExactMoveSignRow.holds Try.pinned (OpenSpec.ofChange fnExactMoveSignSpec)

/-- ITS FALSE NEIGHBOUR: 'it returns false'. Refute it at one input. -/
def fnExactMoveSignWrong : ChangeSpec := { name := "fnExactMoveSign", fn := fun _ => fun
  | [d1, d2] => { results := [.lit (.bool false)], args := [d1, d2] }
  | _ => none }
def FnExactMoveSignWrongFalsely : Prop := fnExactMoveSignRow.holds Try.pinned (OpenSpec.ofChange fnExactMoveSignWrong)

/-- 'laws.FnExactMoveOf': WHATEVER THE INPUT: true; the input reads as it did. -/
def fnExactMoveOfSpec : ChangeSpec := { name := "fnExactMoveOf", fn := fun _ => fun
  | [d1, d2] => { results := [.lit (.bool true)], args := [d1, d2] }
  | _ => none }
def fnExactMoveOfRow : OpenClaim := { program := "ytjabklpnohfjpab", sum := "f8268832a5093b7f8ce8ea68e63458918951a5a3b291104240c117d8ebaf85bf", func := "loop.example/localglobal/laws.FnExactMoveOf", spec := "fnExactMoveOf", unfollowed := true, recurses := true, apart := false }
def FnExactMoveOfSaid : Prop := fnExactMoveOfRow.holds Try.pinned (OpenSpec.ofChange fnExactMoveOfSpec)

/-- ITS FALSE NEIGHBOUR: 'it returns false'. Refute it at one input. -/
def fnExactMoveOfWrong : ChangeSpec := { name := "fnExactMoveOf", fn := fun _ => fun
  | [d1, d2] => { results := [.lit (.bool false)], args := [d1, d2] }
  | _ => none }
def FnExactMoveOfWrongFalsely : Prop := fnExactMoveOfRow.holds Try.pinned (OpenSpec.ofChange fnExactMoveOfWrong)

/-- 'laws.FnExactMoveSplit': WHATEVER THE INPUT: true; the input reads as it did. -/
def fnExactMoveSplitSpec : ChangeSpec := { name := "fnExactMoveSplit", fn := fun _ => fun
  | [d1, d2] => { results := [.lit (.bool true)], args := [d1, d2] }
  | _ => none }
def fnExactMoveSplitRow : OpenClaim := { program := "ytjabklpnohfjpab", sum := "f8268832a5093b7f8ce8ea68e63458918951a5a3b291104240c117d8ebaf85bf", func := "loop.example/localglobal/laws.FnExactMoveSplit", spec := "fnExactMoveSplit", unfollowed := true, recurses := true, apart := false }
def FnExactMoveSplitSaid : Prop := fnExactMoveSplitRow.holds Try.pinned (OpenSpec.ofChange fnExactMoveSplitSpec)

/-- ITS FALSE NEIGHBOUR: 'it returns false'. Refute it at one input. -/
def fnExactMoveSplitWrong : ChangeSpec := { name := "fnExactMoveSplit", fn := fun _ => fun
  | [d1, d2] => { results := [.lit (.bool false)], args := [d1, d2] }
  | _ => none }
def FnExactMoveSplitWrongFalsely : Prop := fnExactMoveSplitRow.holds Try.pinned (OpenSpec.ofChange fnExactMoveSplitWrong)

/-- 'laws.FnExactMoveCarry': WHATEVER THE INPUT: true; the input reads as it did. -/
def fnExactMoveCarrySpec : ChangeSpec := { name := "fnExactMoveCarry", fn := fun _ => fun
  | [d1, d2, d3] => { results := [.lit (.bool true)], args := [d1, d2, d3] }
  | _ => none }
def fnExactMoveCarryRow : OpenClaim := { program := "ytjabklpnohfjpab", sum := "f8268832a5093b7f8ce8ea68e63458918951a5a3b291104240c117d8ebaf85bf", func := "loop.example/localglobal/laws.FnExactMoveCarry", spec := "fnExactMoveCarry", apart := false }
def FnExactMoveCarrySaid : Prop := fnExactMoveCarryRow.holds Try.pinned (OpenSpec.ofChange fnExactMoveCarrySpec)

/-- ITS FALSE NEIGHBOUR: 'it returns false'. Refute it at one input. -/
def fnExactMoveCarryWrong : ChangeSpec := { name := "fnExactMoveCarry", fn := fun _ => fun
  | [d1, d2, d3] => { results := [.lit (.bool false)], args := [d1, d2, d3] }
  | _ => none }
def FnExactMoveCarryWrongFalsely : Prop := fnExactMoveCarryRow.holds Try.pinned (OpenSpec.ofChange fnExactMoveCarryWrong)

/- THE SECOND FORM. 'bulk': how many values and letters a reading holds, each counted each time it is reached (what is shared counts as often as it is met; a slice's spare places count too). A statement '..UptoSaid' is the law's where the arguments, and the package variables that the reading takes, are together of bulk at most 1048576: NARROWER than '..Said'. Prove '..Said' where nothing that the law and all that it calls make is longer than what came in: it says more and counts as full. Else prove '..UptoSaid'. A law counts once. -/
mutual
def uptoBulk {H : Type} : DataW H → Nat
  | .lit (.string bytes) => bytes.length + 1
  | .lit _ => 1
  | .nil => 1
  | .ptr d => uptoBulk d + 1
  | .slice elems spare => uptoBulkAll elems + uptoBulkAll spare + 1
  | .agg parts => uptoBulkAll parts + 1
  | .iface _ d => uptoBulk d + 1
  | .map entries => uptoBulkEntries entries + 1
  | .held _ => 1
def uptoBulkAll {H : Type} : List (DataW H) → Nat
  | [] => 0
  | d :: r => uptoBulk d + uptoBulkAll r
def uptoBulkEntries {H : Type} : List (Lit × DataW H) → Nat
  | [] => 0
  | x :: r => uptoBulkEntry x + uptoBulkEntries r
def uptoBulkEntry {H : Type} : Lit × DataW H → Nat
  | (.string bytes, d) => bytes.length + uptoBulk d + 1
  | (_, d) => uptoBulk d + 1
 end
def uptoSmall : (H : Type) → List (DataW H) → Bool := fun _ ds => decide (uptoBulkAll ds ≤ 1048576)
def OpenSpec.upto (s : _root_.Go.ChangeSpec) : _root_.Go.OpenSpec := { _root_.Go.OpenSpec.ofChange s with cond := some uptoSmall }

/-- 'laws.FnExactMoveValid', WHERE WHAT IT READS IS OF BULK AT MOST 1048576: true; the input reads as it did. -/
def fnExactMoveValidUptoRow : OpenClaim := { program := "ytjabklpnohfjpab", sum := "f8268832a5093b7f8ce8ea68e63458918951a5a3b291104240c117d8ebaf85bf", func := "loop.example/localglobal/laws.FnExactMoveValid", spec := "fnExactMoveValid", apart := false, narrowed := true }
def FnExactMoveValidUptoSaid : Prop := fnExactMoveValidUptoRow.holds Try.pinned (OpenSpec.upto fnExactMoveValidSpec)

/-- 'laws.FnExactMoveStay', WHERE WHAT IT READS IS OF BULK AT MOST 1048576: true; the input reads as it did. -/
def fnExactMoveStayUptoRow : OpenClaim := { program := "ytjabklpnohfjpab", sum := "f8268832a5093b7f8ce8ea68e63458918951a5a3b291104240c117d8ebaf85bf", func := "loop.example/localglobal/laws.FnExactMoveStay", spec := "fnExactMoveStay", unfollowed := true, recurses := true, apart := false, narrowed := true }
def FnExactMoveStayUptoSaid : Prop := fnExactMoveStayUptoRow.holds Try.pinned (OpenSpec.upto fnExactMoveStaySpec)

/-- 'laws.FnExactMoveMirror', WHERE WHAT IT READS IS OF BULK AT MOST 1048576: true; the input reads as it did. -/
def fnExactMoveMirrorUptoRow : OpenClaim := { program := "ytjabklpnohfjpab", sum := "f8268832a5093b7f8ce8ea68e63458918951a5a3b291104240c117d8ebaf85bf", func := "loop.example/localglobal/laws.FnExactMoveMirror", spec := "fnExactMoveMirror", unfollowed := true, recurses := true, apart := false, narrowed := true }
def FnExactMoveMirrorUptoSaid : Prop := fnExactMoveMirrorUptoRow.holds Try.pinned (OpenSpec.upto fnExactMoveMirrorSpec)

/-- 'laws.FnExactMoveMul', WHERE WHAT IT READS IS OF BULK AT MOST 1048576: true; the input reads as it did. -/
def fnExactMoveMulUptoRow : OpenClaim := { program := "ytjabklpnohfjpab", sum := "f8268832a5093b7f8ce8ea68e63458918951a5a3b291104240c117d8ebaf85bf", func := "loop.example/localglobal/laws.FnExactMoveMul", spec := "fnExactMoveMul", unfollowed := true, recurses := true, apart := false, narrowed := true }
def FnExactMoveMulUptoSaid : Prop := fnExactMoveMulUptoRow.holds Try.pinned (OpenSpec.upto fnExactMoveMulSpec)

/-- 'laws.FnExactMoveBack', WHERE WHAT IT READS IS OF BULK AT MOST 1048576: true; the input reads as it did. -/
def fnExactMoveBackUptoRow : OpenClaim := { program := "ytjabklpnohfjpab", sum := "f8268832a5093b7f8ce8ea68e63458918951a5a3b291104240c117d8ebaf85bf", func := "loop.example/localglobal/laws.FnExactMoveBack", spec := "fnExactMoveBack", unfollowed := true, recurses := true, apart := false, narrowed := true }
def FnExactMoveBackUptoSaid : Prop := fnExactMoveBackUptoRow.holds Try.pinned (OpenSpec.upto fnExactMoveBackSpec)

/-- 'laws.FnExactMoveOn', WHERE WHAT IT READS IS OF BULK AT MOST 1048576: true; the input reads as it did. -/
def fnExactMoveOnUptoRow : OpenClaim := { program := "ytjabklpnohfjpab", sum := "f8268832a5093b7f8ce8ea68e63458918951a5a3b291104240c117d8ebaf85bf", func := "loop.example/localglobal/laws.FnExactMoveOn", spec := "fnExactMoveOn", apart := false, narrowed := true }
def FnExactMoveOnUptoSaid : Prop := fnExactMoveOnUptoRow.holds Try.pinned (OpenSpec.upto fnExactMoveOnSpec)

/-- 'laws.FnExactMoveSign', WHERE WHAT IT READS IS OF BULK AT MOST 1048576: true; the input reads as it did. -/
def fnExactMoveSignUptoRow : OpenClaim := { program := "ytjabklpnohfjpab", sum := "f8268832a5093b7f8ce8ea68e63458918951a5a3b291104240c117d8ebaf85bf", func := "loop.example/localglobal/laws.FnExactMoveSign", spec := "fnExactMoveSign", recurses := true, apart := false, narrowed := true }
def FnExactMoveSignUptoSaid : Prop := fnExactMoveSignUptoRow.holds Try.pinned (OpenSpec.upto fnExactMoveSignSpec)

/-- 'laws.FnExactMoveOf', WHERE WHAT IT READS IS OF BULK AT MOST 1048576: true; the input reads as it did. -/
def fnExactMoveOfUptoRow : OpenClaim := { program := "ytjabklpnohfjpab", sum := "f8268832a5093b7f8ce8ea68e63458918951a5a3b291104240c117d8ebaf85bf", func := "loop.example/localglobal/laws.FnExactMoveOf", spec := "fnExactMoveOf", unfollowed := true, recurses := true, apart := false, narrowed := true }
def FnExactMoveOfUptoSaid : Prop := fnExactMoveOfUptoRow.holds Try.pinned (OpenSpec.upto fnExactMoveOfSpec)

/-- 'laws.FnExactMoveSplit', WHERE WHAT IT READS IS OF BULK AT MOST 1048576: true; the input reads as it did. -/
def fnExactMoveSplitUptoRow : OpenClaim := { program := "ytjabklpnohfjpab", sum := "f8268832a5093b7f8ce8ea68e63458918951a5a3b291104240c117d8ebaf85bf", func := "loop.example/localglobal/laws.FnExactMoveSplit", spec := "fnExactMoveSplit", unfollowed := true, recurses := true, apart := false, narrowed := true }
def FnExactMoveSplitUptoSaid : Prop := fnExactMoveSplitUptoRow.holds Try.pinned (OpenSpec.upto fnExactMoveSplitSpec)

/-- 'laws.FnExactMoveCarry', WHERE WHAT IT READS IS OF BULK AT MOST 1048576: true; the input reads as it did. -/
def fnExactMoveCarryUptoRow : OpenClaim := { program := "ytjabklpnohfjpab", sum := "f8268832a5093b7f8ce8ea68e63458918951a5a3b291104240c117d8ebaf85bf", func := "loop.example/localglobal/laws.FnExactMoveCarry", spec := "fnExactMoveCarry", apart := false, narrowed := true }
def FnExactMoveCarryUptoSaid : Prop := fnExactMoveCarryUptoRow.holds Try.pinned (OpenSpec.upto fnExactMoveCarrySpec)

end Rows
end Go.Proofs.Ytjabklpnohfjpab
