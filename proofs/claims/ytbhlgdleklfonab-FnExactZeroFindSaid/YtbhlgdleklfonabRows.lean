/-
  No cell of these rows narrows 'for every input' (looked for: loops, veiled, ifaces, maps, wideKeys, modest, calm, conditions, laid).
  DERIVED. THE GIVEN ROWS OF THIS SEAT. 9 by the template 'for every input the law returns true; each argument reads behind the call as it read before'; 0 by the template 'total and deterministic' (their statements: YtbhlgdleklfonabTotals.lean).
  GIVEN WITH THE SEED: the statements are not yours to turn. If you find one false, say at which input.
  Laid BY PROGRAM, IN A SANDBOX (cutbox-rows.mjs): the forced cells as the released guide's own fill.sh prints them over the translation 3a2202cdcdd90341… (all of the seat's roots in one cut). By AI agents, Wed Nov 11 2026. No macro, syntax, notation, axiom, sorry.
-/
import Derived.Test.YtbhlgdleklfonabChecked
import GoSem.Claim
import GoSem.ClaimJoined
import GoSem.ClaimMapViews
import Derived.JoinedTies
import Derived.KernelRfl
namespace Go.Proofs.Ytbhlgdleklfonab
/- THE CELL 'sum', in the pinned program and in every row, IS THE sha256 OF THE DUMP (.gsa) THAT YtbhlgdleklfonabProg.lean LOADS. Nothing in Lean hashes anything: it is a label: what it is worth is what the hold of that sum in a sandbox is worth. -/
noncomputable def Try.pinned : Pinned := { name := "ytbhlgdleklfonab", sum := "3a2202cdcdd9034176230912c1a32d52922342054ff7b11b1985eb9624876112", checked := Try.checked }
namespace Rows
def none {H : Type} : Left H := { results := [], args := [] }

/-- 'laws.FnExactZeroIs': WHATEVER THE INPUT: true; the input reads as it did. -/
def fnExactZeroIsSpec : ChangeSpec := { name := "fnExactZeroIs", fn := fun _ => fun
  | [d1, d2] => { results := [.lit (.bool true)], args := [d1, d2] }
  | _ => none }
def fnExactZeroIsRow : OpenClaim := { program := "ytbhlgdleklfonab", sum := "3a2202cdcdd9034176230912c1a32d52922342054ff7b11b1985eb9624876112", func := "loop.example/localglobal/laws.FnExactZeroIs", spec := "fnExactZeroIs", apart := false }
def FnExactZeroIsSaid : Prop := fnExactZeroIsRow.holds Try.pinned (OpenSpec.ofChange fnExactZeroIsSpec)

/-- ITS FALSE NEIGHBOUR: 'it returns false'. Refute it at one input. -/
def fnExactZeroIsWrong : ChangeSpec := { name := "fnExactZeroIs", fn := fun _ => fun
  | [d1, d2] => { results := [.lit (.bool false)], args := [d1, d2] }
  | _ => none }
def FnExactZeroIsWrongFalsely : Prop := fnExactZeroIsRow.holds Try.pinned (OpenSpec.ofChange fnExactZeroIsWrong)

/-- 'laws.FnExactZeroPlain': WHATEVER THE INPUT: true; the input reads as it did. -/
def fnExactZeroPlainSpec : ChangeSpec := { name := "fnExactZeroPlain", fn := fun _ => fun
  | [d1, d2] => { results := [.lit (.bool true)], args := [d1, d2] }
  | _ => none }
def fnExactZeroPlainRow : OpenClaim := { program := "ytbhlgdleklfonab", sum := "3a2202cdcdd9034176230912c1a32d52922342054ff7b11b1985eb9624876112", func := "loop.example/localglobal/laws.FnExactZeroPlain", spec := "fnExactZeroPlain", apart := false }
def FnExactZeroPlainSaid : Prop := fnExactZeroPlainRow.holds Try.pinned (OpenSpec.ofChange fnExactZeroPlainSpec)

/-- ITS FALSE NEIGHBOUR: 'it returns false'. Refute it at one input. -/
def fnExactZeroPlainWrong : ChangeSpec := { name := "fnExactZeroPlain", fn := fun _ => fun
  | [d1, d2] => { results := [.lit (.bool false)], args := [d1, d2] }
  | _ => none }
def FnExactZeroPlainWrongFalsely : Prop := fnExactZeroPlainRow.holds Try.pinned (OpenSpec.ofChange fnExactZeroPlainWrong)

/-- 'laws.FnExactZeroNormal': WHATEVER THE INPUT: true; the input reads as it did. -/
def fnExactZeroNormalSpec : ChangeSpec := { name := "fnExactZeroNormal", fn := fun _ => fun
  | [d] => { results := [.lit (.bool true)], args := [d] }
  | _ => none }
def fnExactZeroNormalRow : OpenClaim := { program := "ytbhlgdleklfonab", sum := "3a2202cdcdd9034176230912c1a32d52922342054ff7b11b1985eb9624876112", func := "loop.example/localglobal/laws.FnExactZeroNormal", spec := "fnExactZeroNormal", unfollowed := true, recurses := true, apart := false }
def FnExactZeroNormalSaid : Prop := fnExactZeroNormalRow.holds Try.pinned (OpenSpec.ofChange fnExactZeroNormalSpec)

/-- ITS FALSE NEIGHBOUR: 'it returns false'. Refute it at one input. -/
def fnExactZeroNormalWrong : ChangeSpec := { name := "fnExactZeroNormal", fn := fun _ => fun
  | [d] => { results := [.lit (.bool false)], args := [d] }
  | _ => none }
def FnExactZeroNormalWrongFalsely : Prop := fnExactZeroNormalRow.holds Try.pinned (OpenSpec.ofChange fnExactZeroNormalWrong)

/-- 'laws.FnExactZeroSearch': WHATEVER THE INPUT: true; the input reads as it did. -/
def fnExactZeroSearchSpec : ChangeSpec := { name := "fnExactZeroSearch", fn := fun _ => fun
  | [d] => { results := [.lit (.bool true)], args := [d] }
  | _ => none }
def fnExactZeroSearchRow : OpenClaim := { program := "ytbhlgdleklfonab", sum := "3a2202cdcdd9034176230912c1a32d52922342054ff7b11b1985eb9624876112", func := "loop.example/localglobal/laws.FnExactZeroSearch", spec := "fnExactZeroSearch", unfollowed := true, recurses := true, apart := false }
def FnExactZeroSearchSaid : Prop := fnExactZeroSearchRow.holds Try.pinned (OpenSpec.ofChange fnExactZeroSearchSpec)

/-- ITS FALSE NEIGHBOUR: 'it returns false'. Refute it at one input. -/
def fnExactZeroSearchWrong : ChangeSpec := { name := "fnExactZeroSearch", fn := fun _ => fun
  | [d] => { results := [.lit (.bool false)], args := [d] }
  | _ => none }
def FnExactZeroSearchWrongFalsely : Prop := fnExactZeroSearchRow.holds Try.pinned (OpenSpec.ofChange fnExactZeroSearchWrong)

/-- 'laws.FnExactZeroFind': WHATEVER THE INPUT: true; the input reads as it did. -/
def fnExactZeroFindSpec : ChangeSpec := { name := "fnExactZeroFind", fn := fun _ => fun
  | [d] => { results := [.lit (.bool true)], args := [d] }
  | _ => none }
def fnExactZeroFindRow : OpenClaim := { program := "ytbhlgdleklfonab", sum := "3a2202cdcdd9034176230912c1a32d52922342054ff7b11b1985eb9624876112", func := "loop.example/localglobal/laws.FnExactZeroFind", spec := "fnExactZeroFind", unfollowed := true, recurses := true, apart := false }
def FnExactZeroFindSaid : Prop := fnExactZeroFindRow.holds Try.pinned (OpenSpec.ofChange fnExactZeroFindSpec)

/-- ITS FALSE NEIGHBOUR: 'it returns false'. Refute it at one input. -/
def fnExactZeroFindWrong : ChangeSpec := { name := "fnExactZeroFind", fn := fun _ => fun
  | [d] => { results := [.lit (.bool false)], args := [d] }
  | _ => none }
def FnExactZeroFindWrongFalsely : Prop := fnExactZeroFindRow.holds Try.pinned (OpenSpec.ofChange fnExactZeroFindWrong)

/-- 'laws.FnExactZeroMany': WHATEVER THE INPUT: true; the input reads as it did. -/
def fnExactZeroManySpec : ChangeSpec := { name := "fnExactZeroMany", fn := fun _ => fun
  | [d1, d2] => { results := [.lit (.bool true)], args := [d1, d2] }
  | _ => none }
def fnExactZeroManyRow : OpenClaim := { program := "ytbhlgdleklfonab", sum := "3a2202cdcdd9034176230912c1a32d52922342054ff7b11b1985eb9624876112", func := "loop.example/localglobal/laws.FnExactZeroMany", spec := "fnExactZeroMany", unfollowed := true, recurses := true, apart := false }
def FnExactZeroManySaid : Prop := fnExactZeroManyRow.holds Try.pinned (OpenSpec.ofChange fnExactZeroManySpec)

/-- ITS FALSE NEIGHBOUR: 'it returns false'. Refute it at one input. -/
def fnExactZeroManyWrong : ChangeSpec := { name := "fnExactZeroMany", fn := fun _ => fun
  | [d1, d2] => { results := [.lit (.bool false)], args := [d1, d2] }
  | _ => none }
def FnExactZeroManyWrongFalsely : Prop := fnExactZeroManyRow.holds Try.pinned (OpenSpec.ofChange fnExactZeroManyWrong)

/-- 'laws.FnExactZeroModulo': WHATEVER THE INPUT: true; the input reads as it did. -/
def fnExactZeroModuloSpec : ChangeSpec := { name := "fnExactZeroModulo", fn := fun _ => fun
  | [d1, d2, d3] => { results := [.lit (.bool true)], args := [d1, d2, d3] }
  | _ => none }
def fnExactZeroModuloRow : OpenClaim := { program := "ytbhlgdleklfonab", sum := "3a2202cdcdd9034176230912c1a32d52922342054ff7b11b1985eb9624876112", func := "loop.example/localglobal/laws.FnExactZeroModulo", spec := "fnExactZeroModulo", unfollowed := true, recurses := true, apart := false }
def FnExactZeroModuloSaid : Prop := fnExactZeroModuloRow.holds Try.pinned (OpenSpec.ofChange fnExactZeroModuloSpec)

/-- ITS FALSE NEIGHBOUR: 'it returns false'. Refute it at one input. -/
def fnExactZeroModuloWrong : ChangeSpec := { name := "fnExactZeroModulo", fn := fun _ => fun
  | [d1, d2, d3] => { results := [.lit (.bool false)], args := [d1, d2, d3] }
  | _ => none }
def FnExactZeroModuloWrongFalsely : Prop := fnExactZeroModuloRow.holds Try.pinned (OpenSpec.ofChange fnExactZeroModuloWrong)

/-- 'laws.FnExactZeroHeight': WHATEVER THE INPUT: true; the input reads as it did. -/
def fnExactZeroHeightSpec : ChangeSpec := { name := "fnExactZeroHeight", fn := fun _ => fun
  | [d1, d2] => { results := [.lit (.bool true)], args := [d1, d2] }
  | _ => none }
def fnExactZeroHeightRow : OpenClaim := { program := "ytbhlgdleklfonab", sum := "3a2202cdcdd9034176230912c1a32d52922342054ff7b11b1985eb9624876112", func := "loop.example/localglobal/laws.FnExactZeroHeight", spec := "fnExactZeroHeight", apart := false }
def FnExactZeroHeightSaid : Prop := fnExactZeroHeightRow.holds Try.pinned (OpenSpec.ofChange fnExactZeroHeightSpec)

/-- ITS FALSE NEIGHBOUR: 'it returns false'. Refute it at one input. -/
def fnExactZeroHeightWrong : ChangeSpec := { name := "fnExactZeroHeight", fn := fun _ => fun
  | [d1, d2] => { results := [.lit (.bool false)], args := [d1, d2] }
  | _ => none }
def FnExactZeroHeightWrongFalsely : Prop := fnExactZeroHeightRow.holds Try.pinned (OpenSpec.ofChange fnExactZeroHeightWrong)

/-- 'laws.FnExactZeroPair': WHATEVER THE INPUT: true; the input reads as it did. -/
def fnExactZeroPairSpec : ChangeSpec := { name := "fnExactZeroPair", fn := fun _ => fun
  | [d1, d2, d3] => { results := [.lit (.bool true)], args := [d1, d2, d3] }
  | _ => none }
def fnExactZeroPairRow : OpenClaim := { program := "ytbhlgdleklfonab", sum := "3a2202cdcdd9034176230912c1a32d52922342054ff7b11b1985eb9624876112", func := "loop.example/localglobal/laws.FnExactZeroPair", spec := "fnExactZeroPair", apart := false }
def FnExactZeroPairSaid : Prop := fnExactZeroPairRow.holds Try.pinned (OpenSpec.ofChange fnExactZeroPairSpec)

/-- ITS FALSE NEIGHBOUR: 'it returns false'. Refute it at one input. -/
def fnExactZeroPairWrong : ChangeSpec := { name := "fnExactZeroPair", fn := fun _ => fun
  | [d1, d2, d3] => { results := [.lit (.bool false)], args := [d1, d2, d3] }
  | _ => none }
def FnExactZeroPairWrongFalsely : Prop := fnExactZeroPairRow.holds Try.pinned (OpenSpec.ofChange fnExactZeroPairWrong)

/- THE SECOND FORM. 'bulk': how many values and letters a reading holds, each counted each time it is reached (what is shared counts as often as it is met; a slice's spare places count too). A statement '..UptoSaid' is the law's where the arguments, and the package variables that the reading takes, are together of bulk at most 1048576: NARROWER than '..Said'. Prove '..Said' where nothing that the law and all that it calls make is longer than what came in: it says more and counts as full. Else prove '..UptoSaid'. A law counts once. -/
mutual
def uptoBulk {H : Type} : DataW H → Nat
  | .lit (.string bytes) => bytes.length + 1
  | .lit _ => 1
  | .nil => 1
  | .ptr d => uptoBulk d + 1
  | .slice elems spare => uptoBulkAll elems + uptoBulkAll spare + 1
  | .agg parts => uptoBulkAll parts + 1
  | .iface _ d => uptoBulk d + 1
  | .map entries => uptoBulkEntries entries + 1
  | .held _ => 1
def uptoBulkAll {H : Type} : List (DataW H) → Nat
  | [] => 0
  | d :: r => uptoBulk d + uptoBulkAll r
def uptoBulkEntries {H : Type} : List (Lit × DataW H) → Nat
  | [] => 0
  | x :: r => uptoBulkEntry x + uptoBulkEntries r
def uptoBulkEntry {H : Type} : Lit × DataW H → Nat
  | (.string bytes, d) => bytes.length + uptoBulk d + 1
  | (_, d) => uptoBulk d + 1
 end
def uptoSmall : (H : Type) → List (DataW H) → Bool := fun _ ds => decide (uptoBulkAll ds ≤ 1048576)
def OpenSpec.upto (s : _root_.Go.ChangeSpec) : _root_.Go.OpenSpec := { _root_.Go.OpenSpec.ofChange s with cond := some uptoSmall }

/-- 'laws.FnExactZeroIs', WHERE WHAT IT READS IS OF BULK AT MOST 1048576: true; the input reads as it did. -/
def fnExactZeroIsUptoRow : OpenClaim := { program := "ytbhlgdleklfonab", sum := "3a2202cdcdd9034176230912c1a32d52922342054ff7b11b1985eb9624876112", func := "loop.example/localglobal/laws.FnExactZeroIs", spec := "fnExactZeroIs", apart := false, narrowed := true }
def FnExactZeroIsUptoSaid : Prop := fnExactZeroIsUptoRow.holds Try.pinned (OpenSpec.upto fnExactZeroIsSpec)

/-- 'laws.FnExactZeroPlain', WHERE WHAT IT READS IS OF BULK AT MOST 1048576: true; the input reads as it did. -/
def fnExactZeroPlainUptoRow : OpenClaim := { program := "ytbhlgdleklfonab", sum := "3a2202cdcdd9034176230912c1a32d52922342054ff7b11b1985eb9624876112", func := "loop.example/localglobal/laws.FnExactZeroPlain", spec := "fnExactZeroPlain", apart := false, narrowed := true }
def FnExactZeroPlainUptoSaid : Prop := fnExactZeroPlainUptoRow.holds Try.pinned (OpenSpec.upto fnExactZeroPlainSpec)

/-- 'laws.FnExactZeroNormal', WHERE WHAT IT READS IS OF BULK AT MOST 1048576: true; the input reads as it did. -/
def fnExactZeroNormalUptoRow : OpenClaim := { program := "ytbhlgdleklfonab", sum := "3a2202cdcdd9034176230912c1a32d52922342054ff7b11b1985eb9624876112", func := "loop.example/localglobal/laws.FnExactZeroNormal", spec := "fnExactZeroNormal", unfollowed := true, recurses := true, apart := false, narrowed := true }
def FnExactZeroNormalUptoSaid : Prop := fnExactZeroNormalUptoRow.holds Try.pinned (OpenSpec.upto fnExactZeroNormalSpec)

/-- 'laws.FnExactZeroSearch', WHERE WHAT IT READS IS OF BULK AT MOST 1048576: true; the input reads as it did. -/
def fnExactZeroSearchUptoRow : OpenClaim := { program := "ytbhlgdleklfonab", sum := "3a2202cdcdd9034176230912c1a32d52922342054ff7b11b1985eb9624876112", func := "loop.example/localglobal/laws.FnExactZeroSearch", spec := "fnExactZeroSearch", unfollowed := true, recurses := true, apart := false, narrowed := true }
def FnExactZeroSearchUptoSaid : Prop := fnExactZeroSearchUptoRow.holds Try.pinned (OpenSpec.upto fnExactZeroSearchSpec)

/-- 'laws.FnExactZeroFind', WHERE WHAT IT READS IS OF BULK AT MOST 1048576: true; the input reads as it did. -/
def fnExactZeroFindUptoRow : OpenClaim := { program := "ytbhlgdleklfonab", sum := "3a2202cdcdd9034176230912c1a32d52922342054ff7b11b1985eb9624876112", func := "loop.example/localglobal/laws.FnExactZeroFind", spec := "fnExactZeroFind", unfollowed := true, recurses := true, apart := false, narrowed := true }
def FnExactZeroFindUptoSaid : Prop := fnExactZeroFindUptoRow.holds Try.pinned (OpenSpec.upto fnExactZeroFindSpec)

/-- 'laws.FnExactZeroMany', WHERE WHAT IT READS IS OF BULK AT MOST 1048576: true; the input reads as it did. -/
def fnExactZeroManyUptoRow : OpenClaim := { program := "ytbhlgdleklfonab", sum := "3a2202cdcdd9034176230912c1a32d52922342054ff7b11b1985eb9624876112", func := "loop.example/localglobal/laws.FnExactZeroMany", spec := "fnExactZeroMany", unfollowed := true, recurses := true, apart := false, narrowed := true }
def FnExactZeroManyUptoSaid : Prop := fnExactZeroManyUptoRow.holds Try.pinned (OpenSpec.upto fnExactZeroManySpec)

/-- 'laws.FnExactZeroModulo', WHERE WHAT IT READS IS OF BULK AT MOST 1048576: true; the input reads as it did. -/
def fnExactZeroModuloUptoRow : OpenClaim := { program := "ytbhlgdleklfonab", sum := "3a2202cdcdd9034176230912c1a32d52922342054ff7b11b1985eb9624876112", func := "loop.example/localglobal/laws.FnExactZeroModulo", spec := "fnExactZeroModulo", unfollowed := true, recurses := true, apart := false, narrowed := true }
def FnExactZeroModuloUptoSaid : Prop := fnExactZeroModuloUptoRow.holds Try.pinned (OpenSpec.upto fnExactZeroModuloSpec)

/-- 'laws.FnExactZeroHeight', WHERE WHAT IT READS IS OF BULK AT MOST 1048576: true; the input reads as it did. -/
def fnExactZeroHeightUptoRow : OpenClaim := { program := "ytbhlgdleklfonab", sum := "3a2202cdcdd9034176230912c1a32d52922342054ff7b11b1985eb9624876112", func := "loop.example/localglobal/laws.FnExactZeroHeight", spec := "fnExactZeroHeight", apart := false, narrowed := true }
def FnExactZeroHeightUptoSaid : Prop := fnExactZeroHeightUptoRow.holds Try.pinned (OpenSpec.upto fnExactZeroHeightSpec)

/-- 'laws.FnExactZeroPair', WHERE WHAT IT READS IS OF BULK AT MOST 1048576: true; the input reads as it did. -/
def fnExactZeroPairUptoRow : OpenClaim := { program := "ytbhlgdleklfonab", sum := "3a2202cdcdd9034176230912c1a32d52922342054ff7b11b1985eb9624876112", func := "loop.example/localglobal/laws.FnExactZeroPair", spec := "fnExactZeroPair", apart := false, narrowed := true }
def FnExactZeroPairUptoSaid : Prop := fnExactZeroPairUptoRow.holds Try.pinned (OpenSpec.upto fnExactZeroPairSpec)

end Rows
end Go.Proofs.Ytbhlgdleklfonab
