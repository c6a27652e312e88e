/-
  No cell of these rows narrows 'for every input' (looked for: loops, veiled, ifaces, maps, wideKeys, modest, calm, conditions, laid).
  DERIVED. THE GIVEN ROWS OF THIS SEAT. 10 by the template 'for every input the law returns true; each argument reads behind the call as it read before'; 0 by the template 'total and deterministic' (their statements: YtdidmblkknnglabTotals.lean).
  GIVEN WITH THE SEED: the statements are not yours to turn. If you find one false, say at which input.
  Laid BY PROGRAM, IN A SANDBOX (cutbox-rows.mjs): the forced cells as the released guide's own fill.sh prints them over the translation 5ffb7abaed242728… (all of the seat's roots in one cut). By AI agents, Wed Nov 11 2026. No macro, syntax, notation, axiom, sorry.
-/
import Derived.Test.YtdidmblkknnglabChecked
import GoSem.Claim
import GoSem.ClaimJoined
import GoSem.ClaimMapViews
import Derived.JoinedTies
import Derived.KernelRfl
namespace Go.Proofs.Ytdidmblkknnglab
/- THE CELL 'sum', in the pinned program and in every row, IS THE sha256 OF THE DUMP (.gsa) THAT YtdidmblkknnglabProg.lean LOADS. Nothing in Lean hashes anything: it is a label: what it is worth is what the hold of that sum in a sandbox is worth. -/
noncomputable def Try.pinned : Pinned := { name := "ytdidmblkknnglab", sum := "5ffb7abaed2427286aa04b5a0f0a109d23b20323eb7ab8b20a7885a953b14442", checked := Try.checked }
namespace Rows
def none {H : Type} : Left H := { results := [], args := [] }

/-- 'laws.FnExactSymbolOf': WHATEVER THE INPUT: true; the input reads as it did. -/
def fnExactSymbolOfSpec : ChangeSpec := { name := "fnExactSymbolOf", fn := fun _ => fun
  | [d1, d2, d3] => { results := [.lit (.bool true)], args := [d1, d2, d3] }
  | _ => none }
def fnExactSymbolOfRow : OpenClaim := { program := "ytdidmblkknnglab", sum := "5ffb7abaed2427286aa04b5a0f0a109d23b20323eb7ab8b20a7885a953b14442", func := "loop.example/localglobal/laws.FnExactSymbolOf", spec := "fnExactSymbolOf", unfollowed := true, recurses := true, apart := false }
def FnExactSymbolOfSaid : Prop := fnExactSymbolOfRow.holds Try.pinned (OpenSpec.ofChange fnExactSymbolOfSpec)

/-- ITS FALSE NEIGHBOUR: 'it returns false'. Refute it at one input. -/
def fnExactSymbolOfWrong : ChangeSpec := { name := "fnExactSymbolOf", fn := fun _ => fun
  | [d1, d2, d3] => { results := [.lit (.bool false)], args := [d1, d2, d3] }
  | _ => none }
def FnExactSymbolOfWrongFalsely : Prop := fnExactSymbolOfRow.holds Try.pinned (OpenSpec.ofChange fnExactSymbolOfWrong)

/-- 'laws.FnExactSymbolPlaces': WHATEVER THE INPUT: true; the input reads as it did. -/
def fnExactSymbolPlacesSpec : ChangeSpec := { name := "fnExactSymbolPlaces", fn := fun _ => fun
  | [d1, d2] => { results := [.lit (.bool true)], args := [d1, d2] }
  | _ => none }
def fnExactSymbolPlacesRow : OpenClaim := { program := "ytdidmblkknnglab", sum := "5ffb7abaed2427286aa04b5a0f0a109d23b20323eb7ab8b20a7885a953b14442", func := "loop.example/localglobal/laws.FnExactSymbolPlaces", spec := "fnExactSymbolPlaces", unfollowed := true, recurses := true, apart := false }
def FnExactSymbolPlacesSaid : Prop := fnExactSymbolPlacesRow.holds Try.pinned (OpenSpec.ofChange fnExactSymbolPlacesSpec)

/-- ITS FALSE NEIGHBOUR: 'it returns false'. Refute it at one input. -/
def fnExactSymbolPlacesWrong : ChangeSpec := { name := "fnExactSymbolPlaces", fn := fun _ => fun
  | [d1, d2] => { results := [.lit (.bool false)], args := [d1, d2] }
  | _ => none }
def FnExactSymbolPlacesWrongFalsely : Prop := fnExactSymbolPlacesRow.holds Try.pinned (OpenSpec.ofChange fnExactSymbolPlacesWrong)

/-- 'laws.FnExactSymbolSolved': WHATEVER THE INPUT: true; the input reads as it did. -/
def fnExactSymbolSolvedSpec : ChangeSpec := { name := "fnExactSymbolSolved", fn := fun _ => fun
  | [d1, d2, d3, d4, d5] => { results := [.lit (.bool true)], args := [d1, d2, d3, d4, d5] }
  | _ => none }
def fnExactSymbolSolvedRow : OpenClaim := { program := "ytdidmblkknnglab", sum := "5ffb7abaed2427286aa04b5a0f0a109d23b20323eb7ab8b20a7885a953b14442", func := "loop.example/localglobal/laws.FnExactSymbolSolved", spec := "fnExactSymbolSolved", apart := false }
def FnExactSymbolSolvedSaid : Prop := fnExactSymbolSolvedRow.holds Try.pinned (OpenSpec.ofChange fnExactSymbolSolvedSpec)

/-- ITS FALSE NEIGHBOUR: 'it returns false'. Refute it at one input. -/
def fnExactSymbolSolvedWrong : ChangeSpec := { name := "fnExactSymbolSolved", fn := fun _ => fun
  | [d1, d2, d3, d4, d5] => { results := [.lit (.bool false)], args := [d1, d2, d3, d4, d5] }
  | _ => none }
def FnExactSymbolSolvedWrongFalsely : Prop := fnExactSymbolSolvedRow.holds Try.pinned (OpenSpec.ofChange fnExactSymbolSolvedWrong)

/-- 'laws.FnExactSymbolModulo': WHATEVER THE INPUT: true; the input reads as it did. -/
def fnExactSymbolModuloSpec : ChangeSpec := { name := "fnExactSymbolModulo", fn := fun _ => fun
  | [d1, d2, d3, d4] => { results := [.lit (.bool true)], args := [d1, d2, d3, d4] }
  | _ => none }
def fnExactSymbolModuloRow : OpenClaim := { program := "ytdidmblkknnglab", sum := "5ffb7abaed2427286aa04b5a0f0a109d23b20323eb7ab8b20a7885a953b14442", func := "loop.example/localglobal/laws.FnExactSymbolModulo", spec := "fnExactSymbolModulo", unfollowed := true, recurses := true, apart := false }
def FnExactSymbolModuloSaid : Prop := fnExactSymbolModuloRow.holds Try.pinned (OpenSpec.ofChange fnExactSymbolModuloSpec)

/-- ITS FALSE NEIGHBOUR: 'it returns false'. Refute it at one input. -/
def fnExactSymbolModuloWrong : ChangeSpec := { name := "fnExactSymbolModulo", fn := fun _ => fun
  | [d1, d2, d3, d4] => { results := [.lit (.bool false)], args := [d1, d2, d3, d4] }
  | _ => none }
def FnExactSymbolModuloWrongFalsely : Prop := fnExactSymbolModuloRow.holds Try.pinned (OpenSpec.ofChange fnExactSymbolModuloWrong)

/-- 'laws.FnExactSymbolWays': WHATEVER THE INPUT: true; the input reads as it did. -/
def fnExactSymbolWaysSpec : ChangeSpec := { name := "fnExactSymbolWays", fn := fun _ => fun
  | [d1, d2, d3] => { results := [.lit (.bool true)], args := [d1, d2, d3] }
  | _ => none }
def fnExactSymbolWaysRow : OpenClaim := { program := "ytdidmblkknnglab", sum := "5ffb7abaed2427286aa04b5a0f0a109d23b20323eb7ab8b20a7885a953b14442", func := "loop.example/localglobal/laws.FnExactSymbolWays", spec := "fnExactSymbolWays", unfollowed := true, recurses := true, apart := false }
def FnExactSymbolWaysSaid : Prop := fnExactSymbolWaysRow.holds Try.pinned (OpenSpec.ofChange fnExactSymbolWaysSpec)

/-- ITS FALSE NEIGHBOUR: 'it returns false'. Refute it at one input. -/
def fnExactSymbolWaysWrong : ChangeSpec := { name := "fnExactSymbolWays", fn := fun _ => fun
  | [d1, d2, d3] => { results := [.lit (.bool false)], args := [d1, d2, d3] }
  | _ => none }
def FnExactSymbolWaysWrongFalsely : Prop := fnExactSymbolWaysRow.holds Try.pinned (OpenSpec.ofChange fnExactSymbolWaysWrong)

/-- 'laws.FnExactSymbolSplit': WHATEVER THE INPUT: true; the input reads as it did. -/
def fnExactSymbolSplitSpec : ChangeSpec := { name := "fnExactSymbolSplit", fn := fun _ => fun
  | [d1, d2] => { results := [.lit (.bool true)], args := [d1, d2] }
  | _ => none }
def fnExactSymbolSplitRow : OpenClaim := { program := "ytdidmblkknnglab", sum := "5ffb7abaed2427286aa04b5a0f0a109d23b20323eb7ab8b20a7885a953b14442", func := "loop.example/localglobal/laws.FnExactSymbolSplit", spec := "fnExactSymbolSplit", unfollowed := true, recurses := true, apart := false }
def FnExactSymbolSplitSaid : Prop := fnExactSymbolSplitRow.holds Try.pinned (OpenSpec.ofChange fnExactSymbolSplitSpec)

/-- ITS FALSE NEIGHBOUR: 'it returns false'. Refute it at one input. -/
def fnExactSymbolSplitWrong : ChangeSpec := { name := "fnExactSymbolSplit", fn := fun _ => fun
  | [d1, d2] => { results := [.lit (.bool false)], args := [d1, d2] }
  | _ => none }
def FnExactSymbolSplitWrongFalsely : Prop := fnExactSymbolSplitRow.holds Try.pinned (OpenSpec.ofChange fnExactSymbolSplitWrong)

/-- 'laws.FnExactSymbolSame': WHATEVER THE INPUT: true; the input reads as it did. -/
def fnExactSymbolSameSpec : ChangeSpec := { name := "fnExactSymbolSame", fn := fun _ => fun
  | [d1, d2, d3, d4] => { results := [.lit (.bool true)], args := [d1, d2, d3, d4] }
  | _ => none }
def fnExactSymbolSameRow : OpenClaim := { program := "ytdidmblkknnglab", sum := "5ffb7abaed2427286aa04b5a0f0a109d23b20323eb7ab8b20a7885a953b14442", func := "loop.example/localglobal/laws.FnExactSymbolSame", spec := "fnExactSymbolSame", unfollowed := true, recurses := true, apart := false }
def FnExactSymbolSameSaid : Prop := fnExactSymbolSameRow.holds Try.pinned (OpenSpec.ofChange fnExactSymbolSameSpec)

/-- ITS FALSE NEIGHBOUR: 'it returns false'. Refute it at one input. -/
def fnExactSymbolSameWrong : ChangeSpec := { name := "fnExactSymbolSame", fn := fun _ => fun
  | [d1, d2, d3, d4] => { results := [.lit (.bool false)], args := [d1, d2, d3, d4] }
  | _ => none }
def FnExactSymbolSameWrongFalsely : Prop := fnExactSymbolSameRow.holds Try.pinned (OpenSpec.ofChange fnExactSymbolSameWrong)

/-- 'laws.FnExactSymbolNorm': WHATEVER THE INPUT: true; the input reads as it did. -/
def fnExactSymbolNormSpec : ChangeSpec := { name := "fnExactSymbolNorm", fn := fun _ => fun
  | [d1, d2] => { results := [.lit (.bool true)], args := [d1, d2] }
  | _ => none }
def fnExactSymbolNormRow : OpenClaim := { program := "ytdidmblkknnglab", sum := "5ffb7abaed2427286aa04b5a0f0a109d23b20323eb7ab8b20a7885a953b14442", func := "loop.example/localglobal/laws.FnExactSymbolNorm", spec := "fnExactSymbolNorm", unfollowed := true, recurses := true, apart := false }
def FnExactSymbolNormSaid : Prop := fnExactSymbolNormRow.holds Try.pinned (OpenSpec.ofChange fnExactSymbolNormSpec)

/-- ITS FALSE NEIGHBOUR: 'it returns false'. Refute it at one input. -/
def fnExactSymbolNormWrong : ChangeSpec := { name := "fnExactSymbolNorm", fn := fun _ => fun
  | [d1, d2] => { results := [.lit (.bool false)], args := [d1, d2] }
  | _ => none }
def FnExactSymbolNormWrongFalsely : Prop := fnExactSymbolNormRow.holds Try.pinned (OpenSpec.ofChange fnExactSymbolNormWrong)

/-- 'laws.FnExactSymbolFind': WHATEVER THE INPUT: true; the input reads as it did. -/
def fnExactSymbolFindSpec : ChangeSpec := { name := "fnExactSymbolFind", fn := fun _ => fun
  | [d1, d2] => { results := [.lit (.bool true)], args := [d1, d2] }
  | _ => none }
def fnExactSymbolFindRow : OpenClaim := { program := "ytdidmblkknnglab", sum := "5ffb7abaed2427286aa04b5a0f0a109d23b20323eb7ab8b20a7885a953b14442", func := "loop.example/localglobal/laws.FnExactSymbolFind", spec := "fnExactSymbolFind", unfollowed := true, recurses := true, apart := false }
def FnExactSymbolFindSaid : Prop := fnExactSymbolFindRow.holds Try.pinned (OpenSpec.ofChange fnExactSymbolFindSpec)

/-- ITS FALSE NEIGHBOUR: 'it returns false'. Refute it at one input. -/
def fnExactSymbolFindWrong : ChangeSpec := { name := "fnExactSymbolFind", fn := fun _ => fun
  | [d1, d2] => { results := [.lit (.bool false)], args := [d1, d2] }
  | _ => none }
def FnExactSymbolFindWrongFalsely : Prop := fnExactSymbolFindRow.holds Try.pinned (OpenSpec.ofChange fnExactSymbolFindWrong)

/-- 'laws.FnExactSymbolSign': WHATEVER THE INPUT: true; the input reads as it did. -/
def fnExactSymbolSignSpec : ChangeSpec := { name := "fnExactSymbolSign", fn := fun _ => fun
  | [d1, d2] => { results := [.lit (.bool true)], args := [d1, d2] }
  | _ => none }
def fnExactSymbolSignRow : OpenClaim := { program := "ytdidmblkknnglab", sum := "5ffb7abaed2427286aa04b5a0f0a109d23b20323eb7ab8b20a7885a953b14442", func := "loop.example/localglobal/laws.FnExactSymbolSign", spec := "fnExactSymbolSign", unfollowed := true, recurses := true, apart := false }
def FnExactSymbolSignSaid : Prop := fnExactSymbolSignRow.holds Try.pinned (OpenSpec.ofChange fnExactSymbolSignSpec)

/-- ITS FALSE NEIGHBOUR: 'it returns false'. Refute it at one input. -/
def fnExactSymbolSignWrong : ChangeSpec := { name := "fnExactSymbolSign", fn := fun _ => fun
  | [d1, d2] => { results := [.lit (.bool false)], args := [d1, d2] }
  | _ => none }
def FnExactSymbolSignWrongFalsely : Prop := fnExactSymbolSignRow.holds Try.pinned (OpenSpec.ofChange fnExactSymbolSignWrong)

/- THE SECOND FORM. 'bulk': how many values and letters a reading holds, each counted each time it is reached (what is shared counts as often as it is met; a slice's spare places count too). A statement '..UptoSaid' is the law's where the arguments, and the package variables that the reading takes, are together of bulk at most 1048576: NARROWER than '..Said'. Prove '..Said' where nothing that the law and all that it calls make is longer than what came in: it says more and counts as full. Else prove '..UptoSaid'. A law counts once. -/
mutual
def uptoBulk {H : Type} : DataW H → Nat
  | .lit (.string bytes) => bytes.length + 1
  | .lit _ => 1
  | .nil => 1
  | .ptr d => uptoBulk d + 1
  | .slice elems spare => uptoBulkAll elems + uptoBulkAll spare + 1
  | .agg parts => uptoBulkAll parts + 1
  | .iface _ d => uptoBulk d + 1
  | .map entries => uptoBulkEntries entries + 1
  | .held _ => 1
def uptoBulkAll {H : Type} : List (DataW H) → Nat
  | [] => 0
  | d :: r => uptoBulk d + uptoBulkAll r
def uptoBulkEntries {H : Type} : List (Lit × DataW H) → Nat
  | [] => 0
  | x :: r => uptoBulkEntry x + uptoBulkEntries r
def uptoBulkEntry {H : Type} : Lit × DataW H → Nat
  | (.string bytes, d) => bytes.length + uptoBulk d + 1
  | (_, d) => uptoBulk d + 1
 end
def uptoSmall : (H : Type) → List (DataW H) → Bool := fun _ ds => decide (uptoBulkAll ds ≤ 1048576)
def OpenSpec.upto (s : _root_.Go.ChangeSpec) : _root_.Go.OpenSpec := { _root_.Go.OpenSpec.ofChange s with cond := some uptoSmall }

/-- 'laws.FnExactSymbolOf', WHERE WHAT IT READS IS OF BULK AT MOST 1048576: true; the input reads as it did. -/
def fnExactSymbolOfUptoRow : OpenClaim := { program := "ytdidmblkknnglab", sum := "5ffb7abaed2427286aa04b5a0f0a109d23b20323eb7ab8b20a7885a953b14442", func := "loop.example/localglobal/laws.FnExactSymbolOf", spec := "fnExactSymbolOf", unfollowed := true, recurses := true, apart := false, narrowed := true }
def FnExactSymbolOfUptoSaid : Prop := fnExactSymbolOfUptoRow.holds Try.pinned (OpenSpec.upto fnExactSymbolOfSpec)

/-- 'laws.FnExactSymbolPlaces', WHERE WHAT IT READS IS OF BULK AT MOST 1048576: true; the input reads as it did. -/
def fnExactSymbolPlacesUptoRow : OpenClaim := { program := "ytdidmblkknnglab", sum := "5ffb7abaed2427286aa04b5a0f0a109d23b20323eb7ab8b20a7885a953b14442", func := "loop.example/localglobal/laws.FnExactSymbolPlaces", spec := "fnExactSymbolPlaces", unfollowed := true, recurses := true, apart := false, narrowed := true }
def FnExactSymbolPlacesUptoSaid : Prop := fnExactSymbolPlacesUptoRow.holds Try.pinned (OpenSpec.upto fnExactSymbolPlacesSpec)

/-- 'laws.FnExactSymbolSolved', WHERE WHAT IT READS IS OF BULK AT MOST 1048576: true; the input reads as it did. -/
def fnExactSymbolSolvedUptoRow : OpenClaim := { program := "ytdidmblkknnglab", sum := "5ffb7abaed2427286aa04b5a0f0a109d23b20323eb7ab8b20a7885a953b14442", func := "loop.example/localglobal/laws.FnExactSymbolSolved", spec := "fnExactSymbolSolved", apart := false, narrowed := true }
def FnExactSymbolSolvedUptoSaid : Prop := fnExactSymbolSolvedUptoRow.holds Try.pinned (OpenSpec.upto fnExactSymbolSolvedSpec)

/-- 'laws.FnExactSymbolModulo', WHERE WHAT IT READS IS OF BULK AT MOST 1048576: true; the input reads as it did. -/
def fnExactSymbolModuloUptoRow : OpenClaim := { program := "ytdidmblkknnglab", sum := "5ffb7abaed2427286aa04b5a0f0a109d23b20323eb7ab8b20a7885a953b14442", func := "loop.example/localglobal/laws.FnExactSymbolModulo", spec := "fnExactSymbolModulo", unfollowed := true, recurses := true, apart := false, narrowed := true }
def FnExactSymbolModuloUptoSaid : Prop := fnExactSymbolModuloUptoRow.holds Try.pinned (OpenSpec.upto fnExactSymbolModuloSpec)

/-- 'laws.FnExactSymbolWays', WHERE WHAT IT READS IS OF BULK AT MOST 1048576: true; the input reads as it did. -/
def fnExactSymbolWaysUptoRow : OpenClaim := { program := "ytdidmblkknnglab", sum := "5ffb7abaed2427286aa04b5a0f0a109d23b20323eb7ab8b20a7885a953b14442", func := "loop.example/localglobal/laws.FnExactSymbolWays", spec := "fnExactSymbolWays", unfollowed := true, recurses := true, apart := false, narrowed := true }
def FnExactSymbolWaysUptoSaid : Prop := fnExactSymbolWaysUptoRow.holds Try.pinned (OpenSpec.upto fnExactSymbolWaysSpec)

/-- 'laws.FnExactSymbolSplit', WHERE WHAT IT READS IS OF BULK AT MOST 1048576: true; the input reads as it did. -/
def fnExactSymbolSplitUptoRow : OpenClaim := { program := "ytdidmblkknnglab", sum := "5ffb7abaed2427286aa04b5a0f0a109d23b20323eb7ab8b20a7885a953b14442", func := "loop.example/localglobal/laws.FnExactSymbolSplit", spec := "fnExactSymbolSplit", unfollowed := true, recurses := true, apart := false, narrowed := true }
def FnExactSymbolSplitUptoSaid : Prop := fnExactSymbolSplitUptoRow.holds Try.pinned (OpenSpec.upto fnExactSymbolSplitSpec)

/-- 'laws.FnExactSymbolSame', WHERE WHAT IT READS IS OF BULK AT MOST 1048576: true; the input reads as it did. -/
def fnExactSymbolSameUptoRow : OpenClaim := { program := "ytdidmblkknnglab", sum := "5ffb7abaed2427286aa04b5a0f0a109d23b20323eb7ab8b20a7885a953b14442", func := "loop.example/localglobal/laws.FnExactSymbolSame", spec := "fnExactSymbolSame", unfollowed := true, recurses := true, apart := false, narrowed := true }
def FnExactSymbolSameUptoSaid : Prop := fnExactSymbolSameUptoRow.holds Try.pinned (OpenSpec.upto fnExactSymbolSameSpec)

/-- 'laws.FnExactSymbolNorm', WHERE WHAT IT READS IS OF BULK AT MOST 1048576: true; the input reads as it did. -/
def fnExactSymbolNormUptoRow : OpenClaim := { program := "ytdidmblkknnglab", sum := "5ffb7abaed2427286aa04b5a0f0a109d23b20323eb7ab8b20a7885a953b14442", func := "loop.example/localglobal/laws.FnExactSymbolNorm", spec := "fnExactSymbolNorm", unfollowed := true, recurses := true, apart := false, narrowed := true }
def FnExactSymbolNormUptoSaid : Prop := fnExactSymbolNormUptoRow.holds Try.pinned (OpenSpec.upto fnExactSymbolNormSpec)

/-- 'laws.FnExactSymbolFind', WHERE WHAT IT READS IS OF BULK AT MOST 1048576: true; the input reads as it did. -/
def fnExactSymbolFindUptoRow : OpenClaim := { program := "ytdidmblkknnglab", sum := "5ffb7abaed2427286aa04b5a0f0a109d23b20323eb7ab8b20a7885a953b14442", func := "loop.example/localglobal/laws.FnExactSymbolFind", spec := "fnExactSymbolFind", unfollowed := true, recurses := true, apart := false, narrowed := true }
def FnExactSymbolFindUptoSaid : Prop := fnExactSymbolFindUptoRow.holds Try.pinned (OpenSpec.upto fnExactSymbolFindSpec)

/-- 'laws.FnExactSymbolSign', WHERE WHAT IT READS IS OF BULK AT MOST 1048576: true; the input reads as it did. -/
def fnExactSymbolSignUptoRow : OpenClaim := { program := "ytdidmblkknnglab", sum := "5ffb7abaed2427286aa04b5a0f0a109d23b20323eb7ab8b20a7885a953b14442", func := "loop.example/localglobal/laws.FnExactSymbolSign", spec := "fnExactSymbolSign", unfollowed := true, recurses := true, apart := false, narrowed := true }
def FnExactSymbolSignUptoSaid : Prop := fnExactSymbolSignUptoRow.holds Try.pinned (OpenSpec.upto fnExactSymbolSignSpec)

end Rows
end Go.Proofs.Ytdidmblkknnglab
