/-
  No cell of these rows narrows 'for every input' (looked for: loops, veiled, ifaces, maps, wideKeys, modest, calm, conditions, laid).
  DERIVED. THE GIVEN ROWS OF THIS SEAT. 12 by the template 'for every input the law returns true; each argument reads behind the call as it read before'; 0 by the template 'total and deterministic' (their statements: YtdidmblkknnglaaTotals.lean).
  GIVEN WITH THE SEED: the statements are not yours to turn. If you find one false, say at which input.
  Laid BY PROGRAM, IN A SANDBOX (cutbox-rows.mjs): the forced cells as the released guide's own fill.sh prints them over the translation 1c7d85d70899bfd7… (all of the seat's roots in one cut). By AI agents, Wed Nov 11 2026. No macro, syntax, notation, axiom, sorry.
-/
import Derived.Test.YtdidmblkknnglaaChecked
import GoSem.Claim
import GoSem.ClaimJoined
import GoSem.ClaimMapViews
import Derived.JoinedTies
import Derived.KernelRfl
namespace Go.Proofs.Ytdidmblkknnglaa
/- THE CELL 'sum', in the pinned program and in every row, IS THE sha256 OF THE DUMP (.gsa) THAT YtdidmblkknnglaaProg.lean LOADS. Nothing in Lean hashes anything: it is a label: what it is worth is what the hold of that sum in a sandbox is worth. -/
noncomputable def Try.pinned : Pinned := { name := "ytdidmblkknnglaa", sum := "1c7d85d70899bfd7c5e203b42ae1be1670aad6096fa86ad66de8c42d8139358b", checked := Try.checked }
namespace Rows
def none {H : Type} : Left H := { results := [], args := [] }

/-- 'laws.FnSymbol': WHATEVER THE INPUT: true; the input reads as it did. -/
def fnSymbolSpec : ChangeSpec := { name := "fnSymbol", fn := fun _ => fun
  | [d1, d2] => { results := [.lit (.bool true)], args := [d1, d2] }
  | _ => none }
def fnSymbolRow : OpenClaim := { program := "ytdidmblkknnglaa", sum := "1c7d85d70899bfd7c5e203b42ae1be1670aad6096fa86ad66de8c42d8139358b", func := "loop.example/localglobal/laws.FnSymbol", spec := "fnSymbol", unfollowed := true, recurses := true, plainKeys := false, apart := false }
def FnSymbolSaid : Prop := fnSymbolRow.holds Try.pinned (OpenSpec.ofChange fnSymbolSpec)

/-- ITS FALSE NEIGHBOUR: 'it returns false'. Refute it at one input. -/
def fnSymbolWrong : ChangeSpec := { name := "fnSymbol", fn := fun _ => fun
  | [d1, d2] => { results := [.lit (.bool false)], args := [d1, d2] }
  | _ => none }
def FnSymbolWrongFalsely : Prop := fnSymbolRow.holds Try.pinned (OpenSpec.ofChange fnSymbolWrong)

/-- 'laws.FnSteinberg': WHATEVER THE INPUT: true; the input reads as it did. -/
def fnSteinbergSpec : ChangeSpec := { name := "fnSteinberg", fn := fun _ => fun
  | [d] => { results := [.lit (.bool true)], args := [d] }
  | _ => none }
def fnSteinbergRow : OpenClaim := { program := "ytdidmblkknnglaa", sum := "1c7d85d70899bfd7c5e203b42ae1be1670aad6096fa86ad66de8c42d8139358b", func := "loop.example/localglobal/laws.FnSteinberg", spec := "fnSteinberg", unfollowed := true, recurses := true, plainKeys := false, apart := false }
def FnSteinbergSaid : Prop := fnSteinbergRow.holds Try.pinned (OpenSpec.ofChange fnSteinbergSpec)

/-- ITS FALSE NEIGHBOUR: 'it returns false'. Refute it at one input. -/
def fnSteinbergWrong : ChangeSpec := { name := "fnSteinberg", fn := fun _ => fun
  | [d] => { results := [.lit (.bool false)], args := [d] }
  | _ => none }
def FnSteinbergWrongFalsely : Prop := fnSteinbergRow.holds Try.pinned (OpenSpec.ofChange fnSteinbergWrong)

/-- 'laws.FnSymbolPlaces': WHATEVER THE INPUT: true; the input reads as it did. -/
def fnSymbolPlacesSpec : ChangeSpec := { name := "fnSymbolPlaces", fn := fun _ => fun
  | [d] => { results := [.lit (.bool true)], args := [d] }
  | _ => none }
def fnSymbolPlacesRow : OpenClaim := { program := "ytdidmblkknnglaa", sum := "1c7d85d70899bfd7c5e203b42ae1be1670aad6096fa86ad66de8c42d8139358b", func := "loop.example/localglobal/laws.FnSymbolPlaces", spec := "fnSymbolPlaces", unfollowed := true, recurses := true, plainKeys := false, apart := false }
def FnSymbolPlacesSaid : Prop := fnSymbolPlacesRow.holds Try.pinned (OpenSpec.ofChange fnSymbolPlacesSpec)

/-- ITS FALSE NEIGHBOUR: 'it returns false'. Refute it at one input. -/
def fnSymbolPlacesWrong : ChangeSpec := { name := "fnSymbolPlaces", fn := fun _ => fun
  | [d] => { results := [.lit (.bool false)], args := [d] }
  | _ => none }
def FnSymbolPlacesWrongFalsely : Prop := fnSymbolPlacesRow.holds Try.pinned (OpenSpec.ofChange fnSymbolPlacesWrong)

/-- 'laws.FnProduct': WHATEVER THE INPUT: true; the input reads as it did. -/
def fnProductSpec : ChangeSpec := { name := "fnProduct", fn := fun _ => fun
  | [d] => { results := [.lit (.bool true)], args := [d] }
  | _ => none }
def fnProductRow : OpenClaim := { program := "ytdidmblkknnglaa", sum := "1c7d85d70899bfd7c5e203b42ae1be1670aad6096fa86ad66de8c42d8139358b", func := "loop.example/localglobal/laws.FnProduct", spec := "fnProduct", unfollowed := true, recurses := true, plainKeys := false, apart := false }
def FnProductSaid : Prop := fnProductRow.holds Try.pinned (OpenSpec.ofChange fnProductSpec)

/-- ITS FALSE NEIGHBOUR: 'it returns false'. Refute it at one input. -/
def fnProductWrong : ChangeSpec := { name := "fnProduct", fn := fun _ => fun
  | [d] => { results := [.lit (.bool false)], args := [d] }
  | _ => none }
def FnProductWrongFalsely : Prop := fnProductRow.holds Try.pinned (OpenSpec.ofChange fnProductWrong)

/-- 'laws.FnSolved': WHATEVER THE INPUT: true; the input reads as it did. -/
def fnSolvedSpec : ChangeSpec := { name := "fnSolved", fn := fun _ => fun
  | [d] => { results := [.lit (.bool true)], args := [d] }
  | _ => none }
def fnSolvedRow : OpenClaim := { program := "ytdidmblkknnglaa", sum := "1c7d85d70899bfd7c5e203b42ae1be1670aad6096fa86ad66de8c42d8139358b", func := "loop.example/localglobal/laws.FnSolved", spec := "fnSolved", unfollowed := true, recurses := true, plainKeys := false, apart := false }
def FnSolvedSaid : Prop := fnSolvedRow.holds Try.pinned (OpenSpec.ofChange fnSolvedSpec)

/-- ITS FALSE NEIGHBOUR: 'it returns false'. Refute it at one input. -/
def fnSolvedWrong : ChangeSpec := { name := "fnSolved", fn := fun _ => fun
  | [d] => { results := [.lit (.bool false)], args := [d] }
  | _ => none }
def FnSolvedWrongFalsely : Prop := fnSolvedRow.holds Try.pinned (OpenSpec.ofChange fnSolvedWrong)

/-- 'laws.FnModulo': WHATEVER THE INPUT: true; the input reads as it did. -/
def fnModuloSpec : ChangeSpec := { name := "fnModulo", fn := fun _ => fun
  | [d] => { results := [.lit (.bool true)], args := [d] }
  | _ => none }
def fnModuloRow : OpenClaim := { program := "ytdidmblkknnglaa", sum := "1c7d85d70899bfd7c5e203b42ae1be1670aad6096fa86ad66de8c42d8139358b", func := "loop.example/localglobal/laws.FnModulo", spec := "fnModulo", unfollowed := true, recurses := true, plainKeys := false, apart := false }
def FnModuloSaid : Prop := fnModuloRow.holds Try.pinned (OpenSpec.ofChange fnModuloSpec)

/-- ITS FALSE NEIGHBOUR: 'it returns false'. Refute it at one input. -/
def fnModuloWrong : ChangeSpec := { name := "fnModulo", fn := fun _ => fun
  | [d] => { results := [.lit (.bool false)], args := [d] }
  | _ => none }
def FnModuloWrongFalsely : Prop := fnModuloRow.holds Try.pinned (OpenSpec.ofChange fnModuloWrong)

/-- 'laws.FnModuloBack': WHATEVER THE INPUT: true; the input reads as it did. -/
def fnModuloBackSpec : ChangeSpec := { name := "fnModuloBack", fn := fun _ => fun
  | [d] => { results := [.lit (.bool true)], args := [d] }
  | _ => none }
def fnModuloBackRow : OpenClaim := { program := "ytdidmblkknnglaa", sum := "1c7d85d70899bfd7c5e203b42ae1be1670aad6096fa86ad66de8c42d8139358b", func := "loop.example/localglobal/laws.FnModuloBack", spec := "fnModuloBack", unfollowed := true, recurses := true, plainKeys := false, apart := false }
def FnModuloBackSaid : Prop := fnModuloBackRow.holds Try.pinned (OpenSpec.ofChange fnModuloBackSpec)

/-- ITS FALSE NEIGHBOUR: 'it returns false'. Refute it at one input. -/
def fnModuloBackWrong : ChangeSpec := { name := "fnModuloBack", fn := fun _ => fun
  | [d] => { results := [.lit (.bool false)], args := [d] }
  | _ => none }
def FnModuloBackWrongFalsely : Prop := fnModuloBackRow.holds Try.pinned (OpenSpec.ofChange fnModuloBackWrong)

/-- 'laws.FnWays': WHATEVER THE INPUT: true; the input reads as it did. -/
def fnWaysSpec : ChangeSpec := { name := "fnWays", fn := fun _ => fun
  | [d] => { results := [.lit (.bool true)], args := [d] }
  | _ => none }
def fnWaysRow : OpenClaim := { program := "ytdidmblkknnglaa", sum := "1c7d85d70899bfd7c5e203b42ae1be1670aad6096fa86ad66de8c42d8139358b", func := "loop.example/localglobal/laws.FnWays", spec := "fnWays", unfollowed := true, recurses := true, plainKeys := false, apart := false }
def FnWaysSaid : Prop := fnWaysRow.holds Try.pinned (OpenSpec.ofChange fnWaysSpec)

/-- ITS FALSE NEIGHBOUR: 'it returns false'. Refute it at one input. -/
def fnWaysWrong : ChangeSpec := { name := "fnWays", fn := fun _ => fun
  | [d] => { results := [.lit (.bool false)], args := [d] }
  | _ => none }
def FnWaysWrongFalsely : Prop := fnWaysRow.holds Try.pinned (OpenSpec.ofChange fnWaysWrong)

/-- 'laws.FnSplit': WHATEVER THE INPUT: true; the input reads as it did. -/
def fnSplitSpec : ChangeSpec := { name := "fnSplit", fn := fun _ => fun
  | [d1, d2] => { results := [.lit (.bool true)], args := [d1, d2] }
  | _ => none }
def fnSplitRow : OpenClaim := { program := "ytdidmblkknnglaa", sum := "1c7d85d70899bfd7c5e203b42ae1be1670aad6096fa86ad66de8c42d8139358b", func := "loop.example/localglobal/laws.FnSplit", spec := "fnSplit", unfollowed := true, recurses := true, plainKeys := false, apart := false }
def FnSplitSaid : Prop := fnSplitRow.holds Try.pinned (OpenSpec.ofChange fnSplitSpec)

/-- ITS FALSE NEIGHBOUR: 'it returns false'. Refute it at one input. -/
def fnSplitWrong : ChangeSpec := { name := "fnSplit", fn := fun _ => fun
  | [d1, d2] => { results := [.lit (.bool false)], args := [d1, d2] }
  | _ => none }
def FnSplitWrongFalsely : Prop := fnSplitRow.holds Try.pinned (OpenSpec.ofChange fnSplitWrong)

/-- 'laws.FnSymbolSame': WHATEVER THE INPUT: true; the input reads as it did. -/
def fnSymbolSameSpec : ChangeSpec := { name := "fnSymbolSame", fn := fun _ => fun
  | [d1, d2] => { results := [.lit (.bool true)], args := [d1, d2] }
  | _ => none }
def fnSymbolSameRow : OpenClaim := { program := "ytdidmblkknnglaa", sum := "1c7d85d70899bfd7c5e203b42ae1be1670aad6096fa86ad66de8c42d8139358b", func := "loop.example/localglobal/laws.FnSymbolSame", spec := "fnSymbolSame", unfollowed := true, recurses := true, plainKeys := false, apart := false }
def FnSymbolSameSaid : Prop := fnSymbolSameRow.holds Try.pinned (OpenSpec.ofChange fnSymbolSameSpec)

/-- ITS FALSE NEIGHBOUR: 'it returns false'. Refute it at one input. -/
def fnSymbolSameWrong : ChangeSpec := { name := "fnSymbolSame", fn := fun _ => fun
  | [d1, d2] => { results := [.lit (.bool false)], args := [d1, d2] }
  | _ => none }
def FnSymbolSameWrongFalsely : Prop := fnSymbolSameRow.holds Try.pinned (OpenSpec.ofChange fnSymbolSameWrong)

/-- 'laws.FnNorm': WHATEVER THE INPUT: true; the input reads as it did. -/
def fnNormSpec : ChangeSpec := { name := "fnNorm", fn := fun _ => fun
  | [d] => { results := [.lit (.bool true)], args := [d] }
  | _ => none }
def fnNormRow : OpenClaim := { program := "ytdidmblkknnglaa", sum := "1c7d85d70899bfd7c5e203b42ae1be1670aad6096fa86ad66de8c42d8139358b", func := "loop.example/localglobal/laws.FnNorm", spec := "fnNorm", unfollowed := true, recurses := true, plainKeys := false, apart := false }
def FnNormSaid : Prop := fnNormRow.holds Try.pinned (OpenSpec.ofChange fnNormSpec)

/-- ITS FALSE NEIGHBOUR: 'it returns false'. Refute it at one input. -/
def fnNormWrong : ChangeSpec := { name := "fnNorm", fn := fun _ => fun
  | [d] => { results := [.lit (.bool false)], args := [d] }
  | _ => none }
def FnNormWrongFalsely : Prop := fnNormRow.holds Try.pinned (OpenSpec.ofChange fnNormWrong)

/-- 'laws.FnFind': WHATEVER THE INPUT: true; the input reads as it did. -/
def fnFindSpec : ChangeSpec := { name := "fnFind", fn := fun _ => fun
  | [d] => { results := [.lit (.bool true)], args := [d] }
  | _ => none }
def fnFindRow : OpenClaim := { program := "ytdidmblkknnglaa", sum := "1c7d85d70899bfd7c5e203b42ae1be1670aad6096fa86ad66de8c42d8139358b", func := "loop.example/localglobal/laws.FnFind", spec := "fnFind", unfollowed := true, recurses := true, plainKeys := false, apart := false }
def FnFindSaid : Prop := fnFindRow.holds Try.pinned (OpenSpec.ofChange fnFindSpec)

/-- ITS FALSE NEIGHBOUR: 'it returns false'. Refute it at one input. -/
def fnFindWrong : ChangeSpec := { name := "fnFind", fn := fun _ => fun
  | [d] => { results := [.lit (.bool false)], args := [d] }
  | _ => none }
def FnFindWrongFalsely : Prop := fnFindRow.holds Try.pinned (OpenSpec.ofChange fnFindWrong)

/- THE SECOND FORM. 'bulk': how many values and letters a reading holds, each counted each time it is reached (what is shared counts as often as it is met; a slice's spare places count too). A statement '..UptoSaid' is the law's where the arguments, and the package variables that the reading takes, are together of bulk at most 1048576: NARROWER than '..Said'. Prove '..Said' where nothing that the law and all that it calls make is longer than what came in: it says more and counts as full. Else prove '..UptoSaid'. A law counts once. -/
mutual
def uptoBulk {H : Type} : DataW H → Nat
  | .lit (.string bytes) => bytes.length + 1
  | .lit _ => 1
  | .nil => 1
  | .ptr d => uptoBulk d + 1
  | .slice elems spare => uptoBulkAll elems + uptoBulkAll spare + 1
  | .agg parts => uptoBulkAll parts + 1
  | .iface _ d => uptoBulk d + 1
  | .map entries => uptoBulkEntries entries + 1
  | .held _ => 1
def uptoBulkAll {H : Type} : List (DataW H) → Nat
  | [] => 0
  | d :: r => uptoBulk d + uptoBulkAll r
def uptoBulkEntries {H : Type} : List (Lit × DataW H) → Nat
  | [] => 0
  | x :: r => uptoBulkEntry x + uptoBulkEntries r
def uptoBulkEntry {H : Type} : Lit × DataW H → Nat
  | (.string bytes, d) => bytes.length + uptoBulk d + 1
  | (_, d) => uptoBulk d + 1
 end
def uptoSmall : (H : Type) → List (DataW H) → Bool := fun _ ds => decide (uptoBulkAll ds ≤ 1048576)
def OpenSpec.upto (s : _root_.Go.ChangeSpec) : _root_.Go.OpenSpec := { _root_.Go.OpenSpec.ofChange s with cond := some uptoSmall }

/-- 'laws.FnSymbol', WHERE WHAT IT READS IS OF BULK AT MOST 1048576: true; the input reads as it did. -/
def fnSymbolUptoRow : OpenClaim := { program := "ytdidmblkknnglaa", sum := "1c7d85d70899bfd7c5e203b42ae1be1670aad6096fa86ad66de8c42d8139358b", func := "loop.example/localglobal/laws.FnSymbol", spec := "fnSymbol", unfollowed := true, recurses := true, plainKeys := false, apart := false, narrowed := true }
def FnSymbolUptoSaid : Prop := fnSymbolUptoRow.holds Try.pinned (OpenSpec.upto fnSymbolSpec)

/-- 'laws.FnSteinberg', WHERE WHAT IT READS IS OF BULK AT MOST 1048576: true; the input reads as it did. -/
def fnSteinbergUptoRow : OpenClaim := { program := "ytdidmblkknnglaa", sum := "1c7d85d70899bfd7c5e203b42ae1be1670aad6096fa86ad66de8c42d8139358b", func := "loop.example/localglobal/laws.FnSteinberg", spec := "fnSteinberg", unfollowed := true, recurses := true, plainKeys := false, apart := false, narrowed := true }
def FnSteinbergUptoSaid : Prop := fnSteinbergUptoRow.holds Try.pinned (OpenSpec.upto fnSteinbergSpec)

/-- 'laws.FnSymbolPlaces', WHERE WHAT IT READS IS OF BULK AT MOST 1048576: true; the input reads as it did. -/
def fnSymbolPlacesUptoRow : OpenClaim := { program := "ytdidmblkknnglaa", sum := "1c7d85d70899bfd7c5e203b42ae1be1670aad6096fa86ad66de8c42d8139358b", func := "loop.example/localglobal/laws.FnSymbolPlaces", spec := "fnSymbolPlaces", unfollowed := true, recurses := true, plainKeys := false, apart := false, narrowed := true }
def FnSymbolPlacesUptoSaid : Prop := fnSymbolPlacesUptoRow.holds Try.pinned (OpenSpec.upto fnSymbolPlacesSpec)

/-- 'laws.FnProduct', WHERE WHAT IT READS IS OF BULK AT MOST 1048576: true; the input reads as it did. -/
def fnProductUptoRow : OpenClaim := { program := "ytdidmblkknnglaa", sum := "1c7d85d70899bfd7c5e203b42ae1be1670aad6096fa86ad66de8c42d8139358b", func := "loop.example/localglobal/laws.FnProduct", spec := "fnProduct", unfollowed := true, recurses := true, plainKeys := false, apart := false, narrowed := true }
def FnProductUptoSaid : Prop := fnProductUptoRow.holds Try.pinned (OpenSpec.upto fnProductSpec)

/-- 'laws.FnSolved', WHERE WHAT IT READS IS OF BULK AT MOST 1048576: true; the input reads as it did. -/
def fnSolvedUptoRow : OpenClaim := { program := "ytdidmblkknnglaa", sum := "1c7d85d70899bfd7c5e203b42ae1be1670aad6096fa86ad66de8c42d8139358b", func := "loop.example/localglobal/laws.FnSolved", spec := "fnSolved", unfollowed := true, recurses := true, plainKeys := false, apart := false, narrowed := true }
def FnSolvedUptoSaid : Prop := fnSolvedUptoRow.holds Try.pinned (OpenSpec.upto fnSolvedSpec)

/-- 'laws.FnModulo', WHERE WHAT IT READS IS OF BULK AT MOST 1048576: true; the input reads as it did. -/
def fnModuloUptoRow : OpenClaim := { program := "ytdidmblkknnglaa", sum := "1c7d85d70899bfd7c5e203b42ae1be1670aad6096fa86ad66de8c42d8139358b", func := "loop.example/localglobal/laws.FnModulo", spec := "fnModulo", unfollowed := true, recurses := true, plainKeys := false, apart := false, narrowed := true }
def FnModuloUptoSaid : Prop := fnModuloUptoRow.holds Try.pinned (OpenSpec.upto fnModuloSpec)

/-- 'laws.FnModuloBack', WHERE WHAT IT READS IS OF BULK AT MOST 1048576: true; the input reads as it did. -/
def fnModuloBackUptoRow : OpenClaim := { program := "ytdidmblkknnglaa", sum := "1c7d85d70899bfd7c5e203b42ae1be1670aad6096fa86ad66de8c42d8139358b", func := "loop.example/localglobal/laws.FnModuloBack", spec := "fnModuloBack", unfollowed := true, recurses := true, plainKeys := false, apart := false, narrowed := true }
def FnModuloBackUptoSaid : Prop := fnModuloBackUptoRow.holds Try.pinned (OpenSpec.upto fnModuloBackSpec)

/-- 'laws.FnWays', WHERE WHAT IT READS IS OF BULK AT MOST 1048576: true; the input reads as it did. -/
def fnWaysUptoRow : OpenClaim := { program := "ytdidmblkknnglaa", sum := "1c7d85d70899bfd7c5e203b42ae1be1670aad6096fa86ad66de8c42d8139358b", func := "loop.example/localglobal/laws.FnWays", spec := "fnWays", unfollowed := true, recurses := true, plainKeys := false, apart := false, narrowed := true }
def FnWaysUptoSaid : Prop := fnWaysUptoRow.holds Try.pinned (OpenSpec.upto fnWaysSpec)

/-- 'laws.FnSplit', WHERE WHAT IT READS IS OF BULK AT MOST 1048576: true; the input reads as it did. -/
def fnSplitUptoRow : OpenClaim := { program := "ytdidmblkknnglaa", sum := "1c7d85d70899bfd7c5e203b42ae1be1670aad6096fa86ad66de8c42d8139358b", func := "loop.example/localglobal/laws.FnSplit", spec := "fnSplit", unfollowed := true, recurses := true, plainKeys := false, apart := false, narrowed := true }
def FnSplitUptoSaid : Prop := fnSplitUptoRow.holds Try.pinned (OpenSpec.upto fnSplitSpec)

/-- 'laws.FnSymbolSame', WHERE WHAT IT READS IS OF BULK AT MOST 1048576: true; the input reads as it did. -/
def fnSymbolSameUptoRow : OpenClaim := { program := "ytdidmblkknnglaa", sum := "1c7d85d70899bfd7c5e203b42ae1be1670aad6096fa86ad66de8c42d8139358b", func := "loop.example/localglobal/laws.FnSymbolSame", spec := "fnSymbolSame", unfollowed := true, recurses := true, plainKeys := false, apart := false, narrowed := true }
def FnSymbolSameUptoSaid : Prop := fnSymbolSameUptoRow.holds Try.pinned (OpenSpec.upto fnSymbolSameSpec)

/-- 'laws.FnNorm', WHERE WHAT IT READS IS OF BULK AT MOST 1048576: true; the input reads as it did. -/
def fnNormUptoRow : OpenClaim := { program := "ytdidmblkknnglaa", sum := "1c7d85d70899bfd7c5e203b42ae1be1670aad6096fa86ad66de8c42d8139358b", func := "loop.example/localglobal/laws.FnNorm", spec := "fnNorm", unfollowed := true, recurses := true, plainKeys := false, apart := false, narrowed := true }
def FnNormUptoSaid : Prop := fnNormUptoRow.holds Try.pinned (OpenSpec.upto fnNormSpec)

/-- 'laws.FnFind', WHERE WHAT IT READS IS OF BULK AT MOST 1048576: true; the input reads as it did. -/
def fnFindUptoRow : OpenClaim := { program := "ytdidmblkknnglaa", sum := "1c7d85d70899bfd7c5e203b42ae1be1670aad6096fa86ad66de8c42d8139358b", func := "loop.example/localglobal/laws.FnFind", spec := "fnFind", unfollowed := true, recurses := true, plainKeys := false, apart := false, narrowed := true }
def FnFindUptoSaid : Prop := fnFindUptoRow.holds Try.pinned (OpenSpec.upto fnFindSpec)

end Rows
end Go.Proofs.Ytdidmblkknnglaa
