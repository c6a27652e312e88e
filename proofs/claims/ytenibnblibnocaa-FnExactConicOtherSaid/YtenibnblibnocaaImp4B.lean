/-
  Contracts of the program's chapter 4: a form behind its interface, and the map of its invariants.
-/
import Derived.Test.YtenibnblibnocaaBun40
import Derived.Maps.OwnSet
import Derived.Maps.Views
set_option linter.unusedVariables false
namespace Go.Proofs.Ytenibnblibnocaa
open Go.RowKit



end Go.Proofs.Ytenibnblibnocaa
