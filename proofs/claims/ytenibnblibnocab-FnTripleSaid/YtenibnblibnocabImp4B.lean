/-
  Contracts of the program's chapter 4: a form behind its interface, and the map of its invariants.
-/
import Derived.Test.YtenibnblibnocabBun35
import Derived.Maps.OwnSet
import Derived.Maps.Views
set_option linter.unusedVariables false
namespace Go.Proofs.Ytenibnblibnocab
open Go.RowKit



end Go.Proofs.Ytenibnblibnocab
