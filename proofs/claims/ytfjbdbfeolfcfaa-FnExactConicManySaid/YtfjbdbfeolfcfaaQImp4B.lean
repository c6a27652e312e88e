/-
  Contracts of the program's chapter 4: a form behind its interface, and the map of its invariants.
-/
import Derived.Test.YtfjbdbfeolfcfaaQBun24
import Derived.Maps.OwnSet
import Derived.Maps.Views
set_option linter.unusedVariables false
namespace Go.Proofs.Ytfjbdbfeolfcfaa
open Go.RowKit



end Go.Proofs.Ytfjbdbfeolfcfaa
