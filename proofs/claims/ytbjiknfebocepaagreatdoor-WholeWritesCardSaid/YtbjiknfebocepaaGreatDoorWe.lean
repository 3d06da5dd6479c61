/-
  The contracts of the project's whole: which of two is less.
-/
import Derived.Test.YtbjiknfebocepaaGreatDoorWd
namespace Go.Proofs.YtbjiknfebocepaaGreatDoor
open Go.RowKit Go.Joins
set_option linter.unusedVariables false
set_option linter.unusedSimpArgs false
set_option maxRecDepth 4000

end Go.Proofs.YtbjiknfebocepaaGreatDoor
