/-
  The reference: Two, Four, Text.
-/
import Derived.Test.YtepbjjhidemaiaaGreatDq
namespace Go.Proofs.YtepbjjhidemaiaaGreat
open Go.RowKit
set_option linter.unusedVariables false
set_option linter.unusedSimpArgs false
set_option maxRecDepth 4000

end Go.Proofs.YtepbjjhidemaiaaGreat
