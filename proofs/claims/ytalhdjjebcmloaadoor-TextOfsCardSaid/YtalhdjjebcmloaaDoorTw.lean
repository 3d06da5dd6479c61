/-
  The law TextOfs.
-/
import Derived.Test.YtalhdjjebcmloaaDoorTwa
import Derived.Test.YtalhdjjebcmloaaDoorTwb
import Derived.Test.YtalhdjjebcmloaaDoorTwc
import Derived.Test.YtalhdjjebcmloaaDoorTwd
import Derived.Test.YtalhdjjebcmloaaDoorTwe
import Derived.Deep.RegionHeld3
namespace Go.Proofs.YtalhdjjebcmloaaDoor
open Go.RowKit Go.Shelf
set_option linter.unusedVariables false
set_option linter.unusedSimpArgs false
set_option maxRecDepth 4000

theorem law6TextOfs (k : Int) (A : Option Addr) (n0 c : Nat) (l0 : List Int) (s0 : ByteArray) (w : World) (hT : Tb w) (h : Zs w A n0 l0) (hc : n0 ≤ c) :
    Calls Tryd.prog 4 #[.int .i64 k, .slice A n0 c, .string s0] w fun e w' => e = .returned (.bool true) ∧ Below w.heap.size w w' := by
  cases hk : isK k
  · cases hr : rightT 12 (s0.extract 0 (min s0.size 500)).data.toList
    · exact ofsNoNo k A n0 c l0 s0 w hT h hc _ rfl hk hr
    · exact ofsNoOk k A n0 c l0 s0 w hT h hc _ rfl hk hr
  · cases hr : rightT 12 (s0.extract 0 (min s0.size 500)).data.toList
    · exact ofsOkBad k A n0 c l0 s0 w hT h hc _ rfl hk hr
    · cases ha : (runesT 12 (s0.extract 0 (min s0.size 500)).data.toList).all (hasT k)
      · exact ofsOkNot k A n0 c l0 s0 w hT h hc _ rfl hk hr ha
      · exact ofsOkAll k A n0 c l0 s0 w hT h hc _ rfl hk hr ha

end Go.Proofs.YtalhdjjebcmloaaDoor
