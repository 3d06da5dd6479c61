/-
  The law WholeRules, over any arguments.
-/
import Derived.Test.YtbjiknfebocepaaDoorLwR
namespace Go.Proofs.YtbjiknfebocepaaDoor
open Go.RowKit
set_option linter.unusedVariables false
set_option linter.unusedSimpArgs false
set_option maxRecDepth 4000

theorem lawRules (xa xb xc : Bool) (A B C : Option Addr) (na nb nc ca cb cc : Nat) (la lb lc : List UInt8) (w : World) (ha : Bs w A na la) (hb : Bs w B nb lb) (hc : Bs w C nc lc) (h1 : na ≤ ca) (h2 : nb ≤ cb) (h3 : nc ≤ cc) (ht : Tab w) :
    Calls Tryd.prog 6 #[.agg #[.bool xa, .slice A na ca], .agg #[.bool xb, .slice B nb cb], .agg #[.bool xc, .slice C nc cc]] w fun e w' => e = .returned (.bool true) ∧ Below w.heap.size w w' :=
  lawRules1 ⟨xa, la⟩ ⟨xb, lb⟩ ⟨xc, lc⟩ _ _ _ A B C na nb nc ca cb cc w ht (NumV.mk' xa ha h1) (NumV.mk' xb hb h2) (NumV.mk' xc hc h3) rfl rfl rfl (Nm.few_len _) (Nm.few_len _) (Nm.few_len _)
end Go.Proofs.YtbjiknfebocepaaDoor
