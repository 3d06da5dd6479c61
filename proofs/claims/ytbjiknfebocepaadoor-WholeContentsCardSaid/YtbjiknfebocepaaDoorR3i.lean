/-
  The contracts of layer 3's reference: Right.
-/
import Derived.Test.YtbjiknfebocepaaDoorR3b
import Derived.Test.YtbjiknfebocepaaDoorWb
namespace Go.Proofs.YtbjiknfebocepaaDoor
open Go.RowKit Go.Joins
set_option linter.unusedVariables false
set_option linter.unusedSimpArgs false
set_option maxRecDepth 4000

set_option maxHeartbeats 1600000 in
theorem ref3Right (x : Nm) (v : Value) (w : World) (h : NumV w x v) :
    Calls Tryd.prog 17 #[v] w fun e w' => e = .returned (.bool x.okb) ∧ Below w.heap.size w w' := by
  obtain ⟨A, c, rfl, hb, hc⟩ := h
  obtain ⟨bl, l⟩ := x
  cases l with
  | nil =>
    cases bl
    all_goals
      go_enter Tryd.func17, Tryd.ntmps17
      go_wp2
      go_ret
      exact ⟨rfl, below_alloc1 _ _⟩
  | cons y r =>
    obtain ⟨b, o, rfl, hcell⟩ := hb.at_ (k := 0) (by simp)
    have hnx : nth (y :: r) 0 = (y.toNat : Int) := rfl
    rw [hnx, Nat.add_zero] at hcell
    clear hnx
    have hm0 : 0 < (y :: r).length := by simp
    simp only at hb hc ⊢
    generalize (y :: r).length = m at *
    have e1 : ((m : Int) == 0) = false := by simp; omega
    have e2 : (0 : Int) < (m : Int) := by omega
    have hcl : (w.alloc (.cells #[.bool bl, .slice (some ⟨b, o, none⟩) m c] 24)).cell? ⟨b, o, none⟩ = some (.int .u8 (y.toNat : Int)) := ((below_alloc1 w _).cell (World.block_lt_of_cell? w _ hcell)).trans hcell
    go_enter Tryd.func17, Tryd.ntmps17
    go_wp2
    go_ret
    refine ⟨?_, below_alloc1 _ _⟩
    have : ((y.toNat : Int) != 0) = (y.toNat != 0) := by rw [Bool.eq_iff_iff]; simp
    show _ = Ending.returned (.bool (y.toNat != 0))
    rw [← this]; rfl
end Go.Proofs.YtbjiknfebocepaaDoor
