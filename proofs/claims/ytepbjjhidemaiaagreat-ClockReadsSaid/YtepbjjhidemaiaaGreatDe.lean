/-
  The project's date: Compare; below, RightClock.
-/
import Derived.Test.YtepbjjhidemaiaaGreatDd
namespace Go.Proofs.YtepbjjhidemaiaaGreat
open Go.RowKit
set_option linter.unusedVariables false
set_option linter.unusedSimpArgs false
set_option maxRecDepth 4000

def cmpI (x y : Int) : Int := if x < y then -1 else if y < x then 1 else 0
instance (y m d y' m' d' : Int) : Decidable (Lt3 y m d y' m' d') := by unfold Lt3; infer_instance
/-- Which date is ahead. -/
def cmp3 (y m d y' m' d' : Int) : Int := if Lt3 y m d y' m' d' then -1 else if Lt3 y' m' d' y m d then 1 else 0
def or3 (a b c : Int) : Int := if a = 0 then (if b = 0 then c else b) else a
theorem cmp3_or (y m d y' m' d' : Int) : or3 (cmpI y y') (cmpI m m') (cmpI d d') = cmp3 y m d y' m' d' := by
  have h1 : ∀ a b : Int, (a < b ∧ cmpI a b = -1) ∨ (b < a ∧ cmpI a b = 1) ∨ (a = b ∧ cmpI a b = 0) := by
    intro a b; unfold cmpI; split
    · left; omega
    · split
      · right; left; omega
      · right; right; omega
  have h2 : (Lt3 y m d y' m' d' ∧ cmp3 y m d y' m' d' = -1) ∨ (Lt3 y' m' d' y m d ∧ ¬ Lt3 y m d y' m' d' ∧ cmp3 y m d y' m' d' = 1) ∨ (¬ Lt3 y m d y' m' d' ∧ ¬ Lt3 y' m' d' y m d ∧ cmp3 y m d y' m' d' = 0) := by
    unfold cmp3; split
    · left; exact ⟨by assumption, rfl⟩
    · split
      · right; left; exact ⟨by assumption, by assumption, rfl⟩
      · right; right; exact ⟨by assumption, by assumption, rfl⟩
  unfold or3
  rcases h1 y y' with ⟨a1, a2⟩ | ⟨a1, a2⟩ | ⟨a1, a2⟩ <;> rcases h1 m m' with ⟨b1, b2⟩ | ⟨b1, b2⟩ | ⟨b1, b2⟩ <;> rcases h1 d d' with ⟨c1, c2⟩ | ⟨c1, c2⟩ | ⟨c1, c2⟩ <;>
    rw [a2, b2, c2] <;> simp only [Int.reduceNeg, Int.neg_eq_zero, if_neg, if_true, reduceCtorEq, Int.one_ne_zero, not_false_eq_true, if_false] <;>
    rcases h2 with ⟨e1, e2⟩ | ⟨e1, e0, e2⟩ | ⟨e1, e0, e2⟩ <;> rw [e2] <;> unfold Lt3 at * <;> omega

set_option maxHeartbeats 800000 in
theorem dtBelow (x b : Int) (w : World) :
    Calls Tryz.prog 82 #[.int .i64 x, .int .i64 b] w fun e w' => e = .returned (.bool (decide (0 ≤ x ∧ x < b))) ∧ w' = w := by
  go_enter Tryz.func82, Tryz.ntmps82
  by_cases h1 : 0 ≤ x
  · by_cases h2 : x < b
    · have hF : decide (0 ≤ x ∧ x < b) = true := by simp; omega
      go_wp2
      go_ret
      exact ⟨by rw [hF]; rfl, rfl⟩
    · have hF : decide (0 ≤ x ∧ x < b) = false := by simp; omega
      have h3 : decide (x < b) = false := by simp; omega
      go_wp2
      go_ret
      first | exact ⟨rfl, rfl⟩ | exact ⟨by rw [hF]; rfl, rfl⟩
  · have hF : decide (0 ≤ x ∧ x < b) = false := by simp; omega
    have h3 : decide (0 ≤ x) = false := by simp; omega
    go_wp2
    go_ret
    first | exact ⟨rfl, rfl⟩ | exact ⟨by rw [hF]; rfl, rfl⟩

end Go.Proofs.YtepbjjhidemaiaaGreat
