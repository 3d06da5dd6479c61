/-
  The project's date: Long, Days, Right, ahead.
-/
import Derived.Test.YtepbjjhidemaiaaGreatDa
import Derived.Test.YtepbjjhidemaiaaGreatDm
namespace Go.Proofs.YtepbjjhidemaiaaGreat
open Go.RowKit
set_option linter.unusedVariables false
set_option linter.unusedSimpArgs false
set_option maxRecDepth 4000

set_option maxHeartbeats 800000 in
theorem dtLong (y : Int) (w : World) (hy : I64 y) :
    Calls Tryz.prog 93 #[.int .i64 y] w fun e w' => e = .returned (.bool (decide (lng y))) ∧ w' = w := by
  have hL := Lib.hid (lng_iff_tmod y)
  obtain ⟨h0, h1⟩ := hy
  have fin : Hid (∀ q, (q = true ↔ lng y) → Ending.returned (.bool q) = .returned (.bool (decide (lng y)))) := by
    intro q hq; congr 2; by_cases h : lng y <;> simp_all
  go_enter Tryz.func93, Tryz.ntmps93
  go_wp2
  all_goals
    go_ret
    refine ⟨fin.out _ ?_, rfl⟩
    rw [hL.out]
    simp_all

set_option maxHeartbeats 800000 in
theorem dtDays (y m : Int) (w : World) (hy : I64 y) :
    Calls Tryz.prog 81 #[.int .i64 y, .int .i64 m] w fun e w' => e = .returned (.int .i64 (dys y m)) ∧ w' = w := by
  have hC := Lib.hid (fun W => dtLong y W hy)
  go_enter Tryz.func81, Tryz.ntmps81
  have fin : Hid (∀ q, q = dys y m → Ending.returned (.int .i64 q) = .returned (.int .i64 (dys y m))) := by rintro q rfl; rfl
  by_cases g : 1 ≤ m ∧ m ≤ 12
  rotate_left
  · have n1 : (m == 1) = false := by simp; omega
    have n2 : (m == 2) = false := by simp; omega
    have n3 : (m == 3) = false := by simp; omega
    have n4 : (m == 4) = false := by simp; omega
    have n5 : (m == 5) = false := by simp; omega
    have n6 : (m == 6) = false := by simp; omega
    have n7 : (m == 7) = false := by simp; omega
    have n8 : (m == 8) = false := by simp; omega
    have n9 : (m == 9) = false := by simp; omega
    have n10 : (m == 10) = false := by simp; omega
    have n11 : (m == 11) = false := by simp; omega
    have n12 : (m == 12) = false := by simp; omega
    have hF : Hid (0 = dys y m) := by
      unfold Hid dys
      rw [if_neg (by omega), if_neg (by omega), if_neg (by omega)]
    clear g
    go_wp2_with fail
    go_ret
    exact ⟨fin.out _ hF.out, rfl⟩
  have h12 := months g.1 g.2
  clear g
  rcases h12 with rfl | g2 | rfl | rfl | rfl | rfl | rfl | rfl | rfl | rfl | rfl | rfl
  rotate_left
  rotate_left
  iterate 10
    go_wp2_with fail
    go_ret
    exact ⟨rfl, rfl⟩
  · go_wp2_with fail
    go_ret
    exact ⟨rfl, rfl⟩
  subst g2
  go_wp2_with fail
  refine (hC.out _).mono ?_
  rintro e w' ⟨rfl, rfl⟩
  by_cases hl : lng y
  · have e1 : decide (lng y) = true := by simpa using hl
    have e2 : Hid (lg y = 1) := by unfold Hid lg; rw [if_pos hl]
    rw [e1]
    go_wp2
    go_ret
    refine ⟨fin.out _ ?_, rfl⟩
    have := e2.out
    unfold dys
    repeat' split
    all_goals omega
  · have e1 : decide (lng y) = false := by simpa using hl
    have e2 : Hid (lg y = 0) := by unfold Hid lg; rw [if_neg hl]
    rw [e1]
    go_wp2
    go_ret
    refine ⟨fin.out _ ?_, rfl⟩
    have := e2.out
    unfold dys
    repeat' split
    all_goals omega

set_option maxHeartbeats 800000 in
theorem dtAhead (y : Int) (w : World) (h0 : 0 ≤ y) (h1 : y ≤ 10000) :
    Calls Tryz.prog 80 #[.int .i64 y] w fun e w' => e = .returned (.int .i64 (ahd y)) ∧ w' = w := by
  have fin : Hid (∀ q, q = ahd y → Ending.returned (.int .i64 q) = .returned (.int .i64 (ahd y))) := by rintro q rfl; rfl
  have d4 : (y + 3).tdiv 4 = (y + 3) / 4 := Int.tdiv_eq_ediv_of_nonneg (by omega)
  have d100 : (y + 99).tdiv 100 = (y + 99) / 100 := Int.tdiv_eq_ediv_of_nonneg (by omega)
  have d400 : (y + 399).tdiv 400 = (y + 399) / 400 := Int.tdiv_eq_ediv_of_nonneg (by omega)
  go_enter Tryz.func80, Tryz.ntmps80
  go_wp2
  go_ret
  refine ⟨fin.out _ ?_, rfl⟩
  unfold ahd; omega

theorem dec_and {p q : Prop} [Decidable p] [Decidable q] : decide (p ∧ q) = (decide p && decide q) := by by_cases p <;> by_cases q <;> simp [*]

set_option maxHeartbeats 1600000 in
theorem dtRight (y m d : Int) (w : World) (hy : I64 y) (hm : I64 m) (hd : I64 d) :
    Calls Tryz.prog 79 #[.agg #[.int .i64 y, .int .i64 m, .int .i64 d]] w fun e w' => e = .returned (.bool (decide (Rgt y m d))) ∧ Below w.heap.size w w' := by
  have hC := Lib.hid (fun W => dtDays y m W hy)
  have fin : Hid (∀ q, (q = true ↔ Rgt y m d) → Ending.returned (.bool q) = .returned (.bool (decide (Rgt y m d)))) := by
    intro q hq; congr 2; by_cases h : Rgt y m d <;> simp_all
  have hb := Blk.new w [.int .i64 y, .int .i64 m, .int .i64 d] 85
  obtain ⟨c0, c1, c2⟩ := hb.three
  clear hb
  go_enter Tryz.func79, Tryz.ntmps79
  by_cases g : 0 ≤ y ∧ y ≤ 9999 ∧ 1 ≤ d
  · obtain ⟨g1, g2, g3⟩ := g
    go_wp2
    go_quiet ((go_at_call 81; exact Calls.quiet_of_same (hC.out _)))
    go_wp2
    go_ret
    refine ⟨fin.out _ ?_, below_drewN (below_alloc1 _ _) _⟩
    simp only [decide_eq_true_eq]
    unfold Rgt
    omega
  · have hF : Hid (¬ Rgt y m d) := by unfold Hid Rgt; omega
    by_cases g1 : 0 ≤ y
    · by_cases g2 : y ≤ 9999
      · have g3 : ¬ 1 ≤ d := by omega
        have g3' : decide (1 ≤ d) = false := by simpa using g3
        go_wp2
        go_quiet (fail)
        go_wp2
        go_ret
        exact ⟨fin.out _ (by simp [hF.out]), below_drewN (below_alloc1 _ _) _⟩
      · have g2' : decide (y ≤ 9999) = false := by simpa using g2
        go_wp2
        go_quiet (fail)
        go_wp2
        go_ret
        exact ⟨fin.out _ (by simp [hF.out]), below_drewN (below_alloc1 _ _) _⟩
    · have g1' : decide (0 ≤ y) = false := by simpa using g1
      go_wp2
      go_quiet (fail)
      go_wp2
      go_ret
      exact ⟨fin.out _ (by simp [hF.out]), below_drewN (below_alloc1 _ _) _⟩
end Go.Proofs.YtepbjjhidemaiaaGreat
