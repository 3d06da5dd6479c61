/-
  The reference: year, start, Number.
-/
import Derived.Test.YtepbjjhidemaiaaGreatDk
namespace Go.Proofs.YtepbjjhidemaiaaGreat
open Go.RowKit
set_option linter.unusedVariables false
set_option linter.unusedSimpArgs false
set_option maxRecDepth 4000

set_option maxHeartbeats 800000 in
theorem rf9year (y : Int) (w : World) (hy : I64 y) :
    Calls Tryz.prog 77 #[.int .i64 y] w fun e w' => e = .returned (.int .i64 (yr y)) ∧ w' = w := by
  have hC := Lib.hid (fun W => rf9Long y W hy)
  go_enter Tryz.func77, Tryz.ntmps77
  go_wp2_with fail
  refine (hC.out _).mono ?_
  rintro e w' ⟨rfl, rfl⟩
  by_cases hl : lng y
  · have e1 : decide (lng y) = true := by simpa using hl
    have e2 : Hid (yr y = 366) := by unfold Hid yr lg; rw [if_pos hl]; rfl
    rw [e1]
    go_wp2
    go_ret
    exact ⟨by rw [e2.out]; rfl, rfl⟩
  · have e1 : decide (lng y) = false := by simpa using hl
    have e2 : Hid (yr y = 365) := by unfold Hid yr lg; rw [if_neg hl]; rfl
    rw [e1]
    go_wp2
    go_ret
    exact ⟨by rw [e2.out]; rfl, rfl⟩

theorem ahd_bound {y : Int} (h0 : 0 ≤ y) (h1 : y ≤ 10000) : 0 ≤ ahd y ∧ ahd y ≤ 3652425 := by
  have a1 := ahd_mono h0
  have a2 := ahd_mono h1
  have a3 : ahd 10000 = 3652425 := by decide
  rw [ahd_zero] at a1; omega
theorem yr_bound (y : Int) : 365 ≤ yr y ∧ yr y ≤ 366 := by unfold yr; have := lg_cases y; omega

set_option maxHeartbeats 800000 in
theorem rf9start (y : Int) (w : World) (h0 : 0 ≤ y) (h1 : y ≤ 9999) :
    Calls Tryz.prog 76 #[.int .i64 y] w fun e w' => e = .returned (.int .i64 (-719528 + ahd y)) ∧ w' = w := by
  have hC := Lib.hid (fun (k : Int) W (k0 : 0 ≤ k) (k1 : k ≤ 9999) => rf9year k W (by unfold I64; omega))
  have q1 : y.tdiv 400 = y / 400 := Int.tdiv_eq_ediv_of_nonneg h0
  have hq := Lib.hid (ahd_q (y / 400))
  go_enter Tryz.func76, Tryz.ntmps76
  go_wp2
  go_loopw [3, 4] (fun n k wr => ∃ j : Int, k = .int .i64 j ∧ n = .int .i64 (-719528 + ahd j) ∧ 0 ≤ j ∧ j ≤ y ∧ wr = w) (fun _ k _ => (y - intOf k).toNat)
  case atStart => exact ⟨y / 400 * 400, rfl, by rw [hq.out], by omega, by omega, rfl⟩
  case round =>
    obtain ⟨j, rfl, rfl, j0, j1, rfl⟩ := hrel
    have hb := ahd_bound j0 (by omega)
    have hs := Lib.hid (ahd_succ j)
    have hy := yr_bound j
    by_cases hj : j < y
    · generalize ahd j = A at *
      go_wp2_with fail
      refine (hC.out _ _ j0 (by omega)).mono ?_
      rintro e w' ⟨rfl, rfl⟩
      generalize yr j = Y at *
      go_wp2
      go_roundw
      case rel => exact ⟨j + 1, by go_num, by rw [hs.out]; congr 1; omega, by omega, by omega, by trivial⟩
      case measure => simp [intOf]; omega
    · have hjy : j = y := by omega
      subst hjy
      go_wp2
      go_ret
      exact ⟨rfl, rfl⟩

set_option maxHeartbeats 1600000 in
theorem rf9Number (y m d : Int) (w : World) (hR : Rgt y m d) :
    Calls Tryz.prog 57 #[dv y m d] w fun e w' => e = .returned (.int .i64 (num y m d)) ∧ Below w.heap.size w w' := by
  unfold dv
  have hm := hR.month
  obtain ⟨g1, g2, g3, g4⟩ := id hR
  have g5 := (dys_le y m).2
  have hy : I64 y := by unfold I64; omega
  have hDs := Lib.hid (fun k W => rf9Days y k W hy)
  have hSt := Lib.hid (fun W => rf9start y W g1 g2)
  have hab := ahd_bound g1 (show y ≤ 10000 by omega)
  have hb := Blk.three_new w (.int .i64 y) (.int .i64 m) (.int .i64 d) 74
  have hB := Lib.hid (below_alloc1 w (.cells #[.int .i64 y, .int .i64 m, .int .i64 d] 74))
  obtain ⟨c0, c1, c2⟩ := hb.three
  have Hb := Lib.hid hb
  clear hR hb
  go_enter Tryz.func57, Tryz.ntmps57
  go_wp2_with fail
  refine (hSt.out _).mono ?_
  rintro e w1 ⟨rfl, rfl⟩
  go_wp2
  generalize w.alloc (.cells #[.int .i64 y, .int .i64 m, .int .i64 d] 74) = w1 at *
  clear c0 c1 c2
  go_loopw [3, 4] (fun n k wr => ∃ j : Int, 1 ≤ j ∧ j ≤ m ∧ k = .int .i64 j ∧ n = .int .i64 (-719528 + ahd y + mon y j) ∧ Below w1.heap.size w1 wr) (fun _ k _ => (m - intOf k).toNat)
  case atStart => exact ⟨1, by omega, by omega, rfl, by rw [mon_one]; congr 1; omega, Below.refl _ _⟩
  case round =>
    obtain ⟨j, j1, j2, rfl, rfl, hq⟩ := hrel
    obtain ⟨c0, c1, c2⟩ := (Hb.out.below hq).three
    have hmj := Lib.hid (mon_ge (y := y) (a := j) (by omega) (by omega))
    have hyr := yr_bound y
    have hmb : 0 ≤ mon y j ∧ mon y j ≤ 366 := by have := hmj.out; omega
    have HQ := Lib.hid hq
    clear hq
    by_cases hj : j < m
    · have hms := Lib.hid (mon_succ (y := y) (m := j) (by omega) (by omega))
      have hdj := dys_le y j
      generalize mon y j = M at *
      go_wp2_with fail
      refine (hDs.out _ _).mono ?_
      rintro e w2 ⟨rfl, hq2⟩
      have HQ2 := Lib.hid (HQ.out.trans (hq2.mono HQ.out.size))
      clear hq2 c0 c1 c2
      generalize dys y j = D at *
      go_wp2
      go_roundw
      case rel => exact ⟨j + 1, by omega, by omega, by go_num, by rw [hms.out]; congr 1; omega, HQ2.out⟩
      case measure => simp [intOf]; omega
    · have hjm : j = m := by omega
      subst hjm
      have hv : Hid (-719528 + ahd y + mon y j + d - 1 = num y j d) := by unfold Hid num; rfl
      go_wp2
      go_ret
      exact ⟨by rw [← hv.out]; rfl, hB.out.trans (Below.mono HQ.out hB.out.size)⟩
end Go.Proofs.YtepbjjhidemaiaaGreat
