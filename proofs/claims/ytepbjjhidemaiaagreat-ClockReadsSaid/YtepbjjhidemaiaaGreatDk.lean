/-
  The reference: Long, Days, Right, year, start, Number.
-/
import Derived.Test.YtepbjjhidemaiaaGreatDj
namespace Go.Proofs.YtepbjjhidemaiaaGreat
open Go.RowKit
set_option linter.unusedVariables false
set_option linter.unusedSimpArgs false
set_option maxRecDepth 4000

set_option maxHeartbeats 800000 in
theorem rf9Long (y : Int) (w : World) (hy : I64 y) :
    Calls Tryz.prog 92 #[.int .i64 y] w fun e w' => e = .returned (.bool (decide (lng y))) ∧ w' = w := by
  have hL := Lib.hid (lng_iff_tmod y)
  obtain ⟨h0, h1⟩ := hy
  have hd : y.tmod 400 = 0 → y.tmod 100 = 0 := by rw [tm (by omega), tm (by omega)]; omega
  have hd2 : y.tmod 100 = 0 → y.tmod 4 = 0 := by rw [tm (by omega), tm (by omega)]; omega
  have HD := Lib.hid hd
  have HD2 := Lib.hid hd2
  clear hd hd2
  have fin : Hid (∀ q, (q = true ↔ lng y) → Ending.returned (.bool q) = .returned (.bool (decide (lng y)))) := by
    intro q hq; congr 2; by_cases h : lng y <;> simp_all
  go_enter Tryz.func92, Tryz.ntmps92
  by_cases g1 : y.tmod 400 = 0
  · have b1 : (y.tmod 400 == 0) = true := by simp [g1]
    go_wp2
    go_ret
    exact ⟨fin.out _ (by rw [hL.out]; simp [g1]), rfl⟩
  · have b1 : (y.tmod 400 == 0) = false := by simp [g1]
    by_cases g2 : y.tmod 100 = 0
    · have b2 : (y.tmod 100 == 0) = true := by simp [g2]
      go_wp2
      go_ret
      exact ⟨fin.out _ (by rw [hL.out]; simp [g1, g2]), rfl⟩
    · have b2 : (y.tmod 100 == 0) = false := by simp [g2]
      go_wp2
      go_ret
      exact ⟨fin.out _ (by rw [hL.out]; simp [g1, g2]), rfl⟩

set_option maxHeartbeats 1600000 in
theorem rf9Days (y m : Int) (w : World) (hy : I64 y) :
    Calls Tryz.prog 75 #[.int .i64 y, .int .i64 m] w fun e w' => e = .returned (.int .i64 (dys y m)) ∧ Below w.heap.size w w' := by
  have hC := Lib.hid (fun W => rf9Long y W hy)
  have fin : Hid (∀ q, q = dys y m → Ending.returned (.int .i64 q) = .returned (.int .i64 (dys y m))) := by rintro q rfl; rfl
  have hB := Lib.hid (below_alloc1 w (.cells #[.int .i64 31, .int .i64 28, .int .i64 31, .int .i64 30, .int .i64 31, .int .i64 30, .int .i64 31, .int .i64 31, .int .i64 30, .int .i64 31, .int .i64 30, .int .i64 31] 3))
  have hb := Blk.new w [.int .i64 31, .int .i64 28, .int .i64 31, .int .i64 30, .int .i64 31, .int .i64 30, .int .i64 31, .int .i64 31, .int .i64 30, .int .i64 31, .int .i64 30, .int .i64 31] 3
  have cs := hb.cell
  clear hb
  go_enter Tryz.func75, Tryz.ntmps75
  by_cases g : 1 ≤ m ∧ m ≤ 12
  rotate_left
  · have hF : Hid (0 = dys y m) := by
      unfold Hid dys
      rw [if_neg (by omega), if_neg (by omega), if_neg (by omega)]
    clear cs
    by_cases g1 : m < 1
    · have g1' : decide (m < 1) = true := by simpa using g1
      clear g
      go_wp2
      go_ret
      exact ⟨fin.out _ hF.out, Below.refl _ _⟩
    · have g1' : decide (m < 1) = false := by simpa using g1
      have g2 : 12 < m := by omega
      clear g
      go_wp2
      go_ret
      exact ⟨fin.out _ hF.out, Below.refl _ _⟩
  have h12 := months g.1 g.2
  clear g
  rcases h12 with rfl | g2 | rfl | rfl | rfl | rfl | rfl | rfl | rfl | rfl | rfl | rfl
  · have c' : (w.alloc (.cells #[.int .i64 31, .int .i64 28, .int .i64 31, .int .i64 30, .int .i64 31, .int .i64 30, .int .i64 31, .int .i64 31, .int .i64 30, .int .i64 31, .int .i64 30, .int .i64 31] 3)).cell? ⟨w.heap.size, 0, none⟩ = some (.int .i64 31) := cs 0
    clear cs
    go_wp2_with fail
    go_ret
    exact ⟨rfl, hB.out⟩
  · subst g2
    have c := cs 1
    have c' : (w.alloc (.cells #[.int .i64 31, .int .i64 28, .int .i64 31, .int .i64 30, .int .i64 31, .int .i64 30, .int .i64 31, .int .i64 31, .int .i64 30, .int .i64 31, .int .i64 30, .int .i64 31] 3)).cell? ⟨w.heap.size, 1, none⟩ = some (.int .i64 28) := c
    clear cs c
    go_wp2_with fail
    refine (hC.out _).mono ?_
    rintro e w' ⟨rfl, rfl⟩
    by_cases hl : lng y
    · have e1 : decide (lng y) = true := by simpa using hl
      have e2 : Hid (lg y = 1) := by unfold Hid lg; rw [if_pos hl]
      rw [e1]
      go_wp2
      go_ret
      refine ⟨fin.out _ ?_, hB.out⟩
      have := e2.out
      unfold dys
      repeat' split
      all_goals omega
    · have e1 : decide (lng y) = false := by simpa using hl
      have e2 : Hid (lg y = 0) := by unfold Hid lg; rw [if_neg hl]
      rw [e1]
      go_wp2
      go_ret
      refine ⟨fin.out _ ?_, hB.out⟩
      have := e2.out
      unfold dys
      repeat' split
      all_goals omega
  · have c' : (w.alloc (.cells #[.int .i64 31, .int .i64 28, .int .i64 31, .int .i64 30, .int .i64 31, .int .i64 30, .int .i64 31, .int .i64 31, .int .i64 30, .int .i64 31, .int .i64 30, .int .i64 31] 3)).cell? ⟨w.heap.size, 2, none⟩ = some (.int .i64 31) := cs 2
    clear cs
    go_wp2_with fail
    go_ret
    exact ⟨rfl, hB.out⟩
  · have c' : (w.alloc (.cells #[.int .i64 31, .int .i64 28, .int .i64 31, .int .i64 30, .int .i64 31, .int .i64 30, .int .i64 31, .int .i64 31, .int .i64 30, .int .i64 31, .int .i64 30, .int .i64 31] 3)).cell? ⟨w.heap.size, 3, none⟩ = some (.int .i64 30) := cs 3
    clear cs
    go_wp2_with fail
    go_ret
    exact ⟨rfl, hB.out⟩
  · have c' : (w.alloc (.cells #[.int .i64 31, .int .i64 28, .int .i64 31, .int .i64 30, .int .i64 31, .int .i64 30, .int .i64 31, .int .i64 31, .int .i64 30, .int .i64 31, .int .i64 30, .int .i64 31] 3)).cell? ⟨w.heap.size, 4, none⟩ = some (.int .i64 31) := cs 4
    clear cs
    go_wp2_with fail
    go_ret
    exact ⟨rfl, hB.out⟩
  · have c' : (w.alloc (.cells #[.int .i64 31, .int .i64 28, .int .i64 31, .int .i64 30, .int .i64 31, .int .i64 30, .int .i64 31, .int .i64 31, .int .i64 30, .int .i64 31, .int .i64 30, .int .i64 31] 3)).cell? ⟨w.heap.size, 5, none⟩ = some (.int .i64 30) := cs 5
    clear cs
    go_wp2_with fail
    go_ret
    exact ⟨rfl, hB.out⟩
  · have c' : (w.alloc (.cells #[.int .i64 31, .int .i64 28, .int .i64 31, .int .i64 30, .int .i64 31, .int .i64 30, .int .i64 31, .int .i64 31, .int .i64 30, .int .i64 31, .int .i64 30, .int .i64 31] 3)).cell? ⟨w.heap.size, 6, none⟩ = some (.int .i64 31) := cs 6
    clear cs
    go_wp2_with fail
    go_ret
    exact ⟨rfl, hB.out⟩
  · have c' : (w.alloc (.cells #[.int .i64 31, .int .i64 28, .int .i64 31, .int .i64 30, .int .i64 31, .int .i64 30, .int .i64 31, .int .i64 31, .int .i64 30, .int .i64 31, .int .i64 30, .int .i64 31] 3)).cell? ⟨w.heap.size, 7, none⟩ = some (.int .i64 31) := cs 7
    clear cs
    go_wp2_with fail
    go_ret
    exact ⟨rfl, hB.out⟩
  · have c' : (w.alloc (.cells #[.int .i64 31, .int .i64 28, .int .i64 31, .int .i64 30, .int .i64 31, .int .i64 30, .int .i64 31, .int .i64 31, .int .i64 30, .int .i64 31, .int .i64 30, .int .i64 31] 3)).cell? ⟨w.heap.size, 8, none⟩ = some (.int .i64 30) := cs 8
    clear cs
    go_wp2_with fail
    go_ret
    exact ⟨rfl, hB.out⟩
  · have c' : (w.alloc (.cells #[.int .i64 31, .int .i64 28, .int .i64 31, .int .i64 30, .int .i64 31, .int .i64 30, .int .i64 31, .int .i64 31, .int .i64 30, .int .i64 31, .int .i64 30, .int .i64 31] 3)).cell? ⟨w.heap.size, 9, none⟩ = some (.int .i64 31) := cs 9
    clear cs
    go_wp2_with fail
    go_ret
    exact ⟨rfl, hB.out⟩
  · have c' : (w.alloc (.cells #[.int .i64 31, .int .i64 28, .int .i64 31, .int .i64 30, .int .i64 31, .int .i64 30, .int .i64 31, .int .i64 31, .int .i64 30, .int .i64 31, .int .i64 30, .int .i64 31] 3)).cell? ⟨w.heap.size, 10, none⟩ = some (.int .i64 30) := cs 10
    clear cs
    go_wp2_with fail
    go_ret
    exact ⟨rfl, hB.out⟩
  · have c' : (w.alloc (.cells #[.int .i64 31, .int .i64 28, .int .i64 31, .int .i64 30, .int .i64 31, .int .i64 30, .int .i64 31, .int .i64 31, .int .i64 30, .int .i64 31, .int .i64 30, .int .i64 31] 3)).cell? ⟨w.heap.size, 11, none⟩ = some (.int .i64 31) := cs 11
    clear cs
    go_wp2_with fail
    go_ret
    exact ⟨rfl, hB.out⟩

set_option maxHeartbeats 3200000 in
theorem rf9Right (y m d : Int) (w : World) (hy : I64 y) (hm : I64 m) (hd : I64 d) :
    Calls Tryz.prog 56 #[dv y m d] w fun e w' => e = .returned (.bool (decide (Rgt y m d))) ∧ Below w.heap.size w w' := by
  unfold dv
  have hC := Lib.hid (fun W => rf9Days y m W hy)
  have fin : Hid (∀ q, (q = true ↔ Rgt y m d) → Ending.returned (.bool q) = .returned (.bool (decide (Rgt y m d)))) := by
    intro q hq; congr 2; by_cases h : Rgt y m d <;> simp_all
  have CEL : Hid (∀ W : World, Below (w.alloc (.cells #[.int .i64 y, .int .i64 m, .int .i64 d] 74)).heap.size (w.alloc (.cells #[.int .i64 y, .int .i64 m, .int .i64 d] 74)) W → W.cell? ⟨w.heap.size, 0, none⟩ = some (.int .i64 y) ∧ W.cell? ⟨w.heap.size, 1, none⟩ = some (.int .i64 m) ∧ W.cell? ⟨w.heap.size, 2, none⟩ = some (.int .i64 d)) := by
    intro W hW
    exact ((Blk.three_new w (.int .i64 y) (.int .i64 m) (.int .i64 d) 74).below hW).three
  have hBx := Lib.hid (below_alloc1 w (.cells #[.int .i64 y, .int .i64 m, .int .i64 d] 74))
  go_enter Tryz.func56, Tryz.ntmps56
  by_cases g : 0 ≤ y ∧ y < 10000 ∧ 0 < d
  · obtain ⟨g1, g2, g3⟩ := g
    go_upto_region 1 with fail
    refine wp_region_held_drew (S := fun w' => w'.cell? ⟨w.heap.size, 0, none⟩ = some (.int .i64 y) ∧ w'.cell? ⟨w.heap.size, 1, none⟩ = some (.int .i64 m) ∧ w'.cell? ⟨w.heap.size, 2, none⟩ = some (.int .i64 d)) (by kernel_rfl) ?hb0 (fun hHeld => ?_)
    case hb0 => (try dsimp only); exact CEL.out _ (below_drewN (Below.refl _ _) 1)
    refine wpAnyH_take (i := 0) (v := ?qv0) rfl (by kernel_rfl) (by kernel_rfl) (by kernel_rfl) (fun _ _ _ h => h) (Or.inl ⟨by kernel_rfl, ?qy0⟩) (by assumption) ?_
    case qy0 => (intro w hSw; (try dsimp only at hSw); go_simp) <;> (try with_reducible rfl)
    try simp only [Act.put, List.setIfInBounds_toArray, List.set_cons_zero, List.set_cons_succ, List.getElem_toArray, List.getElem_cons_succ, List.getElem_cons_zero]
    refine wpAnyH_take (i := 1) (v := ?qv1) rfl (by kernel_rfl) (by kernel_rfl) (by kernel_rfl) (fun _ _ _ h => h) (Or.inl ⟨by kernel_rfl, ?qy1⟩) (by assumption) ?_
    case qy1 => (intro w hSw; (try dsimp only at hSw); go_simp) <;> (try with_reducible rfl)
    try simp only [Act.put, List.setIfInBounds_toArray, List.set_cons_zero, List.set_cons_succ, List.getElem_toArray, List.getElem_cons_succ, List.getElem_cons_zero]
    refine wpAnyH_take (i := 2) (v := ?qv2) rfl (by kernel_rfl) (by kernel_rfl) (by kernel_rfl) (fun _ _ _ h => h) (Or.inl ⟨by kernel_rfl, ?qy2⟩) (by assumption) ?_
    case qy2 => (intro w hSw; (try dsimp only at hSw); go_simp) <;> (try with_reducible rfl)
    try simp only [Act.put, List.setIfInBounds_toArray, List.set_cons_zero, List.set_cons_succ, List.getElem_toArray, List.getElem_cons_succ, List.getElem_cons_zero]
    refine wpAnyH_take (i := 3) (v := ?qv3) rfl (by kernel_rfl) (by kernel_rfl) (by kernel_rfl) (fun _ _ _ h => h) (Or.inl ⟨by kernel_rfl, ?qy3⟩) (by assumption) ?_
    case qy3 => (intro w hSw; (try dsimp only at hSw); go_simp) <;> (try with_reducible rfl)
    try simp only [Act.put, List.setIfInBounds_toArray, List.set_cons_zero, List.set_cons_succ, List.getElem_toArray, List.getElem_cons_succ, List.getElem_cons_zero]
    refine wpAnyH_take (i := 4) (v := ?qv4) rfl (by kernel_rfl) (by kernel_rfl) (by kernel_rfl) (fun _ _ _ h => h) (Or.inl ⟨by kernel_rfl, ?qy4⟩) (by assumption) ?_
    case qy4 => (intro w hSw; (try dsimp only at hSw); go_simp) <;> (try with_reducible rfl)
    try simp only [Act.put, List.setIfInBounds_toArray, List.set_cons_zero, List.set_cons_succ, List.getElem_toArray, List.getElem_cons_succ, List.getElem_cons_zero]
    refine wpAnyH_take (i := 5) (v := ?qv5) rfl (by kernel_rfl) (by kernel_rfl) (by kernel_rfl) (fun _ _ _ h => h) (Or.inl ⟨by kernel_rfl, ?qy5⟩) (by assumption) ?_
    case qy5 => (intro w hSw; (try dsimp only at hSw); go_simp) <;> (try with_reducible rfl)
    try simp only [Act.put, List.setIfInBounds_toArray, List.set_cons_zero, List.set_cons_succ, List.getElem_toArray, List.getElem_cons_succ, List.getElem_cons_zero]
    refine wpAnyH_take (i := 6) (v := ?qv6) rfl (by kernel_rfl) (by kernel_rfl) (by kernel_rfl) (fun _ _ _ h => h) (Or.inl ⟨by kernel_rfl, ?qy6⟩) (by assumption) ?_
    case qy6 => (intro w hSw; (try dsimp only at hSw); go_simp) <;> (try with_reducible rfl)
    try simp only [Act.put, List.setIfInBounds_toArray, List.set_cons_zero, List.set_cons_succ, List.getElem_toArray, List.getElem_cons_succ, List.getElem_cons_zero]
    refine wpAnyH_take (i := 7) (v := ?qv7) rfl (by kernel_rfl) (by kernel_rfl) (by kernel_rfl) (fun _ _ _ h => h) (Or.inl ⟨by kernel_rfl, ?qy7⟩) (by assumption) ?_
    case qy7 => (intro w hSw; (try dsimp only at hSw); go_simp) <;> (try with_reducible rfl)
    try simp only [Act.put, List.setIfInBounds_toArray, List.set_cons_zero, List.set_cons_succ, List.getElem_toArray, List.getElem_cons_succ, List.getElem_cons_zero]
    refine wpAnyH_take (i := 8) (v := ?qv8) rfl (by kernel_rfl) (by kernel_rfl) (by kernel_rfl) (fun _ _ _ h => h) (Or.inl ⟨by kernel_rfl, ?qy8⟩) (by assumption) ?_
    case qy8 => (intro w hSw; (try dsimp only at hSw); go_simp) <;> (try with_reducible rfl)
    try simp only [Act.put, List.setIfInBounds_toArray, List.set_cons_zero, List.set_cons_succ, List.getElem_toArray, List.getElem_cons_succ, List.getElem_cons_zero]
    refine wpAnyH_take (i := 9) (v := ?qv9) rfl (by kernel_rfl) (by kernel_rfl) (by kernel_rfl) (fun _ _ _ h => h) (Or.inl ⟨by kernel_rfl, ?qy9⟩) (by assumption) ?_
    case qy9 => (intro w hSw; (try dsimp only at hSw); go_simp) <;> (try with_reducible rfl)
    try simp only [Act.put, List.setIfInBounds_toArray, List.set_cons_zero, List.set_cons_succ, List.getElem_toArray, List.getElem_cons_succ, List.getElem_cons_zero]
    refine wpAnyH_take (i := 10) (v := ?qv10) rfl (by kernel_rfl) (by kernel_rfl) (by kernel_rfl) (fun _ _ _ h => h) (Or.inl ⟨by kernel_rfl, ?qy10⟩) (by assumption) ?_
    case qy10 => (intro w hSw; (try dsimp only at hSw); go_simp) <;> (try with_reducible rfl)
    try simp only [Act.put, List.setIfInBounds_toArray, List.set_cons_zero, List.set_cons_succ, List.getElem_toArray, List.getElem_cons_succ, List.getElem_cons_zero]
    refine wpAnyH_take (i := 11) (v := ?qv11) rfl (by kernel_rfl) (by kernel_rfl) (by kernel_rfl) (fun _ _ _ h => h) (Or.inl ⟨by kernel_rfl, ?qy11⟩) (by assumption) ?_
    case qy11 => (intro w hSw; (try dsimp only at hSw); go_simp) <;> (try with_reducible rfl)
    try simp only [Act.put, List.setIfInBounds_toArray, List.set_cons_zero, List.set_cons_succ, List.getElem_toArray, List.getElem_cons_succ, List.getElem_cons_zero]
    refine wpAnyH_take (i := 12) (v := ?qv12) rfl (by kernel_rfl) (by kernel_rfl) (by kernel_rfl) (fun _ _ _ h => h) (Or.inl ⟨by kernel_rfl, ?qy12⟩) (by assumption) ?_
    case qy12 => (intro w hSw; (try dsimp only at hSw); go_simp) <;> (try with_reducible rfl)
    try simp only [Act.put, List.setIfInBounds_toArray, List.set_cons_zero, List.set_cons_succ, List.getElem_toArray, List.getElem_cons_succ, List.getElem_cons_zero]
    refine wpAnyH_take (i := 13) (v := ?qv13) rfl (by kernel_rfl) (by kernel_rfl) (by kernel_rfl) (fun _ _ _ h => h) (Or.inl ⟨by kernel_rfl, ?qy13⟩) (by assumption) ?_
    case qy13 => (intro w hSw; (try dsimp only at hSw); go_simp) <;> (try with_reducible rfl)
    try simp only [Act.put, List.setIfInBounds_toArray, List.set_cons_zero, List.set_cons_succ, List.getElem_toArray, List.getElem_cons_succ, List.getElem_cons_zero]
    refine wpAnyH_take (i := 14) (v := ?qv14) rfl (by kernel_rfl) (by kernel_rfl) (by kernel_rfl) (fun _ _ _ h => h) (Or.inl ⟨by kernel_rfl, ?qy14⟩) (by assumption) ?_
    case qy14 => (intro w hSw; (try dsimp only at hSw); go_simp) <;> (try with_reducible rfl)
    try simp only [Act.put, List.setIfInBounds_toArray, List.set_cons_zero, List.set_cons_succ, List.getElem_toArray, List.getElem_cons_succ, List.getElem_cons_zero]
    refine wpAnyH_take (i := 15) (v := ?qv15) rfl (by kernel_rfl) (by kernel_rfl) (by kernel_rfl) (fun _ _ _ h => h) (Or.inl ⟨by kernel_rfl, ?qy15⟩) (by assumption) ?_
    case qy15 => (intro w hSw; (try dsimp only at hSw); go_simp) <;> (try with_reducible rfl)
    try simp only [Act.put, List.setIfInBounds_toArray, List.set_cons_zero, List.set_cons_succ, List.getElem_toArray, List.getElem_cons_succ, List.getElem_cons_zero]
    refine wpAnyH_take (i := 16) (v := ?qv16) rfl (by kernel_rfl) (by kernel_rfl) (by kernel_rfl) (fun _ _ _ h => h) (Or.inl ⟨by kernel_rfl, ?qy16⟩) (by assumption) ?_
    case qy16 => (intro w hSw; (try dsimp only at hSw); go_simp) <;> (try with_reducible rfl)
    try simp only [Act.put, List.setIfInBounds_toArray, List.set_cons_zero, List.set_cons_succ, List.getElem_toArray, List.getElem_cons_succ, List.getElem_cons_zero]
    refine wpAnyH_take (i := 17) (v := ?qv17) rfl (by kernel_rfl) (by kernel_rfl) (by kernel_rfl) (fun _ _ _ h => h) (Or.inl ⟨by kernel_rfl, ?qy17⟩) (by assumption) ?_
    case qy17 => (intro w hSw; (try dsimp only at hSw); go_simp) <;> (try with_reducible rfl)
    try simp only [Act.put, List.setIfInBounds_toArray, List.set_cons_zero, List.set_cons_succ, List.getElem_toArray, List.getElem_cons_succ, List.getElem_cons_zero]
    refine wpAnyH_take (i := 18) (v := ?qv18) rfl (by kernel_rfl) (by kernel_rfl) (by kernel_rfl) (fun _ _ _ h => h) (Or.inl ⟨by kernel_rfl, ?qy18⟩) (by assumption) ?_
    case qy18 => (intro w hSw; (try dsimp only at hSw); go_simp) <;> (try with_reducible rfl)
    try simp only [Act.put, List.setIfInBounds_toArray, List.set_cons_zero, List.set_cons_succ, List.getElem_toArray, List.getElem_cons_succ, List.getElem_cons_zero]
    refine wpAnyH_take (i := 19) (v := ?qv19) rfl (by kernel_rfl) (by kernel_rfl) (by kernel_rfl) (fun _ _ _ h => h) (Or.inl ⟨by kernel_rfl, ?qy19⟩) (by assumption) ?_
    case qy19 => (intro w hSw; (try dsimp only at hSw); go_simp) <;> (try with_reducible rfl)
    try simp only [Act.put, List.setIfInBounds_toArray, List.set_cons_zero, List.set_cons_succ, List.getElem_toArray, List.getElem_cons_succ, List.getElem_cons_zero]
    refine wpAnyH_ready (rs := [20]) (by kernel_rfl) (by simp) ?_
    refine AllReadyH.cons rfl (fun K hK => ?_) AllReadyH.nil
    go_simp
    refine (hC.out _).mono ?_
    rintro e w4 ⟨rfl, hB4⟩
    have hA4 : Below (w.alloc (.cells #[.int .i64 y, .int .i64 m, .int .i64 d] 74)).heap.size (w.alloc (.cells #[.int .i64 y, .int .i64 m, .int .i64 d] 74)) w4 := (below_drewN (Below.refl _ _) 1).trans (hB4.mono (by simp))
    refine hK.out _ _ ?hs20a (fun hHeld => ?_)
    case hs20a => (try dsimp only); exact CEL.out _ (hA4)
    clear hK K
    try simp only [Act.put, List.setIfInBounds_toArray, List.set_cons_zero, List.set_cons_succ, List.getElem_toArray, List.getElem_cons_succ, List.getElem_cons_zero]
    refine wpAnyH_take (i := 21) (v := ?qv21) rfl (by kernel_rfl) (by kernel_rfl) (by kernel_rfl) (fun _ _ _ h => h) (Or.inl ⟨by kernel_rfl, ?qy21⟩) (by assumption) ?_
    case qy21 => (intro w hSw; (try dsimp only at hSw); go_simp) <;> (try with_reducible rfl)
    try simp only [Act.put, List.setIfInBounds_toArray, List.set_cons_zero, List.set_cons_succ, List.getElem_toArray, List.getElem_cons_succ, List.getElem_cons_zero]
    refine wpAnyH_take (i := 22) (v := ?qv22) rfl (by kernel_rfl) (by kernel_rfl) (by kernel_rfl) (fun _ _ _ h => h) (Or.inl ⟨by kernel_rfl, ?qy22⟩) (by assumption) ?_
    case qy22 => (intro w hSw; (try dsimp only at hSw); go_simp) <;> (try with_reducible rfl)
    try simp only [Act.put, List.setIfInBounds_toArray, List.set_cons_zero, List.set_cons_succ, List.getElem_toArray, List.getElem_cons_succ, List.getElem_cons_zero]
    refine wpAnyH_take (i := 23) (v := ?qv23) rfl (by kernel_rfl) (by kernel_rfl) (by kernel_rfl) (fun _ _ _ h => h) (Or.inl ⟨by kernel_rfl, ?qy23⟩) (by assumption) ?_
    case qy23 => (intro w hSw; (try dsimp only at hSw); go_simp) <;> (try with_reducible rfl)
    try simp only [Act.put, List.setIfInBounds_toArray, List.set_cons_zero, List.set_cons_succ, List.getElem_toArray, List.getElem_cons_succ, List.getElem_cons_zero]
    refine wpAnyH_done (by kernel_rfl) ?_ _
    go_wp2
    go_ret
    exact ⟨fin.out _ (by simp only [decide_eq_true_eq]; unfold Rgt; omega), hBx.out.trans (hA4.mono (by simp))⟩
  · have hF : Hid (¬ Rgt y m d) := by unfold Hid Rgt; omega
    by_cases g1 : 0 ≤ y
    · by_cases g2 : y < 10000
      · have g3 : ¬ 0 < d := by omega
        have g3' : decide (0 < d) = false := by simpa using g3
        go_wp2
        go_quiet (fail)
        go_wp2
        go_ret
        exact ⟨fin.out _ (by simp [hF.out]), below_drewN hBx.out _⟩
      · have g2' : decide (y < 10000) = false := by simpa using g2
        go_wp2
        go_quiet (fail)
        go_wp2
        go_ret
        exact ⟨fin.out _ (by simp [hF.out]), below_drewN hBx.out _⟩
    · have g1' : decide (0 ≤ y) = false := by simpa using g1
      go_wp2
      go_quiet (fail)
      go_wp2
      go_ret
      exact ⟨fin.out _ (by simp [hF.out]), below_drewN hBx.out _⟩
end Go.Proofs.YtepbjjhidemaiaaGreat
