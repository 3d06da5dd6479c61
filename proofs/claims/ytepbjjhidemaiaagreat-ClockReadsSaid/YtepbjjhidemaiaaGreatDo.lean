/-
  The reference: RightClock, Second, At.
-/
import Derived.Test.YtepbjjhidemaiaaGreatDn
namespace Go.Proofs.YtepbjjhidemaiaaGreat
open Go.RowKit
set_option linter.unusedVariables false
set_option linter.unusedSimpArgs false
set_option maxRecDepth 4000

set_option maxHeartbeats 3200000 in
theorem rf9RightClock (y m d a b c : Int) (w : World) (hy : I64 y) (hm : I64 m) (hd : I64 d) :
    Calls Tryz.prog 37 #[cv y m d a b c] w fun e w' => e = .returned (.bool (decide (RgtC y m d a b c))) ∧ Below w.heap.size w w' := by
  unfold cv
  have hC := Lib.hid (fun W => rf9Right y m d W hy hm hd)
  unfold dv at hC
  have hb := Blk.six_new w (.int .i64 y) (.int .i64 m) (.int .i64 d) (.int .i64 a) (.int .i64 b) (.int .i64 c) 76
  obtain ⟨c0, c1, c2, c3, c4, c5⟩ := hb.six
  have HB := Lib.hid (below_alloc1 w (.cells #[.int .i64 y, .int .i64 m, .int .i64 d, .int .i64 a, .int .i64 b, .int .i64 c] 76))
  have Hb := Lib.hid hb
  clear hb
  have fin : Hid (∀ q, (q = true ↔ RgtC y m d a b c) → Ending.returned (.bool q) = .returned (.bool (decide (RgtC y m d a b c)))) := by
    intro q hq; congr 2; by_cases h : RgtC y m d a b c <;> simp_all
  go_enter Tryz.func37, Tryz.ntmps37
  go_wp2_with fail
  refine (hC.out _).mono ?_
  rintro e w2 ⟨rfl, hB2⟩
  have Hb2 := Lib.hid (Hb.out.below hB2)
  have HB2 := Lib.hid (HB.out.trans (hB2.mono HB.out.size))
  clear c0 c1 c2 c3 c4 c5 hB2 Hb HB
  obtain ⟨c0, c1, c2, c3, c4, c5⟩ := Hb2.out.six
  by_cases h1 : Rgt y m d
  rotate_left
  · have e1 : decide (Rgt y m d) = false := by simpa using h1
    have H1 := Lib.hid h1
    rw [e1]
    clear h1 e1
    go_wp2
    go_ret
    exact ⟨fin.out _ ⟨fun h => by simp at h, fun h => absurd h.1 H1.out⟩, HB2.out⟩
  have e1 : decide (Rgt y m d) = true := by simpa using h1
  have H1 := Lib.hid h1
  rw [e1]
  clear h1 e1
  by_cases g1 : 0 ≤ a
  rotate_left
  · have e1 : decide (0 ≤ a) = false := by simpa using g1
    have H2 : Hid (¬ RgtC y m d a b c) := by unfold Hid RgtC; omega
    go_wp2
    go_ret
    exact ⟨fin.out _ ⟨fun h => by simp at h, fun h => absurd h H2.out⟩, HB2.out⟩
  by_cases g2 : a ≤ 23
  rotate_left
  · have e1 : decide (a ≤ 23) = false := by simpa using g2
    have H2 : Hid (¬ RgtC y m d a b c) := by unfold Hid RgtC; omega
    go_wp2
    go_ret
    exact ⟨fin.out _ ⟨fun h => by simp at h, fun h => absurd h H2.out⟩, HB2.out⟩
  by_cases g3 : 0 ≤ b
  rotate_left
  · have e1 : decide (0 ≤ b) = false := by simpa using g3
    have H2 : Hid (¬ RgtC y m d a b c) := by unfold Hid RgtC; omega
    go_wp2
    go_ret
    exact ⟨fin.out _ ⟨fun h => by simp at h, fun h => absurd h H2.out⟩, HB2.out⟩
  by_cases g4 : b ≤ 59
  rotate_left
  · have e1 : decide (b ≤ 59) = false := by simpa using g4
    have H2 : Hid (¬ RgtC y m d a b c) := by unfold Hid RgtC; omega
    go_wp2
    go_ret
    exact ⟨fin.out _ ⟨fun h => by simp at h, fun h => absurd h H2.out⟩, HB2.out⟩
  by_cases g5 : 0 ≤ c
  rotate_left
  · have e1 : decide (0 ≤ c) = false := by simpa using g5
    have H2 : Hid (¬ RgtC y m d a b c) := by unfold Hid RgtC; omega
    go_wp2
    go_ret
    exact ⟨fin.out _ ⟨fun h => by simp at h, fun h => absurd h H2.out⟩, HB2.out⟩
  by_cases g6 : c ≤ 59
  rotate_left
  · have e1 : decide (c ≤ 59) = false := by simpa using g6
    have H2 : Hid (¬ RgtC y m d a b c) := by unfold Hid RgtC; omega
    go_wp2
    go_ret
    exact ⟨fin.out _ ⟨fun h => by simp at h, fun h => absurd h H2.out⟩, HB2.out⟩
  have H2 : Hid (RgtC y m d a b c) := ⟨H1.out, by omega, by omega, by omega⟩
  go_wp2
  go_ret
  exact ⟨fin.out _ ⟨fun _ => H2.out, fun _ => rfl⟩, HB2.out⟩

set_option maxHeartbeats 3200000 in
theorem rf9Second (y m d a b c : Int) (w : World) (hR : RgtC y m d a b c) :
    Calls Tryz.prog 38 #[cv y m d a b c] w fun e w' => e = .returned (.int .i64 (sec y m d a b c)) ∧ Below w.heap.size w w' := by
  unfold cv
  obtain ⟨h1, h2, h3, h4⟩ := id hR
  have hr := num_range h1
  have hC := Lib.hid (fun W => rf9Number y m d W h1)
  unfold dv at hC
  unfold sec
  generalize num y m d = N at *
  have wr : ∀ x, I64 x → IntKind.i64.wrap x = x := fun x h => by unfold I64 at h; simp [IntKind.wrap, IntKind.bits, IntKind.signed]; omega
  have wr1 := wr (N * 86400) (by unfold I64; omega)
  have wr2 := wr (3600 * a) (by unfold I64; omega)
  have wr3 := wr (60 * b) (by unfold I64; omega)
  have wr4 := wr (N * 86400 + 3600 * a) (by unfold I64; omega)
  have wr5 := wr (N * 86400 + 3600 * a + 60 * b) (by unfold I64; omega)
  have wr6 := wr (N * 86400 + 3600 * a + 60 * b + c) (by unfold I64; omega)
  clear hR h1 wr
  have CEL : Hid (∀ W : World, Below (w.alloc (.cells #[.int .i64 y, .int .i64 m, .int .i64 d, .int .i64 a, .int .i64 b, .int .i64 c] 76)).heap.size (w.alloc (.cells #[.int .i64 y, .int .i64 m, .int .i64 d, .int .i64 a, .int .i64 b, .int .i64 c] 76)) W → W.cell? ⟨w.heap.size, 0, none⟩ = some (.int .i64 y) ∧ W.cell? ⟨w.heap.size, 1, none⟩ = some (.int .i64 m) ∧ W.cell? ⟨w.heap.size, 2, none⟩ = some (.int .i64 d) ∧ W.cell? ⟨w.heap.size, 3, none⟩ = some (.int .i64 a) ∧ W.cell? ⟨w.heap.size, 4, none⟩ = some (.int .i64 b) ∧ W.cell? ⟨w.heap.size, 5, none⟩ = some (.int .i64 c)) := by
    intro W hW
    exact ((Blk.six_new w (.int .i64 y) (.int .i64 m) (.int .i64 d) (.int .i64 a) (.int .i64 b) (.int .i64 c) 76).below hW).six
  have hBx := Lib.hid (below_alloc1 w (.cells #[.int .i64 y, .int .i64 m, .int .i64 d, .int .i64 a, .int .i64 b, .int .i64 c] 76))
  go_enter Tryz.func38, Tryz.ntmps38
  go_upto_region 1 with fail
  refine wp_region_held_drew (S := fun w' => w'.cell? ⟨w.heap.size, 0, none⟩ = some (.int .i64 y) ∧ w'.cell? ⟨w.heap.size, 1, none⟩ = some (.int .i64 m) ∧ w'.cell? ⟨w.heap.size, 2, none⟩ = some (.int .i64 d) ∧ w'.cell? ⟨w.heap.size, 3, none⟩ = some (.int .i64 a) ∧ w'.cell? ⟨w.heap.size, 4, none⟩ = some (.int .i64 b) ∧ w'.cell? ⟨w.heap.size, 5, none⟩ = some (.int .i64 c)) (by kernel_rfl) ?hb0 (fun hHeld => ?_)
  case hb0 => (try dsimp only); exact CEL.out _ (below_drewN (Below.refl _ _) 1)
  refine wpAnyH_take (i := 0) (v := ?qv0) rfl (by kernel_rfl) (by kernel_rfl) (by kernel_rfl) (fun _ _ _ h => h) (Or.inl ⟨by kernel_rfl, ?qy0⟩) (by assumption) ?_
  case qy0 => (intro w hSw; (try dsimp only at hSw); go_simp) <;> (try with_reducible rfl)
  try simp only [Act.put, List.setIfInBounds_toArray, List.set_cons_zero, List.set_cons_succ, List.getElem_toArray, List.getElem_cons_succ, List.getElem_cons_zero]
  refine wpAnyH_take (i := 1) (v := ?qv1) rfl (by kernel_rfl) (by kernel_rfl) (by kernel_rfl) (fun _ _ _ h => h) (Or.inl ⟨by kernel_rfl, ?qy1⟩) (by assumption) ?_
  case qy1 => (intro w hSw; (try dsimp only at hSw); go_simp) <;> (try with_reducible rfl)
  try simp only [Act.put, List.setIfInBounds_toArray, List.set_cons_zero, List.set_cons_succ, List.getElem_toArray, List.getElem_cons_succ, List.getElem_cons_zero]
  refine wpAnyH_take (i := 4) (v := ?qv4) rfl (by kernel_rfl) (by kernel_rfl) (by kernel_rfl) (fun _ _ _ h => h) (Or.inl ⟨by kernel_rfl, ?qy4⟩) (by assumption) ?_
  case qy4 => (intro w hSw; (try dsimp only at hSw); go_simp) <;> (try with_reducible rfl)
  try simp only [Act.put, List.setIfInBounds_toArray, List.set_cons_zero, List.set_cons_succ, List.getElem_toArray, List.getElem_cons_succ, List.getElem_cons_zero]
  refine wpAnyH_take (i := 5) (v := ?qv5) rfl (by kernel_rfl) (by kernel_rfl) (by kernel_rfl) (fun _ _ _ h => h) (Or.inl ⟨by kernel_rfl, ?qy5⟩) (by assumption) ?_
  case qy5 => (intro w hSw; (try dsimp only at hSw); go_simp) <;> (try with_reducible rfl)
  try simp only [Act.put, List.setIfInBounds_toArray, List.set_cons_zero, List.set_cons_succ, List.getElem_toArray, List.getElem_cons_succ, List.getElem_cons_zero]
  refine wpAnyH_take (i := 6) (v := ?qv6) rfl (by kernel_rfl) (by kernel_rfl) (by kernel_rfl) (fun _ _ _ h => h) (Or.inl ⟨by kernel_rfl, ?qy6⟩) (by assumption) ?_
  case qy6 => (intro w hSw; (try dsimp only at hSw); go_simp) <;> (try with_reducible rfl)
  try simp only [Act.put, List.setIfInBounds_toArray, List.set_cons_zero, List.set_cons_succ, List.getElem_toArray, List.getElem_cons_succ, List.getElem_cons_zero]
  refine wpAnyH_take (i := 8) (v := ?qv8) rfl (by kernel_rfl) (by kernel_rfl) (by kernel_rfl) (fun _ _ _ h => h) (Or.inl ⟨by kernel_rfl, ?qy8⟩) (by assumption) ?_
  case qy8 => (intro w hSw; (try dsimp only at hSw); go_simp) <;> (try with_reducible rfl)
  try simp only [Act.put, List.setIfInBounds_toArray, List.set_cons_zero, List.set_cons_succ, List.getElem_toArray, List.getElem_cons_succ, List.getElem_cons_zero]
  refine wpAnyH_take (i := 9) (v := ?qv9) rfl (by kernel_rfl) (by kernel_rfl) (by kernel_rfl) (fun _ _ _ h => h) (Or.inl ⟨by kernel_rfl, ?qy9⟩) (by assumption) ?_
  case qy9 => (intro w hSw; (try dsimp only at hSw); go_simp) <;> (try with_reducible rfl)
  try simp only [Act.put, List.setIfInBounds_toArray, List.set_cons_zero, List.set_cons_succ, List.getElem_toArray, List.getElem_cons_succ, List.getElem_cons_zero]
  refine wpAnyH_take (i := 10) (v := ?qv10) rfl (by kernel_rfl) (by kernel_rfl) (by kernel_rfl) (fun _ _ _ h => h) (Or.inl ⟨by kernel_rfl, ?qy10⟩) (by assumption) ?_
  case qy10 => (intro w hSw; (try dsimp only at hSw); go_simp) <;> (try with_reducible rfl)
  try simp only [Act.put, List.setIfInBounds_toArray, List.set_cons_zero, List.set_cons_succ, List.getElem_toArray, List.getElem_cons_succ, List.getElem_cons_zero]
  refine wpAnyH_take (i := 12) (v := ?qv12) rfl (by kernel_rfl) (by kernel_rfl) (by kernel_rfl) (fun _ _ _ h => h) (Or.inl ⟨by kernel_rfl, ?qy12⟩) (by assumption) ?_
  case qy12 => (intro w hSw; (try dsimp only at hSw); go_simp) <;> (try with_reducible rfl)
  try simp only [Act.put, List.setIfInBounds_toArray, List.set_cons_zero, List.set_cons_succ, List.getElem_toArray, List.getElem_cons_succ, List.getElem_cons_zero]
  refine wpAnyH_take (i := 13) (v := ?qv13) rfl (by kernel_rfl) (by kernel_rfl) (by kernel_rfl) (fun _ _ _ h => h) (Or.inl ⟨by kernel_rfl, ?qy13⟩) (by assumption) ?_
  case qy13 => (intro w hSw; (try dsimp only at hSw); go_simp) <;> (try with_reducible rfl)
  try simp only [Act.put, List.setIfInBounds_toArray, List.set_cons_zero, List.set_cons_succ, List.getElem_toArray, List.getElem_cons_succ, List.getElem_cons_zero]
  refine wpAnyH_ready (rs := [2]) (by kernel_rfl) (by simp) ?_
  refine AllReadyH.cons rfl (fun K hK => ?_) AllReadyH.nil
  go_simp
  refine (hC.out _).mono ?_
  rintro e w4 ⟨rfl, hB4⟩
  have hA4 : Below (w.alloc (.cells #[.int .i64 y, .int .i64 m, .int .i64 d, .int .i64 a, .int .i64 b, .int .i64 c] 76)).heap.size (w.alloc (.cells #[.int .i64 y, .int .i64 m, .int .i64 d, .int .i64 a, .int .i64 b, .int .i64 c] 76)) w4 := (below_drewN (Below.refl _ _) 1).trans (hB4.mono (by simp))
  refine hK.out _ _ ?hs2a (fun hHeld => ?_)
  case hs2a => (try dsimp only); exact CEL.out _ (hA4)
  clear hK K
  try simp only [Act.put, List.setIfInBounds_toArray, List.set_cons_zero, List.set_cons_succ, List.getElem_toArray, List.getElem_cons_succ, List.getElem_cons_zero]
  refine wpAnyH_take (i := 3) (v := ?qv3) rfl (by kernel_rfl) (by kernel_rfl) (by kernel_rfl) (fun _ _ _ h => h) (Or.inl ⟨by kernel_rfl, ?qy3⟩) (by assumption) ?_
  case qy3 => (intro w hSw; (try dsimp only at hSw); go_simp) <;> (try with_reducible rfl)
  try simp only [Act.put, List.setIfInBounds_toArray, List.set_cons_zero, List.set_cons_succ, List.getElem_toArray, List.getElem_cons_succ, List.getElem_cons_zero]
  refine wpAnyH_take (i := 7) (v := ?qv7) rfl (by kernel_rfl) (by kernel_rfl) (by kernel_rfl) (fun _ _ _ h => h) (Or.inl ⟨by kernel_rfl, ?qy7⟩) (by assumption) ?_
  case qy7 => (intro w hSw; (try dsimp only at hSw); go_simp) <;> (try with_reducible rfl)
  try simp only [Act.put, List.setIfInBounds_toArray, List.set_cons_zero, List.set_cons_succ, List.getElem_toArray, List.getElem_cons_succ, List.getElem_cons_zero]
  refine wpAnyH_take (i := 11) (v := ?qv11) rfl (by kernel_rfl) (by kernel_rfl) (by kernel_rfl) (fun _ _ _ h => h) (Or.inl ⟨by kernel_rfl, ?qy11⟩) (by assumption) ?_
  case qy11 => (intro w hSw; (try dsimp only at hSw); go_simp) <;> (try with_reducible rfl)
  try simp only [Act.put, List.setIfInBounds_toArray, List.set_cons_zero, List.set_cons_succ, List.getElem_toArray, List.getElem_cons_succ, List.getElem_cons_zero]
  refine wpAnyH_take (i := 14) (v := ?qv14) rfl (by kernel_rfl) (by kernel_rfl) (by kernel_rfl) (fun _ _ _ h => h) (Or.inl ⟨by kernel_rfl, ?qy14⟩) (by assumption) ?_
  case qy14 => (intro w hSw; (try dsimp only at hSw); go_simp) <;> (try with_reducible rfl)
  try simp only [Act.put, List.setIfInBounds_toArray, List.set_cons_zero, List.set_cons_succ, List.getElem_toArray, List.getElem_cons_succ, List.getElem_cons_zero]
  refine wpAnyH_take (i := 15) (v := ?qv15) rfl (by kernel_rfl) (by kernel_rfl) (by kernel_rfl) (fun _ _ _ h => h) (Or.inl ⟨by kernel_rfl, ?qy15⟩) (by assumption) ?_
  case qy15 => (intro w hSw; (try dsimp only at hSw); go_simp) <;> (try with_reducible rfl)
  try simp only [Act.put, List.setIfInBounds_toArray, List.set_cons_zero, List.set_cons_succ, List.getElem_toArray, List.getElem_cons_succ, List.getElem_cons_zero]
  refine wpAnyH_done (by kernel_rfl) ?_ _
  go_wp2
  go_ret
  exact ⟨rfl, hBx.out.trans (hA4.mono (by simp))⟩

end Go.Proofs.YtepbjjhidemaiaaGreat
