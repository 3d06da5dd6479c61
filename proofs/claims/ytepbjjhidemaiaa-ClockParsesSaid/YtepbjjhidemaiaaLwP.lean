/-
  The law ClockParses.
-/
import Derived.Test.YtepbjjhidemaiaaKi
import Derived.Test.YtepbjjhidemaiaaKA
import Derived.Test.YtepbjjhidemaiaaKn
import Derived.Deep.RegionHeld3
namespace Go.Proofs.Ytepbjjhidemaiaa
open Go.RowKit
set_option linter.unusedVariables false
set_option linter.unusedSimpArgs false
set_option maxRecDepth 4000

theorem eqRT (w : World) (a b : Int) : (binOp .eql 23 (.agg #[.int .i64 a, .int .i64 b]) (.agg #[.int .i64 a, .int .i64 b])).run Try.prog w = .ok (.bool true) w := by go_simp
theorem neqCT (w : World) (a b : Int) : (binOp .neq 28 (.agg #[.int .i64 a, .int .i64 b]) (.agg #[.int .i64 a, .int .i64 b])).run Try.prog w = .ok (.bool false) w := by go_simp

set_option maxHeartbeats 6400000 in
theorem lawParses (k : Int) (A : Option Addr) (n0 n c : Nat) (b : List UInt8) (w : World) (hn0 : n = min n0 100) (hb : Bs w A n b) (hc0 : n0 ≤ c) :
    Calls Try.prog 4 #[.int .i64 k, .slice A n0 c] w fun e w' => e = .returned (.bool true) ∧ Below w.heap.size w w' := by
  have hc : n ≤ c := by omega
  have hn : n ≤ 100 := by omega
  have hmin : min (n0 : Int) 100 = (n : Int) := by omega
  have hmin2 : (if (100 : Int) < (n0 : Int) then (100 : Int) else (n0 : Int)) = (n : Int) := by split <;> omega
  have m1 : (n : Int) ≤ (c : Int) := by omega
  have HP0 := fun c' W (hW : Bs W A n b) => ckParse k A n c' b W hW (by omega)
  have HQ0 := fun c' W (hW : Bs W A n b) => rfParse k A n c' b W hW (by omega)
  generalize prsV k b = V at *
  obtain ⟨v1, v2, v3⟩ := V
  unfold prsE tmv at HP0 HQ0
  have HP := Lib.hid HP0
  have HQ := Lib.hid HQ0
  have HKn := Lib.hid known10
  have HOf0 := lwaOf
  unfold tmv at HOf0
  have HOf := Lib.hid HOf0
  have HS := Lib.hid hb
  clear hn0 HP0 HQ0 HOf0 hb hc0
  go_enter Try.func4, Try.ntmps4
  go_wp2_with fail
  refine (HP.out _ _ HS.out).mono ?_
  rintro e w2 ⟨rfl, hB2⟩
  have hB3 := hB2.alloc hB2.size (.cells #[.int .i64 v1, .int .i64 v2] 28)
  have HB3 := Lib.hid hB3
  have HS3 := Lib.hid (HS.out.below hB3)
  have X3 := Lib.hid (Blk.two_new w2 (.int .i64 v1) (.int .i64 v2) 28)
  clear hB2 hB3 HP HS
  go_wp2_with fail
  generalize w2.alloc (.cells #[.int .i64 v1, .int .i64 v2] 28) = W3 at *
  generalize w2.heap.size = D1 at *
  refine (HQ.out _ _ HS3.out).mono ?_
  rintro e w4 ⟨rfl, hB4⟩
  have hB5 := hB4.alloc hB4.size (.cells #[.int .i64 v1, .int .i64 v2] 23)
  have HB5 := Lib.hid (HB3.out.trans (hB5.mono HB3.out.size))
  have X5 := Lib.hid (X3.out.below hB5)
  have Y5 := Lib.hid (Blk.two_new w4 (.int .i64 v1) (.int .i64 v2) 23)
  clear hB4 hB5 HQ HS3 HB3 X3
  go_upto_region 4 with (fail)
  generalize w4.alloc (.cells #[.int .i64 v1, .int .i64 v2] 23) = W5 at *
  generalize w4.heap.size = D2 at *
  have ST : Hid (∀ W, Below W5.heap.size W5 W → W.cell? ⟨D1, 0, none⟩ = some (.int .i64 v1) ∧ W.cell? ⟨D1, 1, none⟩ = some (.int .i64 v2) ∧ W.cell? ⟨D2, 0, none⟩ = some (.int .i64 v1) ∧ W.cell? ⟨D2, 1, none⟩ = some (.int .i64 v2)) :=
    fun W hW => ⟨(X5.out.below hW).two.1, (X5.out.below hW).two.2.1, (Y5.out.below hW).two.1, (Y5.out.below hW).two.2.1⟩
  have eqT := fun W => eqRT W v1 v2
  refine wp_region_held_drew (S := fun W => W.cell? ⟨D1, 0, none⟩ = some (.int .i64 v1) ∧ W.cell? ⟨D1, 1, none⟩ = some (.int .i64 v2) ∧ W.cell? ⟨D2, 0, none⟩ = some (.int .i64 v1) ∧ W.cell? ⟨D2, 1, none⟩ = some (.int .i64 v2)) (by kernel_rfl) ?_ (fun hHeld => ?_)
  · (try dsimp only); exact ST.out _ (Below.drew (Below.refl _ _))
  refine wpAnyH_ready (rs := [0]) (by kernel_rfl) (by simp) ?_
  refine AllReadyH.cons rfl (fun K hK => ?_) AllReadyH.nil
  go_simp
  refine (HKn.out _).mono ?_
  rintro e w6 ⟨rfl, hy6⟩
  have z6 := (Below.drew (Below.refl W5.heap.size W5)).trans hy6
  clear hy6
  go_wp2_with fail
  refine hK.out _ _ ?_ (fun hHeld => ?_)
  · (try dsimp only); exact ST.out _ z6
  clear hK K
  try simp only [Act.put, List.setIfInBounds_toArray, List.set_cons_zero, List.set_cons_succ, List.getElem_toArray, List.getElem_cons_succ, List.getElem_cons_zero]
  refine wpAnyH_take (i := 1) (v := ?_) rfl (by kernel_rfl) (by kernel_rfl) (by kernel_rfl) (fun _ _ _ h => h) (Or.inl ⟨by kernel_rfl, ?_⟩) (by assumption) ?_
  rotate_left 1
  · (intro w hSw; (try dsimp only at hSw); go_simp) <;> (try with_reducible rfl)
  try simp only [Act.put, List.setIfInBounds_toArray, List.set_cons_zero, List.set_cons_succ, List.getElem_toArray, List.getElem_cons_succ, List.getElem_cons_zero]
  refine wpAnyH_take (i := 2) (v := ?_) rfl (by kernel_rfl) (by kernel_rfl) (by kernel_rfl) (fun _ _ _ h => h) (Or.inl ⟨by kernel_rfl, ?_⟩) (by assumption) ?_
  rotate_left 1
  · (intro w hSw; (try dsimp only at hSw); go_simp) <;> (try with_reducible rfl)
  try simp only [Act.put, List.setIfInBounds_toArray, List.set_cons_zero, List.set_cons_succ, List.getElem_toArray, List.getElem_cons_succ, List.getElem_cons_zero]
  refine wpAnyH_take (i := 3) (v := ?_) rfl (by kernel_rfl) (by kernel_rfl) (by kernel_rfl) (fun _ _ _ h => h) (Or.inl ⟨by kernel_rfl, ?_⟩) (by assumption) ?_
  rotate_left 1
  · (intro w hSw; (try dsimp only at hSw); go_simp) <;> (try with_reducible rfl)
  try simp only [Act.put, List.setIfInBounds_toArray, List.set_cons_zero, List.set_cons_succ, List.getElem_toArray, List.getElem_cons_succ, List.getElem_cons_zero]
  refine wpAnyH_take (i := 4) (v := ?_) rfl (by kernel_rfl) (by kernel_rfl) (by kernel_rfl) (fun _ _ _ h => h) (Or.inl ⟨by kernel_rfl, ?_⟩) (by assumption) ?_
  rotate_left 1
  · (intro w hSw; (try dsimp only at hSw); go_simp) <;> (try with_reducible rfl)
  try simp only [Act.put, List.setIfInBounds_toArray, List.set_cons_zero, List.set_cons_succ, List.getElem_toArray, List.getElem_cons_succ, List.getElem_cons_zero]
  refine wpAnyH_take (i := 5) (v := ?_) rfl (by kernel_rfl) (by kernel_rfl) (by kernel_rfl) (fun _ _ _ h => h) (Or.inl ⟨by kernel_rfl, ?_⟩) (by assumption) ?_
  rotate_left 1
  · (intro w hSw; (try dsimp only at hSw); go_simp) <;> (try with_reducible rfl)
  try simp only [Act.put, List.setIfInBounds_toArray, List.set_cons_zero, List.set_cons_succ, List.getElem_toArray, List.getElem_cons_succ, List.getElem_cons_zero]
  refine wpAnyH_take (i := 6) (v := ?_) rfl (by kernel_rfl) (by kernel_rfl) (by kernel_rfl) (fun _ _ _ h => h) (Or.inl ⟨by kernel_rfl, ?_⟩) (by assumption) ?_
  rotate_left 1
  · (intro w hSw; (try dsimp only at hSw); go_simp) <;> (try with_reducible rfl)
  try simp only [Act.put, List.setIfInBounds_toArray, List.set_cons_zero, List.set_cons_succ, List.getElem_toArray, List.getElem_cons_succ, List.getElem_cons_zero]
  refine wpAnyH_take (i := 7) (v := ?_) rfl (by kernel_rfl) (by kernel_rfl) (by kernel_rfl) (fun _ _ _ h => h) (Or.inl ⟨by kernel_rfl, ?_⟩) (by assumption) ?_
  rotate_left 1
  · (intro w hSw; (try dsimp only at hSw); go_simp) <;> (try with_reducible rfl)
  try simp only [Act.put, List.setIfInBounds_toArray, List.set_cons_zero, List.set_cons_succ, List.getElem_toArray, List.getElem_cons_succ, List.getElem_cons_zero]
  refine wpAnyH_take (i := 9) (v := ?_) rfl (by kernel_rfl) (by kernel_rfl) (by kernel_rfl) (fun _ _ _ h => h) (Or.inl ⟨by kernel_rfl, ?_⟩) (by assumption) ?_
  rotate_left 1
  · (intro w hSw; (try dsimp only at hSw); go_simp) <;> (try with_reducible rfl)
  try simp only [Act.put, List.setIfInBounds_toArray, List.set_cons_zero, List.set_cons_succ, List.getElem_toArray, List.getElem_cons_succ, List.getElem_cons_zero]
  refine wpAnyH_ready (rs := [8]) (by kernel_rfl) (by simp) ?_
  refine AllReadyH.cons rfl (fun K hK => ?_) AllReadyH.nil
  go_simp
  refine (HOf.out _ _ _).mono ?_
  rintro e w7 ⟨rfl, hy7⟩
  have z7 := z6.trans (hy7.mono z6.size)
  clear hy7
  go_wp2_with fail
  refine hK.out _ _ ?_ (fun hHeld => ?_)
  · (try dsimp only); exact ST.out _ z7
  clear hK K
  try simp only [Act.put, List.setIfInBounds_toArray, List.set_cons_zero, List.set_cons_succ, List.getElem_toArray, List.getElem_cons_succ, List.getElem_cons_zero]
  refine wpAnyH_take (i := 10) (v := ?_) rfl (by kernel_rfl) (by kernel_rfl) (by kernel_rfl) (fun _ _ _ h => h) (Or.inl ⟨by kernel_rfl, ?_⟩) (by assumption) ?_
  rotate_left 1
  · (intro w hSw; (try dsimp only at hSw); go_simp) <;> (try with_reducible rfl)
  try simp only [Act.put, List.setIfInBounds_toArray, List.set_cons_zero, List.set_cons_succ, List.getElem_toArray, List.getElem_cons_succ, List.getElem_cons_zero]
  refine wpAnyH_take (i := 11) (v := ?_) rfl (by kernel_rfl) (by kernel_rfl) (by kernel_rfl) (fun _ _ _ h => h) (Or.inl ⟨by kernel_rfl, ?_⟩) (by assumption) ?_
  rotate_left 1
  · (intro w hSw; (try dsimp only at hSw); go_simp) <;> (try with_reducible rfl)
  try simp only [Act.put, List.setIfInBounds_toArray, List.set_cons_zero, List.set_cons_succ, List.getElem_toArray, List.getElem_cons_succ, List.getElem_cons_zero]
  refine wpAnyH_take (i := 12) (v := ?_) rfl (by kernel_rfl) (by kernel_rfl) (by kernel_rfl) (fun _ _ _ h => h) (Or.inl ⟨by kernel_rfl, ?_⟩) (by assumption) ?_
  rotate_left 1
  · (intro w hSw; (try dsimp only at hSw); go_simp) <;> (try with_reducible rfl)
  try simp only [Act.put, List.setIfInBounds_toArray, List.set_cons_zero, List.set_cons_succ, List.getElem_toArray, List.getElem_cons_succ, List.getElem_cons_zero]
  refine wpAnyH_done (by kernel_rfl) ?_ _
  have HBz := Lib.hid (HB5.out.trans (z7.mono HB5.out.size))
  go_wp2
  go_ret
  exact ⟨rfl, HBz.out⟩
end Go.Proofs.Ytepbjjhidemaiaa
