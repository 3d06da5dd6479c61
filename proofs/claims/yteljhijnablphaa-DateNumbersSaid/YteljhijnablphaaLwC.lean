/-
  The law DateNumbers.
-/
import Derived.Test.YteljhijnablphaaDr
namespace Go.Proofs.Yteljhijnablphaa
open Go.RowKit
set_option linter.unusedVariables false
set_option linter.unusedSimpArgs false
set_option maxRecDepth 4000

set_option maxHeartbeats 3200000 in
theorem lawNumbersNo (y m d : Int) (w : World) (hy : I64 y) (hm : I64 m) (hd : I64 d) (r1 : ¬ Rgt y m d) :
    Calls Try.prog 3 #[dv y m d] w fun e w' => e = .returned (.bool true) ∧ Below w.heap.size w w' := by
  have hTo := Lib.hid lw9To
  have hKn := Lib.hid known9
  have hR := Lib.hid (fun W => dtRight y m d W hy hm hd)
  have hRr := Lib.hid (fun W => rf9Right y m d W hy hm hd)
  have hL := Lib.hid (fun W => dtLong y W hy)
  have hLr := Lib.hid (fun W => rf9Long y W hy)
  have hD := Lib.hid (fun W => dtDays y m W hy)
  have hDr := Lib.hid (fun W => rf9Days y m W hy)
  have hdec : decide (Rgt y m d) = false := by simpa using r1
  have hN := Lib.hid (fun W => dtNumberNo y m d W hy hm hd r1)
  have hWk := Lib.hid (fun W => dtWeekNo y m d W hy hm hd r1)
  unfold dv at *
  clear r1
  generalize dys y m = D at *
  generalize decide (lng y) = G at *
  have CEL : Hid (∀ W : World, Below (w.alloc (.cells #[.int .i64 y, .int .i64 m, .int .i64 d] 23)).heap.size (w.alloc (.cells #[.int .i64 y, .int .i64 m, .int .i64 d] 23)) W → W.cell? ⟨w.heap.size, 0, none⟩ = some (.int .i64 y) ∧ W.cell? ⟨w.heap.size, 1, none⟩ = some (.int .i64 m) ∧ W.cell? ⟨w.heap.size, 2, none⟩ = some (.int .i64 d)) := by
    intro W hW
    exact ((Blk.three_new w (.int .i64 y) (.int .i64 m) (.int .i64 d) 23).below hW).three
  have HB := Lib.hid (below_alloc1 w (.cells #[.int .i64 y, .int .i64 m, .int .i64 d] 23))
  obtain ⟨a0, a1, a2⟩ := CEL.out _ (Below.refl _ _)
  go_enter Try.func3, Try.ntmps3
  go_wp2_with fail
  refine (hTo.out _ _ _ _).mono ?_
  rintro e v1 ⟨rfl, hB1⟩
  have HA1 := Lib.hid (show Below (w.alloc (.cells #[.int .i64 y, .int .i64 m, .int .i64 d] 23)).heap.size (w.alloc (.cells #[.int .i64 y, .int .i64 m, .int .i64 d] 23)) v1 from hB1)
  clear hB1 a0 a1 a2
  obtain ⟨a0, a1, a2⟩ := CEL.out _ HA1.out
  go_wp2_with fail
  refine (hN.out _).mono ?_
  rintro e v2 ⟨rfl, hB2⟩
  have HA2 := Lib.hid (HA1.out.trans (hB2.mono HA1.out.size))
  clear hB2 a0 a1 a2 HA1
  obtain ⟨a0, a1, a2⟩ := CEL.out _ HA2.out
  go_wp2_with fail
  refine (hTo.out _ _ _ _).mono ?_
  rintro e v3 ⟨rfl, hB3⟩
  have HA3 := Lib.hid (HA2.out.trans (hB3.mono HA2.out.size))
  clear hB3 a0 a1 a2 HA2
  obtain ⟨a0, a1, a2⟩ := CEL.out _ HA3.out
  go_wp2_with fail
  refine (hWk.out _).mono ?_
  rintro e v4 ⟨rfl, hB4⟩
  have HA4 := Lib.hid (HA3.out.trans (hB4.mono HA3.out.size))
  clear hB4 a0 a1 a2 HA3
  obtain ⟨a0, a1, a2⟩ := CEL.out _ HA4.out
  go_upto_region 3 with fail
  refine wp_region_held_drew (S := fun w' => w'.cell? ⟨w.heap.size, 0, none⟩ = some (.int .i64 y) ∧ w'.cell? ⟨w.heap.size, 1, none⟩ = some (.int .i64 m) ∧ w'.cell? ⟨w.heap.size, 2, none⟩ = some (.int .i64 d)) (by kernel_rfl) ?hb0 (fun hHeld => ?_)
  case hb0 => (try dsimp only); exact CEL.out _ (below_drewN HA4.out 1)
  refine wpAnyH_ready (rs := [0]) (by kernel_rfl) (by simp) ?_
  refine AllReadyH.cons rfl (fun K hK => ?_) AllReadyH.nil
  go_simp
  refine (hKn.out _).mono ?_
  rintro e v5 ⟨rfl, hB5⟩
  have hA5 : Below (w.alloc (.cells #[.int .i64 y, .int .i64 m, .int .i64 d] 23)).heap.size (w.alloc (.cells #[.int .i64 y, .int .i64 m, .int .i64 d] 23)) v5 := (below_drewN HA4.out 1).trans (hB5.mono (below_drewN HA4.out 1).size)
  refine hK.out _ _ ?hs0a (fun hHeld => ?_)
  case hs0a => (try dsimp only); exact CEL.out _ (hA5)
  clear hK K
  try simp only [Act.put, List.setIfInBounds_toArray, List.set_cons_zero, List.set_cons_succ, List.getElem_toArray, List.getElem_cons_succ, List.getElem_cons_zero]
  refine wpAnyH_take (i := 1) (v := ?qv1) rfl (by kernel_rfl) (by kernel_rfl) (by kernel_rfl) (fun _ _ _ h => h) (Or.inl ⟨by kernel_rfl, ?qy1⟩) (by assumption) ?_
  case qy1 => (intro w hSw; (try dsimp only at hSw); go_simp) <;> (try with_reducible rfl)
  try simp only [Act.put, List.setIfInBounds_toArray, List.set_cons_zero, List.set_cons_succ, List.getElem_toArray, List.getElem_cons_succ, List.getElem_cons_zero]
  refine wpAnyH_take (i := 2) (v := ?qv2) rfl (by kernel_rfl) (by kernel_rfl) (by kernel_rfl) (fun _ _ _ h => h) (Or.inl ⟨by kernel_rfl, ?qy2⟩) (by assumption) ?_
  case qy2 => (intro w hSw; (try dsimp only at hSw); go_simp) <;> (try with_reducible rfl)
  try simp only [Act.put, List.setIfInBounds_toArray, List.set_cons_zero, List.set_cons_succ, List.getElem_toArray, List.getElem_cons_succ, List.getElem_cons_zero]
  refine wpAnyH_take (i := 3) (v := ?qv3) rfl (by kernel_rfl) (by kernel_rfl) (by kernel_rfl) (fun _ _ _ h => h) (Or.inl ⟨by kernel_rfl, ?qy3⟩) (by assumption) ?_
  case qy3 => (intro w hSw; (try dsimp only at hSw); go_simp) <;> (try with_reducible rfl)
  try simp only [Act.put, List.setIfInBounds_toArray, List.set_cons_zero, List.set_cons_succ, List.getElem_toArray, List.getElem_cons_succ, List.getElem_cons_zero]
  refine wpAnyH_take (i := 6) (v := ?qv6) rfl (by kernel_rfl) (by kernel_rfl) (by kernel_rfl) (fun _ _ _ h => h) (Or.inl ⟨by kernel_rfl, ?qy6⟩) (by assumption) ?_
  case qy6 => (intro w hSw; (try dsimp only at hSw); go_simp) <;> (try with_reducible rfl)
  try simp only [Act.put, List.setIfInBounds_toArray, List.set_cons_zero, List.set_cons_succ, List.getElem_toArray, List.getElem_cons_succ, List.getElem_cons_zero]
  refine wpAnyH_ready (rs := [4]) (by kernel_rfl) (by simp) ?_
  refine AllReadyH.cons rfl (fun K hK => ?_) AllReadyH.nil
  go_simp
  refine (hTo.out _ _ _ _).mono ?_
  rintro e v6 ⟨rfl, hB6⟩
  have hA6 : Below (w.alloc (.cells #[.int .i64 y, .int .i64 m, .int .i64 d] 23)).heap.size (w.alloc (.cells #[.int .i64 y, .int .i64 m, .int .i64 d] 23)) v6 := (hA5).trans (hB6.mono (hA5).size)
  refine hK.out _ _ ?hs4a (fun hHeld => ?_)
  case hs4a => (try dsimp only); exact CEL.out _ (hA6)
  clear hK K
  try simp only [Act.put, List.setIfInBounds_toArray, List.set_cons_zero, List.set_cons_succ, List.getElem_toArray, List.getElem_cons_succ, List.getElem_cons_zero]
  refine wpAnyH_ready (rs := [5]) (by kernel_rfl) (by simp) ?_
  refine AllReadyH.cons rfl (fun K hK => ?_) AllReadyH.nil
  go_simp
  refine (hR.out _).mono ?_
  rintro e v7 ⟨rfl, hB7⟩
  have hA7 : Below (w.alloc (.cells #[.int .i64 y, .int .i64 m, .int .i64 d] 23)).heap.size (w.alloc (.cells #[.int .i64 y, .int .i64 m, .int .i64 d] 23)) v7 := (hA6).trans (hB7.mono (hA6).size)
  rw [hdec]
  refine hK.out _ _ ?hs5a (fun hHeld => ?_)
  case hs5a => (try dsimp only); exact CEL.out _ (hA7)
  clear hK K
  try simp only [Act.put, List.setIfInBounds_toArray, List.set_cons_zero, List.set_cons_succ, List.getElem_toArray, List.getElem_cons_succ, List.getElem_cons_zero]
  refine wpAnyH_ready (rs := [7]) (by kernel_rfl) (by simp) ?_
  refine AllReadyH.cons rfl (fun K hK => ?_) AllReadyH.nil
  go_simp
  refine (hRr.out _).mono ?_
  rintro e v8 ⟨rfl, hB8⟩
  have hA8 : Below (w.alloc (.cells #[.int .i64 y, .int .i64 m, .int .i64 d] 23)).heap.size (w.alloc (.cells #[.int .i64 y, .int .i64 m, .int .i64 d] 23)) v8 := (hA7).trans (hB8.mono (hA7).size)
  rw [hdec]
  refine hK.out _ _ ?hs7a (fun hHeld => ?_)
  case hs7a => (try dsimp only); exact CEL.out _ (hA8)
  clear hK K
  try simp only [Act.put, List.setIfInBounds_toArray, List.set_cons_zero, List.set_cons_succ, List.getElem_toArray, List.getElem_cons_succ, List.getElem_cons_zero]
  refine wpAnyH_take (i := 8) (v := ?qv8) rfl (by kernel_rfl) (by kernel_rfl) (by kernel_rfl) (fun _ _ _ h => h) (Or.inl ⟨by kernel_rfl, ?qy8⟩) (by assumption) ?_
  case qy8 => (intro w hSw; (try dsimp only at hSw); go_simp) <;> (try with_reducible rfl)
  try simp only [Act.put, List.setIfInBounds_toArray, List.set_cons_zero, List.set_cons_succ, List.getElem_toArray, List.getElem_cons_succ, List.getElem_cons_zero]
  refine wpAnyH_take (i := 9) (v := ?qv9) rfl (by kernel_rfl) (by kernel_rfl) (by kernel_rfl) (fun _ _ _ h => h) (Or.inl ⟨by kernel_rfl, ?qy9⟩) (by assumption) ?_
  case qy9 => (intro w hSw; (try dsimp only at hSw); go_simp) <;> (try with_reducible rfl)
  try simp only [Act.put, List.setIfInBounds_toArray, List.set_cons_zero, List.set_cons_succ, List.getElem_toArray, List.getElem_cons_succ, List.getElem_cons_zero]
  refine wpAnyH_take (i := 10) (v := ?qv10) rfl (by kernel_rfl) (by kernel_rfl) (by kernel_rfl) (fun _ _ _ h => h) (Or.inl ⟨by kernel_rfl, ?qy10⟩) (by assumption) ?_
  case qy10 => (intro w hSw; (try dsimp only at hSw); go_simp) <;> (try with_reducible rfl)
  try simp only [Act.put, List.setIfInBounds_toArray, List.set_cons_zero, List.set_cons_succ, List.getElem_toArray, List.getElem_cons_succ, List.getElem_cons_zero]
  refine wpAnyH_take (i := 11) (v := ?qv11) rfl (by kernel_rfl) (by kernel_rfl) (by kernel_rfl) (fun _ _ _ h => h) (Or.inl ⟨by kernel_rfl, ?qy11⟩) (by assumption) ?_
  case qy11 => (intro w hSw; (try dsimp only at hSw); go_simp) <;> (try with_reducible rfl)
  try simp only [Act.put, List.setIfInBounds_toArray, List.set_cons_zero, List.set_cons_succ, List.getElem_toArray, List.getElem_cons_succ, List.getElem_cons_zero]
  refine wpAnyH_take (i := 12) (v := ?qv12) rfl (by kernel_rfl) (by kernel_rfl) (by kernel_rfl) (fun _ _ _ h => h) (Or.inl ⟨by kernel_rfl, ?qy12⟩) (by assumption) ?_
  case qy12 => (intro w hSw; (try dsimp only at hSw); go_simp) <;> (try with_reducible rfl)
  try simp only [Act.put, List.setIfInBounds_toArray, List.set_cons_zero, List.set_cons_succ, List.getElem_toArray, List.getElem_cons_succ, List.getElem_cons_zero]
  refine wpAnyH_take (i := 14) (v := ?qv14) rfl (by kernel_rfl) (by kernel_rfl) (by kernel_rfl) (fun _ _ _ h => h) (Or.inl ⟨by kernel_rfl, ?qy14⟩) (by assumption) ?_
  case qy14 => (intro w hSw; (try dsimp only at hSw); go_simp) <;> (try with_reducible rfl)
  try simp only [Act.put, List.setIfInBounds_toArray, List.set_cons_zero, List.set_cons_succ, List.getElem_toArray, List.getElem_cons_succ, List.getElem_cons_zero]
  refine wpAnyH_take (i := 15) (v := ?qv15) rfl (by kernel_rfl) (by kernel_rfl) (by kernel_rfl) (fun _ _ _ h => h) (Or.inl ⟨by kernel_rfl, ?qy15⟩) (by assumption) ?_
  case qy15 => (intro w hSw; (try dsimp only at hSw); go_simp) <;> (try with_reducible rfl)
  try simp only [Act.put, List.setIfInBounds_toArray, List.set_cons_zero, List.set_cons_succ, List.getElem_toArray, List.getElem_cons_succ, List.getElem_cons_zero]
  refine wpAnyH_ready (rs := [13]) (by kernel_rfl) (by simp) ?_
  refine AllReadyH.cons rfl (fun K hK => ?_) AllReadyH.nil
  go_simp
  refine (hL.out _).mono ?_
  rintro e v9 ⟨rfl, rfl⟩
  refine hK.out _ _ ?hs13a (fun hHeld => ?_)
  case hs13a => (try dsimp only); exact CEL.out _ (hA8)
  clear hK K
  try simp only [Act.put, List.setIfInBounds_toArray, List.set_cons_zero, List.set_cons_succ, List.getElem_toArray, List.getElem_cons_succ, List.getElem_cons_zero]
  refine wpAnyH_ready (rs := [16]) (by kernel_rfl) (by simp) ?_
  refine AllReadyH.cons rfl (fun K hK => ?_) AllReadyH.nil
  go_simp
  refine (hLr.out _).mono ?_
  rintro e v10 ⟨rfl, rfl⟩
  refine hK.out _ _ ?hs16a (fun hHeld => ?_)
  case hs16a => (try dsimp only); exact CEL.out _ (hA8)
  clear hK K
  try simp only [Act.put, List.setIfInBounds_toArray, List.set_cons_zero, List.set_cons_succ, List.getElem_toArray, List.getElem_cons_succ, List.getElem_cons_zero]
  refine wpAnyH_take (i := 17) (v := ?qv17) rfl (by kernel_rfl) (by kernel_rfl) (by kernel_rfl) (fun _ _ _ h => h) (Or.inl ⟨by kernel_rfl, ?qy17⟩) (by assumption) ?_
  case qy17 => (intro w hSw; (try dsimp only at hSw); go_simp) <;> (try with_reducible rfl)
  try simp only [Act.put, List.setIfInBounds_toArray, List.set_cons_zero, List.set_cons_succ, List.getElem_toArray, List.getElem_cons_succ, List.getElem_cons_zero]
  refine wpAnyH_take (i := 18) (v := ?qv18) rfl (by kernel_rfl) (by kernel_rfl) (by kernel_rfl) (fun _ _ _ h => h) (Or.inl ⟨by kernel_rfl, ?qy18⟩) (by assumption) ?_
  case qy18 => (intro w hSw; (try dsimp only at hSw); go_simp) <;> (try with_reducible rfl)
  try simp only [Act.put, List.setIfInBounds_toArray, List.set_cons_zero, List.set_cons_succ, List.getElem_toArray, List.getElem_cons_succ, List.getElem_cons_zero]
  refine wpAnyH_take (i := 19) (v := ?qv19) rfl (by kernel_rfl) (by kernel_rfl) (by kernel_rfl) (fun _ _ _ h => h) (Or.inl ⟨by kernel_rfl, ?qy19⟩) (by assumption) ?_
  case qy19 => (intro w hSw; (try dsimp only at hSw); go_simp) <;> (try with_reducible rfl)
  try simp only [Act.put, List.setIfInBounds_toArray, List.set_cons_zero, List.set_cons_succ, List.getElem_toArray, List.getElem_cons_succ, List.getElem_cons_zero]
  refine wpAnyH_take (i := 20) (v := ?qv20) rfl (by kernel_rfl) (by kernel_rfl) (by kernel_rfl) (fun _ _ _ h => h) (Or.inl ⟨by kernel_rfl, ?qy20⟩) (by assumption) ?_
  case qy20 => (intro w hSw; (try dsimp only at hSw); go_simp) <;> (try with_reducible rfl)
  try simp only [Act.put, List.setIfInBounds_toArray, List.set_cons_zero, List.set_cons_succ, List.getElem_toArray, List.getElem_cons_succ, List.getElem_cons_zero]
  refine wpAnyH_take (i := 21) (v := ?qv21) rfl (by kernel_rfl) (by kernel_rfl) (by kernel_rfl) (fun _ _ _ h => h) (Or.inl ⟨by kernel_rfl, ?qy21⟩) (by assumption) ?_
  case qy21 => (intro w hSw; (try dsimp only at hSw); go_simp) <;> (try with_reducible rfl)
  try simp only [Act.put, List.setIfInBounds_toArray, List.set_cons_zero, List.set_cons_succ, List.getElem_toArray, List.getElem_cons_succ, List.getElem_cons_zero]
  refine wpAnyH_take (i := 22) (v := ?qv22) rfl (by kernel_rfl) (by kernel_rfl) (by kernel_rfl) (fun _ _ _ h => h) (Or.inl ⟨by kernel_rfl, ?qy22⟩) (by assumption) ?_
  case qy22 => (intro w hSw; (try dsimp only at hSw); go_simp) <;> (try with_reducible rfl)
  try simp only [Act.put, List.setIfInBounds_toArray, List.set_cons_zero, List.set_cons_succ, List.getElem_toArray, List.getElem_cons_succ, List.getElem_cons_zero]
  refine wpAnyH_take (i := 23) (v := ?qv23) rfl (by kernel_rfl) (by kernel_rfl) (by kernel_rfl) (fun _ _ _ h => h) (Or.inl ⟨by kernel_rfl, ?qy23⟩) (by assumption) ?_
  case qy23 => (intro w hSw; (try dsimp only at hSw); go_simp) <;> (try with_reducible rfl)
  try simp only [Act.put, List.setIfInBounds_toArray, List.set_cons_zero, List.set_cons_succ, List.getElem_toArray, List.getElem_cons_succ, List.getElem_cons_zero]
  refine wpAnyH_take (i := 25) (v := ?qv25) rfl (by kernel_rfl) (by kernel_rfl) (by kernel_rfl) (fun _ _ _ h => h) (Or.inl ⟨by kernel_rfl, ?qy25⟩) (by assumption) ?_
  case qy25 => (intro w hSw; (try dsimp only at hSw); go_simp) <;> (try with_reducible rfl)
  try simp only [Act.put, List.setIfInBounds_toArray, List.set_cons_zero, List.set_cons_succ, List.getElem_toArray, List.getElem_cons_succ, List.getElem_cons_zero]
  refine wpAnyH_take (i := 26) (v := ?qv26) rfl (by kernel_rfl) (by kernel_rfl) (by kernel_rfl) (fun _ _ _ h => h) (Or.inl ⟨by kernel_rfl, ?qy26⟩) (by assumption) ?_
  case qy26 => (intro w hSw; (try dsimp only at hSw); go_simp) <;> (try with_reducible rfl)
  try simp only [Act.put, List.setIfInBounds_toArray, List.set_cons_zero, List.set_cons_succ, List.getElem_toArray, List.getElem_cons_succ, List.getElem_cons_zero]
  refine wpAnyH_take (i := 27) (v := ?qv27) rfl (by kernel_rfl) (by kernel_rfl) (by kernel_rfl) (fun _ _ _ h => h) (Or.inl ⟨by kernel_rfl, ?qy27⟩) (by assumption) ?_
  case qy27 => (intro w hSw; (try dsimp only at hSw); go_simp) <;> (try with_reducible rfl)
  try simp only [Act.put, List.setIfInBounds_toArray, List.set_cons_zero, List.set_cons_succ, List.getElem_toArray, List.getElem_cons_succ, List.getElem_cons_zero]
  refine wpAnyH_take (i := 28) (v := ?qv28) rfl (by kernel_rfl) (by kernel_rfl) (by kernel_rfl) (fun _ _ _ h => h) (Or.inl ⟨by kernel_rfl, ?qy28⟩) (by assumption) ?_
  case qy28 => (intro w hSw; (try dsimp only at hSw); go_simp) <;> (try with_reducible rfl)
  try simp only [Act.put, List.setIfInBounds_toArray, List.set_cons_zero, List.set_cons_succ, List.getElem_toArray, List.getElem_cons_succ, List.getElem_cons_zero]
  refine wpAnyH_ready (rs := [24]) (by kernel_rfl) (by simp) ?_
  refine AllReadyH.cons rfl (fun K hK => ?_) AllReadyH.nil
  go_simp
  refine (hD.out _).mono ?_
  rintro e v11 ⟨rfl, rfl⟩
  refine hK.out _ _ ?hs24a (fun hHeld => ?_)
  case hs24a => (try dsimp only); exact CEL.out _ (hA8)
  clear hK K
  try simp only [Act.put, List.setIfInBounds_toArray, List.set_cons_zero, List.set_cons_succ, List.getElem_toArray, List.getElem_cons_succ, List.getElem_cons_zero]
  refine wpAnyH_ready (rs := [29]) (by kernel_rfl) (by simp) ?_
  refine AllReadyH.cons rfl (fun K hK => ?_) AllReadyH.nil
  go_simp
  refine (hDr.out _).mono ?_
  rintro e v12 ⟨rfl, hB12⟩
  have hA12 : Below (w.alloc (.cells #[.int .i64 y, .int .i64 m, .int .i64 d] 23)).heap.size (w.alloc (.cells #[.int .i64 y, .int .i64 m, .int .i64 d] 23)) v12 := (hA8).trans (hB12.mono (hA8).size)
  refine hK.out _ _ ?hs29a (fun hHeld => ?_)
  case hs29a => (try dsimp only); exact CEL.out _ (hA12)
  clear hK K
  try simp only [Act.put, List.setIfInBounds_toArray, List.set_cons_zero, List.set_cons_succ, List.getElem_toArray, List.getElem_cons_succ, List.getElem_cons_zero]
  refine wpAnyH_take (i := 30) (v := ?qv30) rfl (by kernel_rfl) (by kernel_rfl) (by kernel_rfl) (fun _ _ _ h => h) (Or.inl ⟨by kernel_rfl, ?qy30⟩) (by assumption) ?_
  case qy30 => (intro w hSw; (try dsimp only at hSw); go_simp) <;> (try with_reducible rfl)
  try simp only [Act.put, List.setIfInBounds_toArray, List.set_cons_zero, List.set_cons_succ, List.getElem_toArray, List.getElem_cons_succ, List.getElem_cons_zero]
  refine wpAnyH_take (i := 31) (v := ?qv31) rfl (by kernel_rfl) (by kernel_rfl) (by kernel_rfl) (fun _ _ _ h => h) (Or.inl ⟨by kernel_rfl, ?qy31⟩) (by assumption) ?_
  case qy31 => (intro w hSw; (try dsimp only at hSw); go_simp) <;> (try with_reducible rfl)
  try simp only [Act.put, List.setIfInBounds_toArray, List.set_cons_zero, List.set_cons_succ, List.getElem_toArray, List.getElem_cons_succ, List.getElem_cons_zero]
  refine wpAnyH_done (by kernel_rfl) ?_ _
  have hcel := CEL.out _ hA12
  have HA12 := Lib.hid hA12
  clear hA12
  obtain ⟨a0, a1, a2⟩ := hcel
  go_wp2_with fail
  refine (hRr.out _).mono ?_
  rintro e v13 ⟨rfl, hB13⟩
  rw [hdec]
  have HA13 := Lib.hid (HA12.out.trans (hB13.mono HA12.out.size))
  clear hB13 a0 a1 a2 HA12
  obtain ⟨a0, a1, a2⟩ := CEL.out _ HA13.out
  go_wp2
  go_ret
  exact ⟨rfl, HB.out.trans (HA13.out.mono HB.out.size)⟩

set_option maxHeartbeats 3200000 in
theorem lawNumbersYes (y m d : Int) (w : World) (hy : I64 y) (hm : I64 m) (hd : I64 d) (r1 : Rgt y m d) :
    Calls Try.prog 3 #[dv y m d] w fun e w' => e = .returned (.bool true) ∧ Below w.heap.size w w' := by
  have hTo := Lib.hid lw9To
  have hKn := Lib.hid known9
  have hR := Lib.hid (fun W => dtRight y m d W hy hm hd)
  have hRr := Lib.hid (fun W => rf9Right y m d W hy hm hd)
  have hL := Lib.hid (fun W => dtLong y W hy)
  have hLr := Lib.hid (fun W => rf9Long y W hy)
  have hD := Lib.hid (fun W => dtDays y m W hy)
  have hDr := Lib.hid (fun W => rf9Days y m W hy)
  have hdec : decide (Rgt y m d) = true := by simpa using r1
  have hN := Lib.hid (fun W => dtNumberYes y m d W r1)
  have hWk := Lib.hid (fun W => dtWeekYes y m d W r1)
  have hNr := Lib.hid (fun W => rf9Number y m d W r1)
  have hr := num_range r1
  have hwk : (num y m d + 719534).tmod 7 = wkd (num y m d) := by rw [Int.tmod_eq_emod_of_nonneg (by omega)]; unfold wkd; omega
  have hwk2 : (num y m d + 719528 + 6).tmod 7 = wkd (num y m d) := by rw [Int.tmod_eq_emod_of_nonneg (by omega)]; unfold wkd; omega
  have hwk3 : (num y m d + 719528 + 6) % 7 = wkd (num y m d) := by unfold wkd; omega
  have hwk4 : (num y m d + 719534) % 7 = wkd (num y m d) := by unfold wkd; omega
  unfold dv at *
  generalize wkd (num y m d) = A at *
  generalize num y m d = N at *
  clear r1
  generalize dys y m = D at *
  generalize decide (lng y) = G at *
  have CEL : Hid (∀ W : World, Below (w.alloc (.cells #[.int .i64 y, .int .i64 m, .int .i64 d] 23)).heap.size (w.alloc (.cells #[.int .i64 y, .int .i64 m, .int .i64 d] 23)) W → W.cell? ⟨w.heap.size, 0, none⟩ = some (.int .i64 y) ∧ W.cell? ⟨w.heap.size, 1, none⟩ = some (.int .i64 m) ∧ W.cell? ⟨w.heap.size, 2, none⟩ = some (.int .i64 d)) := by
    intro W hW
    exact ((Blk.three_new w (.int .i64 y) (.int .i64 m) (.int .i64 d) 23).below hW).three
  have HB := Lib.hid (below_alloc1 w (.cells #[.int .i64 y, .int .i64 m, .int .i64 d] 23))
  obtain ⟨a0, a1, a2⟩ := CEL.out _ (Below.refl _ _)
  go_enter Try.func3, Try.ntmps3
  go_wp2_with fail
  refine (hTo.out _ _ _ _).mono ?_
  rintro e v1 ⟨rfl, hB1⟩
  have HA1 := Lib.hid (show Below (w.alloc (.cells #[.int .i64 y, .int .i64 m, .int .i64 d] 23)).heap.size (w.alloc (.cells #[.int .i64 y, .int .i64 m, .int .i64 d] 23)) v1 from hB1)
  clear hB1 a0 a1 a2
  obtain ⟨a0, a1, a2⟩ := CEL.out _ HA1.out
  go_wp2_with fail
  refine (hN.out _).mono ?_
  rintro e v2 ⟨rfl, hB2⟩
  have HA2 := Lib.hid (HA1.out.trans (hB2.mono HA1.out.size))
  clear hB2 a0 a1 a2 HA1
  obtain ⟨a0, a1, a2⟩ := CEL.out _ HA2.out
  go_wp2_with fail
  refine (hTo.out _ _ _ _).mono ?_
  rintro e v3 ⟨rfl, hB3⟩
  have HA3 := Lib.hid (HA2.out.trans (hB3.mono HA2.out.size))
  clear hB3 a0 a1 a2 HA2
  obtain ⟨a0, a1, a2⟩ := CEL.out _ HA3.out
  go_wp2_with fail
  refine (hWk.out _).mono ?_
  rintro e v4 ⟨rfl, hB4⟩
  have HA4 := Lib.hid (HA3.out.trans (hB4.mono HA3.out.size))
  clear hB4 a0 a1 a2 HA3
  obtain ⟨a0, a1, a2⟩ := CEL.out _ HA4.out
  go_upto_region 3 with fail
  refine wp_region_held_drew (S := fun w' => w'.cell? ⟨w.heap.size, 0, none⟩ = some (.int .i64 y) ∧ w'.cell? ⟨w.heap.size, 1, none⟩ = some (.int .i64 m) ∧ w'.cell? ⟨w.heap.size, 2, none⟩ = some (.int .i64 d)) (by kernel_rfl) ?hb0 (fun hHeld => ?_)
  case hb0 => (try dsimp only); exact CEL.out _ (below_drewN HA4.out 1)
  refine wpAnyH_ready (rs := [0]) (by kernel_rfl) (by simp) ?_
  refine AllReadyH.cons rfl (fun K hK => ?_) AllReadyH.nil
  go_simp
  refine (hKn.out _).mono ?_
  rintro e v5 ⟨rfl, hB5⟩
  have hA5 : Below (w.alloc (.cells #[.int .i64 y, .int .i64 m, .int .i64 d] 23)).heap.size (w.alloc (.cells #[.int .i64 y, .int .i64 m, .int .i64 d] 23)) v5 := (below_drewN HA4.out 1).trans (hB5.mono (below_drewN HA4.out 1).size)
  refine hK.out _ _ ?hs0a (fun hHeld => ?_)
  case hs0a => (try dsimp only); exact CEL.out _ (hA5)
  clear hK K
  try simp only [Act.put, List.setIfInBounds_toArray, List.set_cons_zero, List.set_cons_succ, List.getElem_toArray, List.getElem_cons_succ, List.getElem_cons_zero]
  refine wpAnyH_take (i := 1) (v := ?qv1) rfl (by kernel_rfl) (by kernel_rfl) (by kernel_rfl) (fun _ _ _ h => h) (Or.inl ⟨by kernel_rfl, ?qy1⟩) (by assumption) ?_
  case qy1 => (intro w hSw; (try dsimp only at hSw); go_simp) <;> (try with_reducible rfl)
  try simp only [Act.put, List.setIfInBounds_toArray, List.set_cons_zero, List.set_cons_succ, List.getElem_toArray, List.getElem_cons_succ, List.getElem_cons_zero]
  refine wpAnyH_take (i := 2) (v := ?qv2) rfl (by kernel_rfl) (by kernel_rfl) (by kernel_rfl) (fun _ _ _ h => h) (Or.inl ⟨by kernel_rfl, ?qy2⟩) (by assumption) ?_
  case qy2 => (intro w hSw; (try dsimp only at hSw); go_simp) <;> (try with_reducible rfl)
  try simp only [Act.put, List.setIfInBounds_toArray, List.set_cons_zero, List.set_cons_succ, List.getElem_toArray, List.getElem_cons_succ, List.getElem_cons_zero]
  refine wpAnyH_take (i := 3) (v := ?qv3) rfl (by kernel_rfl) (by kernel_rfl) (by kernel_rfl) (fun _ _ _ h => h) (Or.inl ⟨by kernel_rfl, ?qy3⟩) (by assumption) ?_
  case qy3 => (intro w hSw; (try dsimp only at hSw); go_simp) <;> (try with_reducible rfl)
  try simp only [Act.put, List.setIfInBounds_toArray, List.set_cons_zero, List.set_cons_succ, List.getElem_toArray, List.getElem_cons_succ, List.getElem_cons_zero]
  refine wpAnyH_take (i := 6) (v := ?qv6) rfl (by kernel_rfl) (by kernel_rfl) (by kernel_rfl) (fun _ _ _ h => h) (Or.inl ⟨by kernel_rfl, ?qy6⟩) (by assumption) ?_
  case qy6 => (intro w hSw; (try dsimp only at hSw); go_simp) <;> (try with_reducible rfl)
  try simp only [Act.put, List.setIfInBounds_toArray, List.set_cons_zero, List.set_cons_succ, List.getElem_toArray, List.getElem_cons_succ, List.getElem_cons_zero]
  refine wpAnyH_ready (rs := [4]) (by kernel_rfl) (by simp) ?_
  refine AllReadyH.cons rfl (fun K hK => ?_) AllReadyH.nil
  go_simp
  refine (hTo.out _ _ _ _).mono ?_
  rintro e v6 ⟨rfl, hB6⟩
  have hA6 : Below (w.alloc (.cells #[.int .i64 y, .int .i64 m, .int .i64 d] 23)).heap.size (w.alloc (.cells #[.int .i64 y, .int .i64 m, .int .i64 d] 23)) v6 := (hA5).trans (hB6.mono (hA5).size)
  refine hK.out _ _ ?hs4a (fun hHeld => ?_)
  case hs4a => (try dsimp only); exact CEL.out _ (hA6)
  clear hK K
  try simp only [Act.put, List.setIfInBounds_toArray, List.set_cons_zero, List.set_cons_succ, List.getElem_toArray, List.getElem_cons_succ, List.getElem_cons_zero]
  refine wpAnyH_ready (rs := [5]) (by kernel_rfl) (by simp) ?_
  refine AllReadyH.cons rfl (fun K hK => ?_) AllReadyH.nil
  go_simp
  refine (hR.out _).mono ?_
  rintro e v7 ⟨rfl, hB7⟩
  have hA7 : Below (w.alloc (.cells #[.int .i64 y, .int .i64 m, .int .i64 d] 23)).heap.size (w.alloc (.cells #[.int .i64 y, .int .i64 m, .int .i64 d] 23)) v7 := (hA6).trans (hB7.mono (hA6).size)
  rw [hdec]
  refine hK.out _ _ ?hs5a (fun hHeld => ?_)
  case hs5a => (try dsimp only); exact CEL.out _ (hA7)
  clear hK K
  try simp only [Act.put, List.setIfInBounds_toArray, List.set_cons_zero, List.set_cons_succ, List.getElem_toArray, List.getElem_cons_succ, List.getElem_cons_zero]
  refine wpAnyH_ready (rs := [7]) (by kernel_rfl) (by simp) ?_
  refine AllReadyH.cons rfl (fun K hK => ?_) AllReadyH.nil
  go_simp
  refine (hRr.out _).mono ?_
  rintro e v8 ⟨rfl, hB8⟩
  have hA8 : Below (w.alloc (.cells #[.int .i64 y, .int .i64 m, .int .i64 d] 23)).heap.size (w.alloc (.cells #[.int .i64 y, .int .i64 m, .int .i64 d] 23)) v8 := (hA7).trans (hB8.mono (hA7).size)
  rw [hdec]
  refine hK.out _ _ ?hs7a (fun hHeld => ?_)
  case hs7a => (try dsimp only); exact CEL.out _ (hA8)
  clear hK K
  try simp only [Act.put, List.setIfInBounds_toArray, List.set_cons_zero, List.set_cons_succ, List.getElem_toArray, List.getElem_cons_succ, List.getElem_cons_zero]
  refine wpAnyH_take (i := 8) (v := ?qv8) rfl (by kernel_rfl) (by kernel_rfl) (by kernel_rfl) (fun _ _ _ h => h) (Or.inl ⟨by kernel_rfl, ?qy8⟩) (by assumption) ?_
  case qy8 => (intro w hSw; (try dsimp only at hSw); go_simp) <;> (try with_reducible rfl)
  try simp only [Act.put, List.setIfInBounds_toArray, List.set_cons_zero, List.set_cons_succ, List.getElem_toArray, List.getElem_cons_succ, List.getElem_cons_zero]
  refine wpAnyH_take (i := 9) (v := ?qv9) rfl (by kernel_rfl) (by kernel_rfl) (by kernel_rfl) (fun _ _ _ h => h) (Or.inl ⟨by kernel_rfl, ?qy9⟩) (by assumption) ?_
  case qy9 => (intro w hSw; (try dsimp only at hSw); go_simp) <;> (try with_reducible rfl)
  try simp only [Act.put, List.setIfInBounds_toArray, List.set_cons_zero, List.set_cons_succ, List.getElem_toArray, List.getElem_cons_succ, List.getElem_cons_zero]
  refine wpAnyH_take (i := 10) (v := ?qv10) rfl (by kernel_rfl) (by kernel_rfl) (by kernel_rfl) (fun _ _ _ h => h) (Or.inl ⟨by kernel_rfl, ?qy10⟩) (by assumption) ?_
  case qy10 => (intro w hSw; (try dsimp only at hSw); go_simp) <;> (try with_reducible rfl)
  try simp only [Act.put, List.setIfInBounds_toArray, List.set_cons_zero, List.set_cons_succ, List.getElem_toArray, List.getElem_cons_succ, List.getElem_cons_zero]
  refine wpAnyH_take (i := 11) (v := ?qv11) rfl (by kernel_rfl) (by kernel_rfl) (by kernel_rfl) (fun _ _ _ h => h) (Or.inl ⟨by kernel_rfl, ?qy11⟩) (by assumption) ?_
  case qy11 => (intro w hSw; (try dsimp only at hSw); go_simp) <;> (try with_reducible rfl)
  try simp only [Act.put, List.setIfInBounds_toArray, List.set_cons_zero, List.set_cons_succ, List.getElem_toArray, List.getElem_cons_succ, List.getElem_cons_zero]
  refine wpAnyH_take (i := 12) (v := ?qv12) rfl (by kernel_rfl) (by kernel_rfl) (by kernel_rfl) (fun _ _ _ h => h) (Or.inl ⟨by kernel_rfl, ?qy12⟩) (by assumption) ?_
  case qy12 => (intro w hSw; (try dsimp only at hSw); go_simp) <;> (try with_reducible rfl)
  try simp only [Act.put, List.setIfInBounds_toArray, List.set_cons_zero, List.set_cons_succ, List.getElem_toArray, List.getElem_cons_succ, List.getElem_cons_zero]
  refine wpAnyH_take (i := 14) (v := ?qv14) rfl (by kernel_rfl) (by kernel_rfl) (by kernel_rfl) (fun _ _ _ h => h) (Or.inl ⟨by kernel_rfl, ?qy14⟩) (by assumption) ?_
  case qy14 => (intro w hSw; (try dsimp only at hSw); go_simp) <;> (try with_reducible rfl)
  try simp only [Act.put, List.setIfInBounds_toArray, List.set_cons_zero, List.set_cons_succ, List.getElem_toArray, List.getElem_cons_succ, List.getElem_cons_zero]
  refine wpAnyH_take (i := 15) (v := ?qv15) rfl (by kernel_rfl) (by kernel_rfl) (by kernel_rfl) (fun _ _ _ h => h) (Or.inl ⟨by kernel_rfl, ?qy15⟩) (by assumption) ?_
  case qy15 => (intro w hSw; (try dsimp only at hSw); go_simp) <;> (try with_reducible rfl)
  try simp only [Act.put, List.setIfInBounds_toArray, List.set_cons_zero, List.set_cons_succ, List.getElem_toArray, List.getElem_cons_succ, List.getElem_cons_zero]
  refine wpAnyH_ready (rs := [13]) (by kernel_rfl) (by simp) ?_
  refine AllReadyH.cons rfl (fun K hK => ?_) AllReadyH.nil
  go_simp
  refine (hL.out _).mono ?_
  rintro e v9 ⟨rfl, rfl⟩
  refine hK.out _ _ ?hs13a (fun hHeld => ?_)
  case hs13a => (try dsimp only); exact CEL.out _ (hA8)
  clear hK K
  try simp only [Act.put, List.setIfInBounds_toArray, List.set_cons_zero, List.set_cons_succ, List.getElem_toArray, List.getElem_cons_succ, List.getElem_cons_zero]
  refine wpAnyH_ready (rs := [16]) (by kernel_rfl) (by simp) ?_
  refine AllReadyH.cons rfl (fun K hK => ?_) AllReadyH.nil
  go_simp
  refine (hLr.out _).mono ?_
  rintro e v10 ⟨rfl, rfl⟩
  refine hK.out _ _ ?hs16a (fun hHeld => ?_)
  case hs16a => (try dsimp only); exact CEL.out _ (hA8)
  clear hK K
  try simp only [Act.put, List.setIfInBounds_toArray, List.set_cons_zero, List.set_cons_succ, List.getElem_toArray, List.getElem_cons_succ, List.getElem_cons_zero]
  refine wpAnyH_take (i := 17) (v := ?qv17) rfl (by kernel_rfl) (by kernel_rfl) (by kernel_rfl) (fun _ _ _ h => h) (Or.inl ⟨by kernel_rfl, ?qy17⟩) (by assumption) ?_
  case qy17 => (intro w hSw; (try dsimp only at hSw); go_simp) <;> (try with_reducible rfl)
  try simp only [Act.put, List.setIfInBounds_toArray, List.set_cons_zero, List.set_cons_succ, List.getElem_toArray, List.getElem_cons_succ, List.getElem_cons_zero]
  refine wpAnyH_take (i := 18) (v := ?qv18) rfl (by kernel_rfl) (by kernel_rfl) (by kernel_rfl) (fun _ _ _ h => h) (Or.inl ⟨by kernel_rfl, ?qy18⟩) (by assumption) ?_
  case qy18 => (intro w hSw; (try dsimp only at hSw); go_simp) <;> (try with_reducible rfl)
  try simp only [Act.put, List.setIfInBounds_toArray, List.set_cons_zero, List.set_cons_succ, List.getElem_toArray, List.getElem_cons_succ, List.getElem_cons_zero]
  refine wpAnyH_take (i := 19) (v := ?qv19) rfl (by kernel_rfl) (by kernel_rfl) (by kernel_rfl) (fun _ _ _ h => h) (Or.inl ⟨by kernel_rfl, ?qy19⟩) (by assumption) ?_
  case qy19 => (intro w hSw; (try dsimp only at hSw); go_simp) <;> (try with_reducible rfl)
  try simp only [Act.put, List.setIfInBounds_toArray, List.set_cons_zero, List.set_cons_succ, List.getElem_toArray, List.getElem_cons_succ, List.getElem_cons_zero]
  refine wpAnyH_take (i := 20) (v := ?qv20) rfl (by kernel_rfl) (by kernel_rfl) (by kernel_rfl) (fun _ _ _ h => h) (Or.inl ⟨by kernel_rfl, ?qy20⟩) (by assumption) ?_
  case qy20 => (intro w hSw; (try dsimp only at hSw); go_simp) <;> (try with_reducible rfl)
  try simp only [Act.put, List.setIfInBounds_toArray, List.set_cons_zero, List.set_cons_succ, List.getElem_toArray, List.getElem_cons_succ, List.getElem_cons_zero]
  refine wpAnyH_take (i := 21) (v := ?qv21) rfl (by kernel_rfl) (by kernel_rfl) (by kernel_rfl) (fun _ _ _ h => h) (Or.inl ⟨by kernel_rfl, ?qy21⟩) (by assumption) ?_
  case qy21 => (intro w hSw; (try dsimp only at hSw); go_simp) <;> (try with_reducible rfl)
  try simp only [Act.put, List.setIfInBounds_toArray, List.set_cons_zero, List.set_cons_succ, List.getElem_toArray, List.getElem_cons_succ, List.getElem_cons_zero]
  refine wpAnyH_take (i := 22) (v := ?qv22) rfl (by kernel_rfl) (by kernel_rfl) (by kernel_rfl) (fun _ _ _ h => h) (Or.inl ⟨by kernel_rfl, ?qy22⟩) (by assumption) ?_
  case qy22 => (intro w hSw; (try dsimp only at hSw); go_simp) <;> (try with_reducible rfl)
  try simp only [Act.put, List.setIfInBounds_toArray, List.set_cons_zero, List.set_cons_succ, List.getElem_toArray, List.getElem_cons_succ, List.getElem_cons_zero]
  refine wpAnyH_take (i := 23) (v := ?qv23) rfl (by kernel_rfl) (by kernel_rfl) (by kernel_rfl) (fun _ _ _ h => h) (Or.inl ⟨by kernel_rfl, ?qy23⟩) (by assumption) ?_
  case qy23 => (intro w hSw; (try dsimp only at hSw); go_simp) <;> (try with_reducible rfl)
  try simp only [Act.put, List.setIfInBounds_toArray, List.set_cons_zero, List.set_cons_succ, List.getElem_toArray, List.getElem_cons_succ, List.getElem_cons_zero]
  refine wpAnyH_take (i := 25) (v := ?qv25) rfl (by kernel_rfl) (by kernel_rfl) (by kernel_rfl) (fun _ _ _ h => h) (Or.inl ⟨by kernel_rfl, ?qy25⟩) (by assumption) ?_
  case qy25 => (intro w hSw; (try dsimp only at hSw); go_simp) <;> (try with_reducible rfl)
  try simp only [Act.put, List.setIfInBounds_toArray, List.set_cons_zero, List.set_cons_succ, List.getElem_toArray, List.getElem_cons_succ, List.getElem_cons_zero]
  refine wpAnyH_take (i := 26) (v := ?qv26) rfl (by kernel_rfl) (by kernel_rfl) (by kernel_rfl) (fun _ _ _ h => h) (Or.inl ⟨by kernel_rfl, ?qy26⟩) (by assumption) ?_
  case qy26 => (intro w hSw; (try dsimp only at hSw); go_simp) <;> (try with_reducible rfl)
  try simp only [Act.put, List.setIfInBounds_toArray, List.set_cons_zero, List.set_cons_succ, List.getElem_toArray, List.getElem_cons_succ, List.getElem_cons_zero]
  refine wpAnyH_take (i := 27) (v := ?qv27) rfl (by kernel_rfl) (by kernel_rfl) (by kernel_rfl) (fun _ _ _ h => h) (Or.inl ⟨by kernel_rfl, ?qy27⟩) (by assumption) ?_
  case qy27 => (intro w hSw; (try dsimp only at hSw); go_simp) <;> (try with_reducible rfl)
  try simp only [Act.put, List.setIfInBounds_toArray, List.set_cons_zero, List.set_cons_succ, List.getElem_toArray, List.getElem_cons_succ, List.getElem_cons_zero]
  refine wpAnyH_take (i := 28) (v := ?qv28) rfl (by kernel_rfl) (by kernel_rfl) (by kernel_rfl) (fun _ _ _ h => h) (Or.inl ⟨by kernel_rfl, ?qy28⟩) (by assumption) ?_
  case qy28 => (intro w hSw; (try dsimp only at hSw); go_simp) <;> (try with_reducible rfl)
  try simp only [Act.put, List.setIfInBounds_toArray, List.set_cons_zero, List.set_cons_succ, List.getElem_toArray, List.getElem_cons_succ, List.getElem_cons_zero]
  refine wpAnyH_ready (rs := [24]) (by kernel_rfl) (by simp) ?_
  refine AllReadyH.cons rfl (fun K hK => ?_) AllReadyH.nil
  go_simp
  refine (hD.out _).mono ?_
  rintro e v11 ⟨rfl, rfl⟩
  refine hK.out _ _ ?hs24a (fun hHeld => ?_)
  case hs24a => (try dsimp only); exact CEL.out _ (hA8)
  clear hK K
  try simp only [Act.put, List.setIfInBounds_toArray, List.set_cons_zero, List.set_cons_succ, List.getElem_toArray, List.getElem_cons_succ, List.getElem_cons_zero]
  refine wpAnyH_ready (rs := [29]) (by kernel_rfl) (by simp) ?_
  refine AllReadyH.cons rfl (fun K hK => ?_) AllReadyH.nil
  go_simp
  refine (hDr.out _).mono ?_
  rintro e v12 ⟨rfl, hB12⟩
  have hA12 : Below (w.alloc (.cells #[.int .i64 y, .int .i64 m, .int .i64 d] 23)).heap.size (w.alloc (.cells #[.int .i64 y, .int .i64 m, .int .i64 d] 23)) v12 := (hA8).trans (hB12.mono (hA8).size)
  refine hK.out _ _ ?hs29a (fun hHeld => ?_)
  case hs29a => (try dsimp only); exact CEL.out _ (hA12)
  clear hK K
  try simp only [Act.put, List.setIfInBounds_toArray, List.set_cons_zero, List.set_cons_succ, List.getElem_toArray, List.getElem_cons_succ, List.getElem_cons_zero]
  refine wpAnyH_take (i := 30) (v := ?qv30) rfl (by kernel_rfl) (by kernel_rfl) (by kernel_rfl) (fun _ _ _ h => h) (Or.inl ⟨by kernel_rfl, ?qy30⟩) (by assumption) ?_
  case qy30 => (intro w hSw; (try dsimp only at hSw); go_simp) <;> (try with_reducible rfl)
  try simp only [Act.put, List.setIfInBounds_toArray, List.set_cons_zero, List.set_cons_succ, List.getElem_toArray, List.getElem_cons_succ, List.getElem_cons_zero]
  refine wpAnyH_take (i := 31) (v := ?qv31) rfl (by kernel_rfl) (by kernel_rfl) (by kernel_rfl) (fun _ _ _ h => h) (Or.inl ⟨by kernel_rfl, ?qy31⟩) (by assumption) ?_
  case qy31 => (intro w hSw; (try dsimp only at hSw); go_simp) <;> (try with_reducible rfl)
  try simp only [Act.put, List.setIfInBounds_toArray, List.set_cons_zero, List.set_cons_succ, List.getElem_toArray, List.getElem_cons_succ, List.getElem_cons_zero]
  refine wpAnyH_done (by kernel_rfl) ?_ _
  have hcel := CEL.out _ hA12
  have HA12 := Lib.hid hA12
  clear hA12
  obtain ⟨a0, a1, a2⟩ := hcel
  go_wp2_with fail
  refine (hRr.out _).mono ?_
  rintro e v13 ⟨rfl, hB13⟩
  rw [hdec]
  have HA13 := Lib.hid (HA12.out.trans (hB13.mono HA12.out.size))
  clear hB13 a0 a1 a2 HA12
  obtain ⟨a0, a1, a2⟩ := CEL.out _ HA13.out
  go_wp2_with fail
  refine (hNr.out _).mono ?_
  rintro e v14 ⟨rfl, hB14⟩
  have HA14 := Lib.hid (HA13.out.trans (hB14.mono HA13.out.size))
  clear hB14 a0 a1 a2 HA13
  go_wp2
  go_ret
  exact ⟨rfl, HB.out.trans (HA14.out.mono HB.out.size)⟩

theorem lawNumbers (y m d : Int) (w : World) (hy : I64 y) (hm : I64 m) (hd : I64 d) :
    Calls Try.prog 3 #[dv y m d] w fun e w' => e = .returned (.bool true) ∧ Below w.heap.size w w' := by
  by_cases r1 : Rgt y m d
  · exact lawNumbersYes y m d w hy hm hd r1
  · exact lawNumbersNo y m d w hy hm hd r1
end Go.Proofs.Yteljhijnablphaa
