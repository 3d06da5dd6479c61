/-
  The law DateSeconds: a moment.
-/
import Derived.Test.YteljhijnablphaaLwF
namespace Go.Proofs.Yteljhijnablphaa
open Go.RowKit
set_option linter.unusedVariables false
set_option linter.unusedSimpArgs false
set_option maxRecDepth 4000

set_option maxHeartbeats 3200000 in
theorem lawSecNY (y m d a b c s : Int) (w : World) (hy : I64 y) (hm : I64 m) (hd : I64 d) (r1 : ¬ RgtC y m d a b c) (h0 : -62167219200 ≤ s) (h1 : s ≤ 253402300799) :
    Calls Try.prog 5 #[cv y m d a b c, .int .i64 s] w fun e w' => e = .returned (.bool true) ∧ Below w.heap.size w w' := by
  have hck := Lib.hid lw9clock
  have hof := Lib.hid lw9of
  have hKn := Lib.hid known9
  have hR := Lib.hid (fun W => dtRightClock y m d a b c W hy hm hd)
  have hRr := Lib.hid (fun W => rf9RightClock y m d a b c W hy hm hd)
  have hEC := @eqlC
  have hdec : decide (RgtC y m d a b c) = false := by simpa using r1
  have hSec := Lib.hid (fun W => dtSecondNo y m d a b c W hy hm hd r1)
  have hAt := Lib.hid (fun W => dtAtYes s W h0 h1)
  have hTx := Lib.hid (fun (y m d a b c : Int) W (r : RgtC y m d a b c) (e : sec y m d a b c = s) => dtTextYes s y m d a b c W h0 h1 r e)
  have hAr := Lib.hid (fun (y m d a b c : Int) W (r : RgtC y m d a b c) (e : sec y m d a b c = s) => rf9AtYes s y m d a b c W r e)
  clear r1
  unfold cv at *
  have HB := Lib.hid (below_alloc1 w (.cells #[.int .i64 y, .int .i64 m, .int .i64 d, .int .i64 a, .int .i64 b, .int .i64 c] 42))
  have CEL : Hid (∀ W : World, Below (w.alloc (.cells #[.int .i64 y, .int .i64 m, .int .i64 d, .int .i64 a, .int .i64 b, .int .i64 c] 42)).heap.size (w.alloc (.cells #[.int .i64 y, .int .i64 m, .int .i64 d, .int .i64 a, .int .i64 b, .int .i64 c] 42)) W → W.cell? ⟨w.heap.size, 0, none⟩ = some (.int .i64 y) ∧ W.cell? ⟨w.heap.size, 1, none⟩ = some (.int .i64 m) ∧ W.cell? ⟨w.heap.size, 2, none⟩ = some (.int .i64 d) ∧ W.cell? ⟨w.heap.size, 3, none⟩ = some (.int .i64 a) ∧ W.cell? ⟨w.heap.size, 4, none⟩ = some (.int .i64 b) ∧ W.cell? ⟨w.heap.size, 5, none⟩ = some (.int .i64 c)) := fun W hW => ((Blk.six_new w (.int .i64 y) (.int .i64 m) (.int .i64 d) (.int .i64 a) (.int .i64 b) (.int .i64 c) 42).below hW).six
  have HA0 := Lib.hid (Below.refl (w.alloc (.cells #[.int .i64 y, .int .i64 m, .int .i64 d, .int .i64 a, .int .i64 b, .int .i64 c] 42)).heap.size (w.alloc (.cells #[.int .i64 y, .int .i64 m, .int .i64 d, .int .i64 a, .int .i64 b, .int .i64 c] 42)))
  obtain ⟨a0, a1, a2, a3, a4, a5⟩ := CEL.out _ HA0.out
  go_enter Try.func5, Try.ntmps5
  go_wp2_with fail
  refine (hck.out _ _ _ _ _ _ _).mono ?_
  rintro e v1 ⟨rfl, hB1⟩
  have HA1 := Lib.hid (HA0.out.trans (hB1.mono HA0.out.size))
  clear hB1 a0 a1 a2 a3 a4 a5
  obtain ⟨a0, a1, a2, a3, a4, a5⟩ := CEL.out _ HA1.out
  go_wp2_with fail
  refine (hSec.out _).mono ?_
  rintro e v2 ⟨rfl, hB2⟩
  have HA2 := Lib.hid (HA1.out.trans (hB2.mono HA1.out.size))
  clear hB2 a0 a1 a2 a3 a4 a5
  obtain ⟨a0, a1, a2, a3, a4, a5⟩ := CEL.out _ HA2.out
  go_wp2_with fail
  refine (hRr.out _).mono ?_
  rintro e v3 ⟨rfl, hB3⟩
  rw [hdec]
  have HA3 := Lib.hid (HA2.out.trans (hB3.mono HA2.out.size))
  clear hB3 a0 a1 a2 a3 a4 a5
  obtain ⟨a0, a1, a2, a3, a4, a5⟩ := CEL.out _ HA3.out
  go_wp2_with fail
  refine (hKn.out _).mono ?_
  rintro e v4 ⟨rfl, hB4⟩
  have HA4 := Lib.hid (HA3.out.trans (hB4.mono HA3.out.size))
  clear hB4 a0 a1 a2 a3 a4 a5
  obtain ⟨a0, a1, a2, a3, a4, a5⟩ := CEL.out _ HA4.out
  go_wp2_with fail
  refine (hck.out _ _ _ _ _ _ _).mono ?_
  rintro e v5 ⟨rfl, hB5⟩
  have HA5 := Lib.hid (HA4.out.trans (hB5.mono HA4.out.size))
  clear hB5 a0 a1 a2 a3 a4 a5
  obtain ⟨a0, a1, a2, a3, a4, a5⟩ := CEL.out _ HA5.out
  go_wp2_with fail
  refine (hR.out _).mono ?_
  rintro e v6 ⟨rfl, hB6⟩
  rw [hdec]
  have HA6 := Lib.hid (HA5.out.trans (hB6.mono HA5.out.size))
  clear hB6 a0 a1 a2 a3 a4 a5
  obtain ⟨a0, a1, a2, a3, a4, a5⟩ := CEL.out _ HA6.out
  go_wp2_with fail
  refine (hAt.out _).mono ?_
  rintro e v8 ⟨⟨y', m', d', a', b', c', rfl, hr, hsc⟩, hB8⟩
  unfold cv
  have HA8 := Lib.hid (HA6.out.trans (hB8.mono HA6.out.size))
  clear hB8 a0 a1 a2 a3 a4 a5
  have hTx1 := Lib.hid (fun W => hTx.out y' m' d' a' b' c' W hr hsc)
  have hAr1 := Lib.hid (fun W => hAr.out y' m' d' a' b' c' W hr hsc)
  have hT0 := fun W => rf9Text y' m' d' a' b' c' W hr
  have hS0 := fun W => dtSecondYes y' m' d' a' b' c' W hr
  rw [hsc] at hS0
  unfold cv at hT0 hS0
  have hTr := Lib.hid hT0
  have hS2 := Lib.hid hS0
  clear hT0 hS0 hr hsc hTx hAr hAt
  have hES := @eqlS (txtB y' m' d' a' b' c')
  unfold strV at hTx1 hTr hES
  generalize (txtB y' m' d' a' b' c').toArray = T at *
  have hx := Lib.hid (Blk.six_new v8 (.int .i64 y') (.int .i64 m') (.int .i64 d') (.int .i64 a') (.int .i64 b') (.int .i64 c') 45)
  have HV8 := Lib.hid (HA8.out.alloc HA8.out.size (.cells #[.int .i64 y', .int .i64 m', .int .i64 d', .int .i64 a', .int .i64 b', .int .i64 c'] 45))
  go_wp2_with fail
  refine (hTx1.out _).mono ?_
  rintro e v9 ⟨rfl, hB9⟩
  have HA9 := Lib.hid (HV8.out.trans (hB9.mono HV8.out.size))
  have hx9 := Lib.hid (hx.out.below hB9)
  clear hB9
  go_wp2_with fail
  refine (hAr1.out _).mono ?_
  rintro e v10 ⟨rfl, hB10⟩
  have HA10 := Lib.hid (HA9.out.trans (hB10.mono HA9.out.size))
  have hx10 := Lib.hid ((hx9.out.below hB10).alloc (.cells #[.int .i64 y', .int .i64 m', .int .i64 d', .int .i64 a', .int .i64 b', .int .i64 c'] 42))
  have hz10 := Lib.hid (Blk.six_new v10 (.int .i64 y') (.int .i64 m') (.int .i64 d') (.int .i64 a') (.int .i64 b') (.int .i64 c') 42)
  have HV10 := Lib.hid (HA10.out.alloc HA10.out.size (.cells #[.int .i64 y', .int .i64 m', .int .i64 d', .int .i64 a', .int .i64 b', .int .i64 c'] 42))
  clear hB10
  obtain ⟨x0, x1, x2, x3, x4, x5⟩ := hx10.out.six
  go_wp2_with fail
  refine (hS2.out _).mono ?_
  rintro e v11 ⟨rfl, hB11⟩
  have HA11 := Lib.hid (HV10.out.trans (hB11.mono HV10.out.size))
  have hx11 := Lib.hid (hx10.out.below hB11)
  have hz11 := Lib.hid (hz10.out.below hB11)
  clear hB11 x0 x1 x2 x3 x4 x5 hx hx9 hx10 hz10
  go_upto_region 11 with fail
  generalize v8.heap.size = R1 at *
  generalize v10.heap.size = R2 at *
  have CEL9 : Hid (∀ W : World, Below v11.heap.size v11 W → W.cell? ⟨R1, 0, none⟩ = some (.int .i64 y') ∧ W.cell? ⟨R1, 1, none⟩ = some (.int .i64 m') ∧ W.cell? ⟨R1, 2, none⟩ = some (.int .i64 d') ∧ W.cell? ⟨R1, 3, none⟩ = some (.int .i64 a') ∧ W.cell? ⟨R1, 4, none⟩ = some (.int .i64 b') ∧ W.cell? ⟨R1, 5, none⟩ = some (.int .i64 c') ∧ W.cell? ⟨R2, 0, none⟩ = some (.int .i64 y') ∧ W.cell? ⟨R2, 1, none⟩ = some (.int .i64 m') ∧ W.cell? ⟨R2, 2, none⟩ = some (.int .i64 d') ∧ W.cell? ⟨R2, 3, none⟩ = some (.int .i64 a') ∧ W.cell? ⟨R2, 4, none⟩ = some (.int .i64 b') ∧ W.cell? ⟨R2, 5, none⟩ = some (.int .i64 c')) := fun W hW => ⟨(hx11.out.below hW).six.1, (hx11.out.below hW).six.2.1, (hx11.out.below hW).six.2.2.1, (hx11.out.below hW).six.2.2.2.1, (hx11.out.below hW).six.2.2.2.2.1, (hx11.out.below hW).six.2.2.2.2.2, (hz11.out.below hW).six.1, (hz11.out.below hW).six.2.1, (hz11.out.below hW).six.2.2.1, (hz11.out.below hW).six.2.2.2.1, (hz11.out.below hW).six.2.2.2.2.1, (hz11.out.below hW).six.2.2.2.2.2⟩
  refine wp_region_held_drew (S := fun w' => w'.cell? ⟨R1, 0, none⟩ = some (.int .i64 y') ∧ w'.cell? ⟨R1, 1, none⟩ = some (.int .i64 m') ∧ w'.cell? ⟨R1, 2, none⟩ = some (.int .i64 d') ∧ w'.cell? ⟨R1, 3, none⟩ = some (.int .i64 a') ∧ w'.cell? ⟨R1, 4, none⟩ = some (.int .i64 b') ∧ w'.cell? ⟨R1, 5, none⟩ = some (.int .i64 c') ∧ w'.cell? ⟨R2, 0, none⟩ = some (.int .i64 y') ∧ w'.cell? ⟨R2, 1, none⟩ = some (.int .i64 m') ∧ w'.cell? ⟨R2, 2, none⟩ = some (.int .i64 d') ∧ w'.cell? ⟨R2, 3, none⟩ = some (.int .i64 a') ∧ w'.cell? ⟨R2, 4, none⟩ = some (.int .i64 b') ∧ w'.cell? ⟨R2, 5, none⟩ = some (.int .i64 c')) (by kernel_rfl) ?hb0 (fun hHeld => ?_)
  case hb0 => (try dsimp only); exact CEL9.out _ (below_drewN (Below.refl v11.heap.size v11) 1)
  refine wpAnyH_take (i := 0) (v := ?qv0) rfl (by kernel_rfl) (by kernel_rfl) (by kernel_rfl) (fun _ _ _ h => h) (Or.inl ⟨by kernel_rfl, ?qy0⟩) (by assumption) ?_
  case qy0 => (intro w hSw; (try dsimp only at hSw); go_simp) <;> (try with_reducible rfl)
  try simp only [Act.put, List.setIfInBounds_toArray, List.set_cons_zero, List.set_cons_succ, List.getElem_toArray, List.getElem_cons_succ, List.getElem_cons_zero]
  refine wpAnyH_take (i := 1) (v := ?qv1) rfl (by kernel_rfl) (by kernel_rfl) (by kernel_rfl) (fun _ _ _ h => h) (Or.inl ⟨by kernel_rfl, ?qy1⟩) (by assumption) ?_
  case qy1 => (intro w hSw; (try dsimp only at hSw); go_simp) <;> (try with_reducible rfl)
  try simp only [Act.put, List.setIfInBounds_toArray, List.set_cons_zero, List.set_cons_succ, List.getElem_toArray, List.getElem_cons_succ, List.getElem_cons_zero]
  refine wpAnyH_take (i := 2) (v := ?qv2) rfl (by kernel_rfl) (by kernel_rfl) (by kernel_rfl) (fun _ _ _ h => h) (Or.inl ⟨by kernel_rfl, ?qy2⟩) (by assumption) ?_
  case qy2 => (intro w hSw; (try dsimp only at hSw); go_simp) <;> (try with_reducible rfl)
  try simp only [Act.put, List.setIfInBounds_toArray, List.set_cons_zero, List.set_cons_succ, List.getElem_toArray, List.getElem_cons_succ, List.getElem_cons_zero]
  refine wpAnyH_take (i := 3) (v := ?qv3) rfl (by kernel_rfl) (by kernel_rfl) (by kernel_rfl) (fun _ _ _ h => h) (Or.inl ⟨by kernel_rfl, ?qy3⟩) (by assumption) ?_
  case qy3 => (intro w hSw; (try dsimp only at hSw); go_simp) <;> (try with_reducible rfl)
  try simp only [Act.put, List.setIfInBounds_toArray, List.set_cons_zero, List.set_cons_succ, List.getElem_toArray, List.getElem_cons_succ, List.getElem_cons_zero]
  refine wpAnyH_take (i := 5) (v := ?qv5) rfl (by kernel_rfl) (by kernel_rfl) (by kernel_rfl) (fun _ _ _ h => h) (Or.inl ⟨by kernel_rfl, ?qy5⟩) (by assumption) ?_
  case qy5 => (intro w hSw; (try dsimp only at hSw); go_simp) <;> (try with_reducible rfl)
  try simp only [Act.put, List.setIfInBounds_toArray, List.set_cons_zero, List.set_cons_succ, List.getElem_toArray, List.getElem_cons_succ, List.getElem_cons_zero]
  refine wpAnyH_ready (rs := [4]) (by kernel_rfl) (by simp) ?_
  refine AllReadyH.cons rfl (fun K hK => ?_) AllReadyH.nil
  go_simp
  refine (hof.out _ _ _ _ _ _ _).mono ?_
  rintro e v12 ⟨rfl, hB12⟩
  have hA12 : Below v11.heap.size v11 v12 := (below_drewN (Below.refl v11.heap.size v11) 1).trans (hB12.mono (below_drewN (Below.refl v11.heap.size v11) 1).size)
  refine hK.out _ _ ?hs4a (fun hHeld => ?_)
  case hs4a => (try dsimp only); exact CEL9.out _ (hA12)
  clear hK K
  try simp only [Act.put, List.setIfInBounds_toArray, List.set_cons_zero, List.set_cons_succ, List.getElem_toArray, List.getElem_cons_succ, List.getElem_cons_zero]
  refine wpAnyH_take (i := 6) (v := ?qv6) rfl (by kernel_rfl) (by kernel_rfl) (by kernel_rfl) (fun _ _ _ h => h) (Or.inl ⟨by kernel_rfl, ?qy6⟩) (by assumption) ?_
  case qy6 => (intro w hSw; (try dsimp only at hSw); go_simp) <;> (try with_reducible rfl)
  try simp only [Act.put, List.setIfInBounds_toArray, List.set_cons_zero, List.set_cons_succ, List.getElem_toArray, List.getElem_cons_succ, List.getElem_cons_zero]
  refine wpAnyH_take (i := 7) (v := ?qv7) rfl (by kernel_rfl) (by kernel_rfl) (by kernel_rfl) (fun _ _ _ h => h) (Or.inl ⟨by kernel_rfl, ?qy7⟩) (by assumption) ?_
  case qy7 => (intro w hSw; (try dsimp only at hSw); go_simp) <;> (try with_reducible rfl)
  try simp only [Act.put, List.setIfInBounds_toArray, List.set_cons_zero, List.set_cons_succ, List.getElem_toArray, List.getElem_cons_succ, List.getElem_cons_zero]
  refine wpAnyH_take (i := 8) (v := ?qv8) rfl (by kernel_rfl) (by kernel_rfl) (by kernel_rfl) (fun _ _ _ h => h) (Or.inl ⟨by kernel_rfl, ?qy8⟩) (by assumption) ?_
  case qy8 => (intro w hSw; (try dsimp only at hSw); go_simp) <;> (try with_reducible rfl)
  try simp only [Act.put, List.setIfInBounds_toArray, List.set_cons_zero, List.set_cons_succ, List.getElem_toArray, List.getElem_cons_succ, List.getElem_cons_zero]
  refine wpAnyH_take (i := 9) (v := ?qv9) rfl (by kernel_rfl) (by kernel_rfl) (by kernel_rfl) (fun _ _ _ h => h) (Or.inl ⟨by kernel_rfl, ?qy9⟩) (by assumption) ?_
  case qy9 => (intro w hSw; (try dsimp only at hSw); go_simp) <;> (try with_reducible rfl)
  try simp only [Act.put, List.setIfInBounds_toArray, List.set_cons_zero, List.set_cons_succ, List.getElem_toArray, List.getElem_cons_succ, List.getElem_cons_zero]
  refine wpAnyH_take (i := 10) (v := ?qv10) rfl (by kernel_rfl) (by kernel_rfl) (by kernel_rfl) (fun _ _ _ h => h) (Or.inl ⟨by kernel_rfl, ?qy10⟩) (by assumption) ?_
  case qy10 => (intro w hSw; (try dsimp only at hSw); go_simp) <;> (try with_reducible rfl)
  try simp only [Act.put, List.setIfInBounds_toArray, List.set_cons_zero, List.set_cons_succ, List.getElem_toArray, List.getElem_cons_succ, List.getElem_cons_zero]
  refine wpAnyH_take (i := 11) (v := ?qv11) rfl (by kernel_rfl) (by kernel_rfl) (by kernel_rfl) (fun _ _ _ h => h) (Or.inl ⟨by kernel_rfl, ?qy11⟩) (by assumption) ?_
  case qy11 => (intro w hSw; (try dsimp only at hSw); go_simp) <;> (try with_reducible rfl)
  try simp only [Act.put, List.setIfInBounds_toArray, List.set_cons_zero, List.set_cons_succ, List.getElem_toArray, List.getElem_cons_succ, List.getElem_cons_zero]
  refine wpAnyH_take (i := 12) (v := ?qv12) rfl (by kernel_rfl) (by kernel_rfl) (by kernel_rfl) (fun _ _ _ h => h) (Or.inl ⟨by kernel_rfl, ?qy12⟩) (by assumption) ?_
  case qy12 => (intro w hSw; (try dsimp only at hSw); go_simp) <;> (try with_reducible rfl)
  try simp only [Act.put, List.setIfInBounds_toArray, List.set_cons_zero, List.set_cons_succ, List.getElem_toArray, List.getElem_cons_succ, List.getElem_cons_zero]
  refine wpAnyH_take (i := 13) (v := ?qv13) rfl (by kernel_rfl) (by kernel_rfl) (by kernel_rfl) (fun _ _ _ h => h) (Or.inl ⟨by kernel_rfl, ?qy13⟩) (by assumption) ?_
  case qy13 => (intro w hSw; (try dsimp only at hSw); go_simp) <;> (try with_reducible rfl)
  try simp only [Act.put, List.setIfInBounds_toArray, List.set_cons_zero, List.set_cons_succ, List.getElem_toArray, List.getElem_cons_succ, List.getElem_cons_zero]
  refine wpAnyH_take (i := 14) (v := ?qv14) rfl (by kernel_rfl) (by kernel_rfl) (by kernel_rfl) (fun _ _ _ h => h) (Or.inl ⟨by kernel_rfl, ?qy14⟩) (by assumption) ?_
  case qy14 => (intro w hSw; (try dsimp only at hSw); go_simp) <;> (try with_reducible rfl)
  try simp only [Act.put, List.setIfInBounds_toArray, List.set_cons_zero, List.set_cons_succ, List.getElem_toArray, List.getElem_cons_succ, List.getElem_cons_zero]
  refine wpAnyH_ready (rs := [15]) (by kernel_rfl) (by simp) ?_
  refine AllReadyH.cons rfl (fun K hK => ?_) AllReadyH.nil
  go_simp
  refine (hTr.out _).mono ?_
  rintro e v13 ⟨rfl, hB13⟩
  have hA13 : Below v11.heap.size v11 v13 := (hA12).trans (hB13.mono (hA12).size)
  refine hK.out _ _ ?hs15a (fun hHeld => ?_)
  case hs15a => (try dsimp only); exact CEL9.out _ (hA13)
  clear hK K
  try simp only [Act.put, List.setIfInBounds_toArray, List.set_cons_zero, List.set_cons_succ, List.getElem_toArray, List.getElem_cons_succ, List.getElem_cons_zero]
  refine wpAnyH_take (i := 16) (v := ?qv16) rfl (by kernel_rfl) (by kernel_rfl) (by kernel_rfl) (fun _ _ _ h => h) (Or.inl ⟨by kernel_rfl, ?qy16⟩) (by assumption) ?_
  case qy16 => (intro w hSw; (try dsimp only at hSw); go_simp) <;> (try with_reducible rfl)
  try simp only [Act.put, List.setIfInBounds_toArray, List.set_cons_zero, List.set_cons_succ, List.getElem_toArray, List.getElem_cons_succ, List.getElem_cons_zero]
  refine wpAnyH_take (i := 17) (v := ?qv17) rfl (by kernel_rfl) (by kernel_rfl) (by kernel_rfl) (fun _ _ _ h => h) (Or.inl ⟨by kernel_rfl, ?qy17⟩) (by assumption) ?_
  case qy17 => (intro w hSw; (try dsimp only at hSw); go_simp) <;> (try with_reducible rfl)
  try simp only [Act.put, List.setIfInBounds_toArray, List.set_cons_zero, List.set_cons_succ, List.getElem_toArray, List.getElem_cons_succ, List.getElem_cons_zero]
  refine wpAnyH_take (i := 18) (v := ?qv18) rfl (by kernel_rfl) (by kernel_rfl) (by kernel_rfl) (fun _ _ _ h => h) (Or.inl ⟨by kernel_rfl, ?qy18⟩) (by assumption) ?_
  case qy18 => (intro w hSw; (try dsimp only at hSw); go_simp) <;> (try with_reducible rfl)
  try simp only [Act.put, List.setIfInBounds_toArray, List.set_cons_zero, List.set_cons_succ, List.getElem_toArray, List.getElem_cons_succ, List.getElem_cons_zero]
  refine wpAnyH_take (i := 19) (v := ?qv19) rfl (by kernel_rfl) (by kernel_rfl) (by kernel_rfl) (fun _ _ _ h => h) (Or.inl ⟨by kernel_rfl, ?qy19⟩) (by assumption) ?_
  case qy19 => (intro w hSw; (try dsimp only at hSw); go_simp) <;> (try with_reducible rfl)
  try simp only [Act.put, List.setIfInBounds_toArray, List.set_cons_zero, List.set_cons_succ, List.getElem_toArray, List.getElem_cons_succ, List.getElem_cons_zero]
  refine wpAnyH_take (i := 20) (v := ?qv20) rfl (by kernel_rfl) (by kernel_rfl) (by kernel_rfl) (fun _ _ _ h => h) (Or.inl ⟨by kernel_rfl, ?qy20⟩) (by assumption) ?_
  case qy20 => (intro w hSw; (try dsimp only at hSw); go_simp) <;> (try with_reducible rfl)
  try simp only [Act.put, List.setIfInBounds_toArray, List.set_cons_zero, List.set_cons_succ, List.getElem_toArray, List.getElem_cons_succ, List.getElem_cons_zero]
  refine wpAnyH_take (i := 21) (v := ?qv21) rfl (by kernel_rfl) (by kernel_rfl) (by kernel_rfl) (fun _ _ _ h => h) (Or.inl ⟨by kernel_rfl, ?qy21⟩) (by assumption) ?_
  case qy21 => (intro w hSw; (try dsimp only at hSw); go_simp) <;> (try with_reducible rfl)
  try simp only [Act.put, List.setIfInBounds_toArray, List.set_cons_zero, List.set_cons_succ, List.getElem_toArray, List.getElem_cons_succ, List.getElem_cons_zero]
  refine wpAnyH_take (i := 22) (v := ?qv22) rfl (by kernel_rfl) (by kernel_rfl) (by kernel_rfl) (fun _ _ _ h => h) (Or.inl ⟨by kernel_rfl, ?qy22⟩) (by assumption) ?_
  case qy22 => (intro w hSw; (try dsimp only at hSw); go_simp) <;> (try with_reducible rfl)
  try simp only [Act.put, List.setIfInBounds_toArray, List.set_cons_zero, List.set_cons_succ, List.getElem_toArray, List.getElem_cons_succ, List.getElem_cons_zero]
  refine wpAnyH_take (i := 23) (v := ?qv23) rfl (by kernel_rfl) (by kernel_rfl) (by kernel_rfl) (fun _ _ _ h => h) (Or.inl ⟨by kernel_rfl, ?qy23⟩) (by assumption) ?_
  case qy23 => (intro w hSw; (try dsimp only at hSw); go_simp) <;> (try with_reducible rfl)
  try simp only [Act.put, List.setIfInBounds_toArray, List.set_cons_zero, List.set_cons_succ, List.getElem_toArray, List.getElem_cons_succ, List.getElem_cons_zero]
  refine wpAnyH_take (i := 24) (v := ?qv24) rfl (by kernel_rfl) (by kernel_rfl) (by kernel_rfl) (fun _ _ _ h => h) (Or.inl ⟨by kernel_rfl, ?qy24⟩) (by assumption) ?_
  case qy24 => (intro w hSw; (try dsimp only at hSw); go_simp) <;> (try with_reducible rfl)
  try simp only [Act.put, List.setIfInBounds_toArray, List.set_cons_zero, List.set_cons_succ, List.getElem_toArray, List.getElem_cons_succ, List.getElem_cons_zero]
  refine wpAnyH_take (i := 25) (v := ?qv25) rfl (by kernel_rfl) (by kernel_rfl) (by kernel_rfl) (fun _ _ _ h => h) (Or.inl ⟨by kernel_rfl, ?qy25⟩) (by assumption) ?_
  case qy25 => (intro w hSw; (try dsimp only at hSw); go_simp) <;> (try with_reducible rfl)
  try simp only [Act.put, List.setIfInBounds_toArray, List.set_cons_zero, List.set_cons_succ, List.getElem_toArray, List.getElem_cons_succ, List.getElem_cons_zero]
  refine wpAnyH_take (i := 26) (v := ?qv26) rfl (by kernel_rfl) (by kernel_rfl) (by kernel_rfl) (fun _ _ _ h => h) (Or.inl ⟨by kernel_rfl, ?qy26⟩) (by assumption) ?_
  case qy26 => (intro w hSw; (try dsimp only at hSw); go_simp) <;> (try with_reducible rfl)
  try simp only [Act.put, List.setIfInBounds_toArray, List.set_cons_zero, List.set_cons_succ, List.getElem_toArray, List.getElem_cons_succ, List.getElem_cons_zero]
  refine wpAnyH_take (i := 27) (v := ?qv27) rfl (by kernel_rfl) (by kernel_rfl) (by kernel_rfl) (fun _ _ _ h => h) (Or.inl ⟨by kernel_rfl, ?qy27⟩) (by assumption) ?_
  case qy27 => (intro w hSw; (try dsimp only at hSw); go_simp) <;> (try with_reducible rfl)
  try simp only [Act.put, List.setIfInBounds_toArray, List.set_cons_zero, List.set_cons_succ, List.getElem_toArray, List.getElem_cons_succ, List.getElem_cons_zero]
  refine wpAnyH_done (by kernel_rfl) ?_ _
  go_wp2
  go_ret
  exact ⟨rfl, HB.out.trans ((HA11.out.trans (hA13.mono HA11.out.size)).mono HB.out.size)⟩

set_option maxHeartbeats 3200000 in
theorem lawSecYY (y m d a b c s : Int) (w : World) (hy : I64 y) (hm : I64 m) (hd : I64 d) (r1 : RgtC y m d a b c) (h0 : -62167219200 ≤ s) (h1 : s ≤ 253402300799) :
    Calls Try.prog 5 #[cv y m d a b c, .int .i64 s] w fun e w' => e = .returned (.bool true) ∧ Below w.heap.size w w' := by
  have hck := Lib.hid lw9clock
  have hof := Lib.hid lw9of
  have hKn := Lib.hid known9
  have hR := Lib.hid (fun W => dtRightClock y m d a b c W hy hm hd)
  have hRr := Lib.hid (fun W => rf9RightClock y m d a b c W hy hm hd)
  have hEC := @eqlC
  have hdec : decide (RgtC y m d a b c) = true := by simpa using r1
  have hSec := Lib.hid (fun W => dtSecondYes y m d a b c W r1)
  have hSr := Lib.hid (fun W => rf9Second y m d a b c W r1)
  have hAt := Lib.hid (fun W => dtAtYes s W h0 h1)
  have hTx := Lib.hid (fun (y m d a b c : Int) W (r : RgtC y m d a b c) (e : sec y m d a b c = s) => dtTextYes s y m d a b c W h0 h1 r e)
  have hAr := Lib.hid (fun (y m d a b c : Int) W (r : RgtC y m d a b c) (e : sec y m d a b c = s) => rf9AtYes s y m d a b c W r e)
  generalize hS0 : sec y m d a b c = N at *
  clear hS0
  clear r1
  unfold cv at *
  have HB := Lib.hid (below_alloc1 w (.cells #[.int .i64 y, .int .i64 m, .int .i64 d, .int .i64 a, .int .i64 b, .int .i64 c] 42))
  have CEL : Hid (∀ W : World, Below (w.alloc (.cells #[.int .i64 y, .int .i64 m, .int .i64 d, .int .i64 a, .int .i64 b, .int .i64 c] 42)).heap.size (w.alloc (.cells #[.int .i64 y, .int .i64 m, .int .i64 d, .int .i64 a, .int .i64 b, .int .i64 c] 42)) W → W.cell? ⟨w.heap.size, 0, none⟩ = some (.int .i64 y) ∧ W.cell? ⟨w.heap.size, 1, none⟩ = some (.int .i64 m) ∧ W.cell? ⟨w.heap.size, 2, none⟩ = some (.int .i64 d) ∧ W.cell? ⟨w.heap.size, 3, none⟩ = some (.int .i64 a) ∧ W.cell? ⟨w.heap.size, 4, none⟩ = some (.int .i64 b) ∧ W.cell? ⟨w.heap.size, 5, none⟩ = some (.int .i64 c)) := fun W hW => ((Blk.six_new w (.int .i64 y) (.int .i64 m) (.int .i64 d) (.int .i64 a) (.int .i64 b) (.int .i64 c) 42).below hW).six
  have HA0 := Lib.hid (Below.refl (w.alloc (.cells #[.int .i64 y, .int .i64 m, .int .i64 d, .int .i64 a, .int .i64 b, .int .i64 c] 42)).heap.size (w.alloc (.cells #[.int .i64 y, .int .i64 m, .int .i64 d, .int .i64 a, .int .i64 b, .int .i64 c] 42)))
  obtain ⟨a0, a1, a2, a3, a4, a5⟩ := CEL.out _ HA0.out
  go_enter Try.func5, Try.ntmps5
  go_wp2_with fail
  refine (hck.out _ _ _ _ _ _ _).mono ?_
  rintro e v1 ⟨rfl, hB1⟩
  have HA1 := Lib.hid (HA0.out.trans (hB1.mono HA0.out.size))
  clear hB1 a0 a1 a2 a3 a4 a5
  obtain ⟨a0, a1, a2, a3, a4, a5⟩ := CEL.out _ HA1.out
  go_wp2_with fail
  refine (hSec.out _).mono ?_
  rintro e v2 ⟨rfl, hB2⟩
  have HA2 := Lib.hid (HA1.out.trans (hB2.mono HA1.out.size))
  clear hB2 a0 a1 a2 a3 a4 a5
  obtain ⟨a0, a1, a2, a3, a4, a5⟩ := CEL.out _ HA2.out
  go_wp2_with fail
  refine (hRr.out _).mono ?_
  rintro e v3 ⟨rfl, hB3⟩
  rw [hdec]
  have HA3 := Lib.hid (HA2.out.trans (hB3.mono HA2.out.size))
  clear hB3 a0 a1 a2 a3 a4 a5
  obtain ⟨a0, a1, a2, a3, a4, a5⟩ := CEL.out _ HA3.out
  go_wp2_with fail
  refine (hKn.out _).mono ?_
  rintro e v4 ⟨rfl, hB4⟩
  have HA4 := Lib.hid (HA3.out.trans (hB4.mono HA3.out.size))
  clear hB4 a0 a1 a2 a3 a4 a5
  obtain ⟨a0, a1, a2, a3, a4, a5⟩ := CEL.out _ HA4.out
  go_wp2_with fail
  refine (hck.out _ _ _ _ _ _ _).mono ?_
  rintro e v5 ⟨rfl, hB5⟩
  have HA5 := Lib.hid (HA4.out.trans (hB5.mono HA4.out.size))
  clear hB5 a0 a1 a2 a3 a4 a5
  obtain ⟨a0, a1, a2, a3, a4, a5⟩ := CEL.out _ HA5.out
  go_wp2_with fail
  refine (hR.out _).mono ?_
  rintro e v6 ⟨rfl, hB6⟩
  rw [hdec]
  have HA6 := Lib.hid (HA5.out.trans (hB6.mono HA5.out.size))
  clear hB6 a0 a1 a2 a3 a4 a5
  obtain ⟨a0, a1, a2, a3, a4, a5⟩ := CEL.out _ HA6.out
  go_wp2_with fail
  refine (hSr.out _).mono ?_
  rintro e v7 ⟨rfl, hB7⟩
  have HA7 := Lib.hid (HA6.out.trans (hB7.mono HA6.out.size))
  clear hB7 a0 a1 a2 a3 a4 a5
  obtain ⟨a0, a1, a2, a3, a4, a5⟩ := CEL.out _ HA7.out
  go_wp2_with fail
  refine (hAt.out _).mono ?_
  rintro e v8 ⟨⟨y', m', d', a', b', c', rfl, hr, hsc⟩, hB8⟩
  unfold cv
  have HA8 := Lib.hid (HA7.out.trans (hB8.mono HA7.out.size))
  clear hB8 a0 a1 a2 a3 a4 a5
  have hTx1 := Lib.hid (fun W => hTx.out y' m' d' a' b' c' W hr hsc)
  have hAr1 := Lib.hid (fun W => hAr.out y' m' d' a' b' c' W hr hsc)
  have hT0 := fun W => rf9Text y' m' d' a' b' c' W hr
  have hS0 := fun W => dtSecondYes y' m' d' a' b' c' W hr
  rw [hsc] at hS0
  unfold cv at hT0 hS0
  have hTr := Lib.hid hT0
  have hS2 := Lib.hid hS0
  clear hT0 hS0 hr hsc hTx hAr hAt
  have hES := @eqlS (txtB y' m' d' a' b' c')
  unfold strV at hTx1 hTr hES
  generalize (txtB y' m' d' a' b' c').toArray = T at *
  have hx := Lib.hid (Blk.six_new v8 (.int .i64 y') (.int .i64 m') (.int .i64 d') (.int .i64 a') (.int .i64 b') (.int .i64 c') 45)
  have HV8 := Lib.hid (HA8.out.alloc HA8.out.size (.cells #[.int .i64 y', .int .i64 m', .int .i64 d', .int .i64 a', .int .i64 b', .int .i64 c'] 45))
  go_wp2_with fail
  refine (hTx1.out _).mono ?_
  rintro e v9 ⟨rfl, hB9⟩
  have HA9 := Lib.hid (HV8.out.trans (hB9.mono HV8.out.size))
  have hx9 := Lib.hid (hx.out.below hB9)
  clear hB9
  go_wp2_with fail
  refine (hAr1.out _).mono ?_
  rintro e v10 ⟨rfl, hB10⟩
  have HA10 := Lib.hid (HA9.out.trans (hB10.mono HA9.out.size))
  have hx10 := Lib.hid ((hx9.out.below hB10).alloc (.cells #[.int .i64 y', .int .i64 m', .int .i64 d', .int .i64 a', .int .i64 b', .int .i64 c'] 42))
  have hz10 := Lib.hid (Blk.six_new v10 (.int .i64 y') (.int .i64 m') (.int .i64 d') (.int .i64 a') (.int .i64 b') (.int .i64 c') 42)
  have HV10 := Lib.hid (HA10.out.alloc HA10.out.size (.cells #[.int .i64 y', .int .i64 m', .int .i64 d', .int .i64 a', .int .i64 b', .int .i64 c'] 42))
  clear hB10
  obtain ⟨x0, x1, x2, x3, x4, x5⟩ := hx10.out.six
  go_wp2_with fail
  refine (hS2.out _).mono ?_
  rintro e v11 ⟨rfl, hB11⟩
  have HA11 := Lib.hid (HV10.out.trans (hB11.mono HV10.out.size))
  have hx11 := Lib.hid (hx10.out.below hB11)
  have hz11 := Lib.hid (hz10.out.below hB11)
  clear hB11 x0 x1 x2 x3 x4 x5 hx hx9 hx10 hz10
  go_upto_region 11 with fail
  generalize v8.heap.size = R1 at *
  generalize v10.heap.size = R2 at *
  have CEL9 : Hid (∀ W : World, Below v11.heap.size v11 W → W.cell? ⟨R1, 0, none⟩ = some (.int .i64 y') ∧ W.cell? ⟨R1, 1, none⟩ = some (.int .i64 m') ∧ W.cell? ⟨R1, 2, none⟩ = some (.int .i64 d') ∧ W.cell? ⟨R1, 3, none⟩ = some (.int .i64 a') ∧ W.cell? ⟨R1, 4, none⟩ = some (.int .i64 b') ∧ W.cell? ⟨R1, 5, none⟩ = some (.int .i64 c') ∧ W.cell? ⟨R2, 0, none⟩ = some (.int .i64 y') ∧ W.cell? ⟨R2, 1, none⟩ = some (.int .i64 m') ∧ W.cell? ⟨R2, 2, none⟩ = some (.int .i64 d') ∧ W.cell? ⟨R2, 3, none⟩ = some (.int .i64 a') ∧ W.cell? ⟨R2, 4, none⟩ = some (.int .i64 b') ∧ W.cell? ⟨R2, 5, none⟩ = some (.int .i64 c')) := fun W hW => ⟨(hx11.out.below hW).six.1, (hx11.out.below hW).six.2.1, (hx11.out.below hW).six.2.2.1, (hx11.out.below hW).six.2.2.2.1, (hx11.out.below hW).six.2.2.2.2.1, (hx11.out.below hW).six.2.2.2.2.2, (hz11.out.below hW).six.1, (hz11.out.below hW).six.2.1, (hz11.out.below hW).six.2.2.1, (hz11.out.below hW).six.2.2.2.1, (hz11.out.below hW).six.2.2.2.2.1, (hz11.out.below hW).six.2.2.2.2.2⟩
  refine wp_region_held_drew (S := fun w' => w'.cell? ⟨R1, 0, none⟩ = some (.int .i64 y') ∧ w'.cell? ⟨R1, 1, none⟩ = some (.int .i64 m') ∧ w'.cell? ⟨R1, 2, none⟩ = some (.int .i64 d') ∧ w'.cell? ⟨R1, 3, none⟩ = some (.int .i64 a') ∧ w'.cell? ⟨R1, 4, none⟩ = some (.int .i64 b') ∧ w'.cell? ⟨R1, 5, none⟩ = some (.int .i64 c') ∧ w'.cell? ⟨R2, 0, none⟩ = some (.int .i64 y') ∧ w'.cell? ⟨R2, 1, none⟩ = some (.int .i64 m') ∧ w'.cell? ⟨R2, 2, none⟩ = some (.int .i64 d') ∧ w'.cell? ⟨R2, 3, none⟩ = some (.int .i64 a') ∧ w'.cell? ⟨R2, 4, none⟩ = some (.int .i64 b') ∧ w'.cell? ⟨R2, 5, none⟩ = some (.int .i64 c')) (by kernel_rfl) ?hb0 (fun hHeld => ?_)
  case hb0 => (try dsimp only); exact CEL9.out _ (below_drewN (Below.refl v11.heap.size v11) 1)
  refine wpAnyH_take (i := 0) (v := ?qv0) rfl (by kernel_rfl) (by kernel_rfl) (by kernel_rfl) (fun _ _ _ h => h) (Or.inl ⟨by kernel_rfl, ?qy0⟩) (by assumption) ?_
  case qy0 => (intro w hSw; (try dsimp only at hSw); go_simp) <;> (try with_reducible rfl)
  try simp only [Act.put, List.setIfInBounds_toArray, List.set_cons_zero, List.set_cons_succ, List.getElem_toArray, List.getElem_cons_succ, List.getElem_cons_zero]
  refine wpAnyH_take (i := 1) (v := ?qv1) rfl (by kernel_rfl) (by kernel_rfl) (by kernel_rfl) (fun _ _ _ h => h) (Or.inl ⟨by kernel_rfl, ?qy1⟩) (by assumption) ?_
  case qy1 => (intro w hSw; (try dsimp only at hSw); go_simp) <;> (try with_reducible rfl)
  try simp only [Act.put, List.setIfInBounds_toArray, List.set_cons_zero, List.set_cons_succ, List.getElem_toArray, List.getElem_cons_succ, List.getElem_cons_zero]
  refine wpAnyH_take (i := 2) (v := ?qv2) rfl (by kernel_rfl) (by kernel_rfl) (by kernel_rfl) (fun _ _ _ h => h) (Or.inl ⟨by kernel_rfl, ?qy2⟩) (by assumption) ?_
  case qy2 => (intro w hSw; (try dsimp only at hSw); go_simp) <;> (try with_reducible rfl)
  try simp only [Act.put, List.setIfInBounds_toArray, List.set_cons_zero, List.set_cons_succ, List.getElem_toArray, List.getElem_cons_succ, List.getElem_cons_zero]
  refine wpAnyH_take (i := 3) (v := ?qv3) rfl (by kernel_rfl) (by kernel_rfl) (by kernel_rfl) (fun _ _ _ h => h) (Or.inl ⟨by kernel_rfl, ?qy3⟩) (by assumption) ?_
  case qy3 => (intro w hSw; (try dsimp only at hSw); go_simp) <;> (try with_reducible rfl)
  try simp only [Act.put, List.setIfInBounds_toArray, List.set_cons_zero, List.set_cons_succ, List.getElem_toArray, List.getElem_cons_succ, List.getElem_cons_zero]
  refine wpAnyH_take (i := 5) (v := ?qv5) rfl (by kernel_rfl) (by kernel_rfl) (by kernel_rfl) (fun _ _ _ h => h) (Or.inl ⟨by kernel_rfl, ?qy5⟩) (by assumption) ?_
  case qy5 => (intro w hSw; (try dsimp only at hSw); go_simp) <;> (try with_reducible rfl)
  try simp only [Act.put, List.setIfInBounds_toArray, List.set_cons_zero, List.set_cons_succ, List.getElem_toArray, List.getElem_cons_succ, List.getElem_cons_zero]
  refine wpAnyH_ready (rs := [4]) (by kernel_rfl) (by simp) ?_
  refine AllReadyH.cons rfl (fun K hK => ?_) AllReadyH.nil
  go_simp
  refine (hof.out _ _ _ _ _ _ _).mono ?_
  rintro e v12 ⟨rfl, hB12⟩
  have hA12 : Below v11.heap.size v11 v12 := (below_drewN (Below.refl v11.heap.size v11) 1).trans (hB12.mono (below_drewN (Below.refl v11.heap.size v11) 1).size)
  refine hK.out _ _ ?hs4a (fun hHeld => ?_)
  case hs4a => (try dsimp only); exact CEL9.out _ (hA12)
  clear hK K
  try simp only [Act.put, List.setIfInBounds_toArray, List.set_cons_zero, List.set_cons_succ, List.getElem_toArray, List.getElem_cons_succ, List.getElem_cons_zero]
  refine wpAnyH_take (i := 6) (v := ?qv6) rfl (by kernel_rfl) (by kernel_rfl) (by kernel_rfl) (fun _ _ _ h => h) (Or.inl ⟨by kernel_rfl, ?qy6⟩) (by assumption) ?_
  case qy6 => (intro w hSw; (try dsimp only at hSw); go_simp) <;> (try with_reducible rfl)
  try simp only [Act.put, List.setIfInBounds_toArray, List.set_cons_zero, List.set_cons_succ, List.getElem_toArray, List.getElem_cons_succ, List.getElem_cons_zero]
  refine wpAnyH_take (i := 7) (v := ?qv7) rfl (by kernel_rfl) (by kernel_rfl) (by kernel_rfl) (fun _ _ _ h => h) (Or.inl ⟨by kernel_rfl, ?qy7⟩) (by assumption) ?_
  case qy7 => (intro w hSw; (try dsimp only at hSw); go_simp) <;> (try with_reducible rfl)
  try simp only [Act.put, List.setIfInBounds_toArray, List.set_cons_zero, List.set_cons_succ, List.getElem_toArray, List.getElem_cons_succ, List.getElem_cons_zero]
  refine wpAnyH_take (i := 8) (v := ?qv8) rfl (by kernel_rfl) (by kernel_rfl) (by kernel_rfl) (fun _ _ _ h => h) (Or.inl ⟨by kernel_rfl, ?qy8⟩) (by assumption) ?_
  case qy8 => (intro w hSw; (try dsimp only at hSw); go_simp) <;> (try with_reducible rfl)
  try simp only [Act.put, List.setIfInBounds_toArray, List.set_cons_zero, List.set_cons_succ, List.getElem_toArray, List.getElem_cons_succ, List.getElem_cons_zero]
  refine wpAnyH_take (i := 9) (v := ?qv9) rfl (by kernel_rfl) (by kernel_rfl) (by kernel_rfl) (fun _ _ _ h => h) (Or.inl ⟨by kernel_rfl, ?qy9⟩) (by assumption) ?_
  case qy9 => (intro w hSw; (try dsimp only at hSw); go_simp) <;> (try with_reducible rfl)
  try simp only [Act.put, List.setIfInBounds_toArray, List.set_cons_zero, List.set_cons_succ, List.getElem_toArray, List.getElem_cons_succ, List.getElem_cons_zero]
  refine wpAnyH_take (i := 10) (v := ?qv10) rfl (by kernel_rfl) (by kernel_rfl) (by kernel_rfl) (fun _ _ _ h => h) (Or.inl ⟨by kernel_rfl, ?qy10⟩) (by assumption) ?_
  case qy10 => (intro w hSw; (try dsimp only at hSw); go_simp) <;> (try with_reducible rfl)
  try simp only [Act.put, List.setIfInBounds_toArray, List.set_cons_zero, List.set_cons_succ, List.getElem_toArray, List.getElem_cons_succ, List.getElem_cons_zero]
  refine wpAnyH_take (i := 11) (v := ?qv11) rfl (by kernel_rfl) (by kernel_rfl) (by kernel_rfl) (fun _ _ _ h => h) (Or.inl ⟨by kernel_rfl, ?qy11⟩) (by assumption) ?_
  case qy11 => (intro w hSw; (try dsimp only at hSw); go_simp) <;> (try with_reducible rfl)
  try simp only [Act.put, List.setIfInBounds_toArray, List.set_cons_zero, List.set_cons_succ, List.getElem_toArray, List.getElem_cons_succ, List.getElem_cons_zero]
  refine wpAnyH_take (i := 12) (v := ?qv12) rfl (by kernel_rfl) (by kernel_rfl) (by kernel_rfl) (fun _ _ _ h => h) (Or.inl ⟨by kernel_rfl, ?qy12⟩) (by assumption) ?_
  case qy12 => (intro w hSw; (try dsimp only at hSw); go_simp) <;> (try with_reducible rfl)
  try simp only [Act.put, List.setIfInBounds_toArray, List.set_cons_zero, List.set_cons_succ, List.getElem_toArray, List.getElem_cons_succ, List.getElem_cons_zero]
  refine wpAnyH_take (i := 13) (v := ?qv13) rfl (by kernel_rfl) (by kernel_rfl) (by kernel_rfl) (fun _ _ _ h => h) (Or.inl ⟨by kernel_rfl, ?qy13⟩) (by assumption) ?_
  case qy13 => (intro w hSw; (try dsimp only at hSw); go_simp) <;> (try with_reducible rfl)
  try simp only [Act.put, List.setIfInBounds_toArray, List.set_cons_zero, List.set_cons_succ, List.getElem_toArray, List.getElem_cons_succ, List.getElem_cons_zero]
  refine wpAnyH_take (i := 14) (v := ?qv14) rfl (by kernel_rfl) (by kernel_rfl) (by kernel_rfl) (fun _ _ _ h => h) (Or.inl ⟨by kernel_rfl, ?qy14⟩) (by assumption) ?_
  case qy14 => (intro w hSw; (try dsimp only at hSw); go_simp) <;> (try with_reducible rfl)
  try simp only [Act.put, List.setIfInBounds_toArray, List.set_cons_zero, List.set_cons_succ, List.getElem_toArray, List.getElem_cons_succ, List.getElem_cons_zero]
  refine wpAnyH_ready (rs := [15]) (by kernel_rfl) (by simp) ?_
  refine AllReadyH.cons rfl (fun K hK => ?_) AllReadyH.nil
  go_simp
  refine (hTr.out _).mono ?_
  rintro e v13 ⟨rfl, hB13⟩
  have hA13 : Below v11.heap.size v11 v13 := (hA12).trans (hB13.mono (hA12).size)
  refine hK.out _ _ ?hs15a (fun hHeld => ?_)
  case hs15a => (try dsimp only); exact CEL9.out _ (hA13)
  clear hK K
  try simp only [Act.put, List.setIfInBounds_toArray, List.set_cons_zero, List.set_cons_succ, List.getElem_toArray, List.getElem_cons_succ, List.getElem_cons_zero]
  refine wpAnyH_take (i := 16) (v := ?qv16) rfl (by kernel_rfl) (by kernel_rfl) (by kernel_rfl) (fun _ _ _ h => h) (Or.inl ⟨by kernel_rfl, ?qy16⟩) (by assumption) ?_
  case qy16 => (intro w hSw; (try dsimp only at hSw); go_simp) <;> (try with_reducible rfl)
  try simp only [Act.put, List.setIfInBounds_toArray, List.set_cons_zero, List.set_cons_succ, List.getElem_toArray, List.getElem_cons_succ, List.getElem_cons_zero]
  refine wpAnyH_take (i := 17) (v := ?qv17) rfl (by kernel_rfl) (by kernel_rfl) (by kernel_rfl) (fun _ _ _ h => h) (Or.inl ⟨by kernel_rfl, ?qy17⟩) (by assumption) ?_
  case qy17 => (intro w hSw; (try dsimp only at hSw); go_simp) <;> (try with_reducible rfl)
  try simp only [Act.put, List.setIfInBounds_toArray, List.set_cons_zero, List.set_cons_succ, List.getElem_toArray, List.getElem_cons_succ, List.getElem_cons_zero]
  refine wpAnyH_take (i := 18) (v := ?qv18) rfl (by kernel_rfl) (by kernel_rfl) (by kernel_rfl) (fun _ _ _ h => h) (Or.inl ⟨by kernel_rfl, ?qy18⟩) (by assumption) ?_
  case qy18 => (intro w hSw; (try dsimp only at hSw); go_simp) <;> (try with_reducible rfl)
  try simp only [Act.put, List.setIfInBounds_toArray, List.set_cons_zero, List.set_cons_succ, List.getElem_toArray, List.getElem_cons_succ, List.getElem_cons_zero]
  refine wpAnyH_take (i := 19) (v := ?qv19) rfl (by kernel_rfl) (by kernel_rfl) (by kernel_rfl) (fun _ _ _ h => h) (Or.inl ⟨by kernel_rfl, ?qy19⟩) (by assumption) ?_
  case qy19 => (intro w hSw; (try dsimp only at hSw); go_simp) <;> (try with_reducible rfl)
  try simp only [Act.put, List.setIfInBounds_toArray, List.set_cons_zero, List.set_cons_succ, List.getElem_toArray, List.getElem_cons_succ, List.getElem_cons_zero]
  refine wpAnyH_take (i := 20) (v := ?qv20) rfl (by kernel_rfl) (by kernel_rfl) (by kernel_rfl) (fun _ _ _ h => h) (Or.inl ⟨by kernel_rfl, ?qy20⟩) (by assumption) ?_
  case qy20 => (intro w hSw; (try dsimp only at hSw); go_simp) <;> (try with_reducible rfl)
  try simp only [Act.put, List.setIfInBounds_toArray, List.set_cons_zero, List.set_cons_succ, List.getElem_toArray, List.getElem_cons_succ, List.getElem_cons_zero]
  refine wpAnyH_take (i := 21) (v := ?qv21) rfl (by kernel_rfl) (by kernel_rfl) (by kernel_rfl) (fun _ _ _ h => h) (Or.inl ⟨by kernel_rfl, ?qy21⟩) (by assumption) ?_
  case qy21 => (intro w hSw; (try dsimp only at hSw); go_simp) <;> (try with_reducible rfl)
  try simp only [Act.put, List.setIfInBounds_toArray, List.set_cons_zero, List.set_cons_succ, List.getElem_toArray, List.getElem_cons_succ, List.getElem_cons_zero]
  refine wpAnyH_take (i := 22) (v := ?qv22) rfl (by kernel_rfl) (by kernel_rfl) (by kernel_rfl) (fun _ _ _ h => h) (Or.inl ⟨by kernel_rfl, ?qy22⟩) (by assumption) ?_
  case qy22 => (intro w hSw; (try dsimp only at hSw); go_simp) <;> (try with_reducible rfl)
  try simp only [Act.put, List.setIfInBounds_toArray, List.set_cons_zero, List.set_cons_succ, List.getElem_toArray, List.getElem_cons_succ, List.getElem_cons_zero]
  refine wpAnyH_take (i := 23) (v := ?qv23) rfl (by kernel_rfl) (by kernel_rfl) (by kernel_rfl) (fun _ _ _ h => h) (Or.inl ⟨by kernel_rfl, ?qy23⟩) (by assumption) ?_
  case qy23 => (intro w hSw; (try dsimp only at hSw); go_simp) <;> (try with_reducible rfl)
  try simp only [Act.put, List.setIfInBounds_toArray, List.set_cons_zero, List.set_cons_succ, List.getElem_toArray, List.getElem_cons_succ, List.getElem_cons_zero]
  refine wpAnyH_take (i := 24) (v := ?qv24) rfl (by kernel_rfl) (by kernel_rfl) (by kernel_rfl) (fun _ _ _ h => h) (Or.inl ⟨by kernel_rfl, ?qy24⟩) (by assumption) ?_
  case qy24 => (intro w hSw; (try dsimp only at hSw); go_simp) <;> (try with_reducible rfl)
  try simp only [Act.put, List.setIfInBounds_toArray, List.set_cons_zero, List.set_cons_succ, List.getElem_toArray, List.getElem_cons_succ, List.getElem_cons_zero]
  refine wpAnyH_take (i := 25) (v := ?qv25) rfl (by kernel_rfl) (by kernel_rfl) (by kernel_rfl) (fun _ _ _ h => h) (Or.inl ⟨by kernel_rfl, ?qy25⟩) (by assumption) ?_
  case qy25 => (intro w hSw; (try dsimp only at hSw); go_simp) <;> (try with_reducible rfl)
  try simp only [Act.put, List.setIfInBounds_toArray, List.set_cons_zero, List.set_cons_succ, List.getElem_toArray, List.getElem_cons_succ, List.getElem_cons_zero]
  refine wpAnyH_take (i := 26) (v := ?qv26) rfl (by kernel_rfl) (by kernel_rfl) (by kernel_rfl) (fun _ _ _ h => h) (Or.inl ⟨by kernel_rfl, ?qy26⟩) (by assumption) ?_
  case qy26 => (intro w hSw; (try dsimp only at hSw); go_simp) <;> (try with_reducible rfl)
  try simp only [Act.put, List.setIfInBounds_toArray, List.set_cons_zero, List.set_cons_succ, List.getElem_toArray, List.getElem_cons_succ, List.getElem_cons_zero]
  refine wpAnyH_take (i := 27) (v := ?qv27) rfl (by kernel_rfl) (by kernel_rfl) (by kernel_rfl) (fun _ _ _ h => h) (Or.inl ⟨by kernel_rfl, ?qy27⟩) (by assumption) ?_
  case qy27 => (intro w hSw; (try dsimp only at hSw); go_simp) <;> (try with_reducible rfl)
  try simp only [Act.put, List.setIfInBounds_toArray, List.set_cons_zero, List.set_cons_succ, List.getElem_toArray, List.getElem_cons_succ, List.getElem_cons_zero]
  refine wpAnyH_done (by kernel_rfl) ?_ _
  go_wp2
  go_ret
  exact ⟨rfl, HB.out.trans ((HA11.out.trans (hA13.mono HA11.out.size)).mono HB.out.size)⟩

theorem lawSeconds (y m d a b c s : Int) (w : World) (hy : I64 y) (hm : I64 m) (hd : I64 d) (hs : I64 s) :
    Calls Try.prog 5 #[cv y m d a b c, .int .i64 s] w fun e w' => e = .returned (.bool true) ∧ Below w.heap.size w w' := by
  by_cases r1 : RgtC y m d a b c
  · by_cases h : -62167219200 ≤ s ∧ s ≤ 253402300799
    · exact lawSecYY y m d a b c s w hy hm hd r1 h.1 h.2
    · exact lawSecYN y m d a b c s w hy hm hd r1 hs (by omega)
  · by_cases h : -62167219200 ≤ s ∧ s ≤ 253402300799
    · exact lawSecNY y m d a b c s w hy hm hd r1 h.1 h.2
    · exact lawSecNN y m d a b c s w hy hm hd r1 hs (by omega)
end Go.Proofs.Yteljhijnablphaa
