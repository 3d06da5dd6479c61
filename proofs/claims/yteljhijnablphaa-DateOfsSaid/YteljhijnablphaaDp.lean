/-
  The reference: Two, Four, Text.
-/
import Derived.Test.YteljhijnablphaaDq
namespace Go.Proofs.Yteljhijnablphaa
open Go.RowKit
set_option linter.unusedVariables false
set_option linter.unusedSimpArgs false
set_option maxRecDepth 4000

set_option maxHeartbeats 800000 in
theorem rf9Two (z : Int) (w : World) (h0 : 0 ≤ z) (h1 : z < 100) :
    Calls Try.prog 44 #[.int .i64 z] w fun e w' => e = .returned (strV (tw z)) ∧ Below w.heap.size w w' := by
  unfold strV
  have q1 : z.tdiv 10 = z / 10 := Int.tdiv_eq_ediv_of_nonneg h0
  have q2 : z.tmod 10 = z % 10 := Int.tmod_eq_emod_of_nonneg h0
  have q3 : (z / 10).tmod 10 = z / 10 := by rw [Int.tmod_eq_emod_of_nonneg (by omega)]; omega
  have q5 : (48 + z / 10) % 256 = 48 + z / 10 := by omega
  have q6 : (48 + z % 10) % 256 = 48 + z % 10 := by omega
  have hbs := Bs.new2 w (UInt8.ofNat (48 + z / 10).toNat) (UInt8.ofNat (48 + z % 10).toNat) (48 + z / 10) (48 + z % 10) 5 (by rw [UInt8.toNat_ofNat']; omega) (by rw [UInt8.toNat_ofNat']; omega)
  have hcv := hbs.convert (P := Try.prog) 2 72 9 5 Try.underlying72 Try.underlying5 Try.underlying9
  clear hbs
  go_enter Try.func44, Try.ntmps44
  go_wp2
  go_ret
  exact ⟨rfl, below_alloc1 _ _⟩

set_option maxHeartbeats 800000 in
theorem rf9Four (z : Int) (w : World) (h0 : 0 ≤ z) (h1 : z < 10000) :
    Calls Try.prog 43 #[.int .i64 z] w fun e w' => e = .returned (strV (tw (z / 100) ++ tw (z % 100))) ∧ Below w.heap.size w w' := by
  unfold strV
  have HTw := Lib.hid (fun x W h0 h1 => rf9Two x W h0 h1)
  unfold strV at HTw
  have q1 : z.tdiv 100 = z / 100 := Int.tdiv_eq_ediv_of_nonneg h0
  have q2 : z.tmod 100 = z % 100 := Int.tmod_eq_emod_of_nonneg h0
  have l1 : (tw (z / 100)).length ≤ 2 := by simp [tw]
  have l2 : (tw (z % 100)).length ≤ 2 := by simp [tw]
  have y1 : ¬ 9223372036854775807 < (tw (z / 100)).length + (tw (z % 100)).length := by omega
  have FIN : Hid ((⟨(tw (z / 100)).toArray⟩ : ByteArray) ++ ⟨(tw (z % 100)).toArray⟩ = ⟨(tw (z / 100) ++ tw (z % 100)).toArray⟩) := by
    unfold Hid; apply ByteArray.ext; simp
  generalize hX : tw (z / 100) = X at *
  generalize hY : tw (z % 100) = Y at *
  have HX := Lib.hid hX
  have HY := Lib.hid hY
  clear hX hY
  go_enter Try.func43, Try.ntmps43
  go_wp2_with fail
  refine (HTw.out _ _ (by omega) (by omega)).mono ?_
  rintro e w1 ⟨rfl, hB1⟩
  rw [HX.out]
  have HB1 := Lib.hid hB1
  clear hB1
  go_wp2_with fail
  refine (HTw.out _ _ (by omega) (by omega)).mono ?_
  rintro e w2 ⟨rfl, hB2⟩
  rw [HY.out]
  have HB2 := Lib.hid (HB1.out.trans (hB2.mono HB1.out.size))
  clear hB2
  go_wp2
  go_ret
  exact ⟨by rw [← FIN.out]; rfl, HB2.out⟩

set_option maxHeartbeats 3200000 in
theorem rf9Text (y m d a b c : Int) (w : World) (hR : RgtC y m d a b c) :
    Calls Try.prog 32 #[cv y m d a b c] w fun e w' => e = .returned (strV (txtB y m d a b c)) ∧ Below w.heap.size w w' := by
  unfold cv strV
  have HTw0 := fun x W h0 h1 => rf9Two x W h0 h1
  have HFo0 := fun x W h0 h1 => rf9Four x W h0 h1
  unfold strV at HTw0 HFo0
  have h1 := hR.1
  have h2 := hR.2
  have hm := h1.month
  have hd := (dys_le y m).2
  obtain ⟨g1, g2, g3, g4⟩ := h1
  have FIN : Hid ((⟨(tw (y / 100) ++ tw (y % 100)).toArray⟩ : ByteArray) ++ ⟨#[45]⟩ ++ ⟨(tw m).toArray⟩ ++ ⟨#[45]⟩ ++ ⟨(tw d).toArray⟩ ++ ⟨#[84]⟩ ++ ⟨(tw a).toArray⟩ ++ ⟨#[58]⟩ ++ ⟨(tw b).toArray⟩ ++ ⟨#[58]⟩ ++ ⟨(tw c).toArray⟩ ++ ⟨#[90]⟩ = ⟨(txtB y m d a b c).toArray⟩) := by
    unfold Hid; apply ByteArray.ext; simp [txtB]
  have lY : (tw (y / 100) ++ tw (y % 100)).length = 4 := rfl
  have lT : ∀ z, (tw z).length = 2 := fun _ => rfl
  have lm := lT m; have ld := lT d; have la := lT a; have lb := lT b; have lc := lT c
  have ky := fun W => HFo0 y W (by omega) (by omega)
  have km := fun W => HTw0 m W (by omega) (by omega)
  have kd := fun W => HTw0 d W (by omega) (by omega)
  have ka := fun W => HTw0 a W (by omega) (by omega)
  have kb := fun W => HTw0 b W (by omega) (by omega)
  have kc := fun W => HTw0 c W (by omega) (by omega)
  clear hR lT HTw0 HFo0
  generalize tw (y / 100) ++ tw (y % 100) = YY at *
  generalize tw m = TM at *
  generalize tw d = TD at *
  generalize tw a = TA at *
  generalize tw b = TB at *
  generalize tw c = TC at *
  have z0 : ¬ 9223372036854775807 < YY.length + 1 := by omega
  have z1 : ¬ 9223372036854775807 < YY.length + 1 + TM.length := by omega
  have z2 : ¬ 9223372036854775807 < YY.length + 1 + TM.length + 1 := by omega
  have z3 : ¬ 9223372036854775807 < YY.length + 1 + TM.length + 1 + TD.length := by omega
  have z4 : ¬ 9223372036854775807 < YY.length + 1 + TM.length + 1 + TD.length + 1 := by omega
  have z5 : ¬ 9223372036854775807 < YY.length + 1 + TM.length + 1 + TD.length + 1 + TA.length := by omega
  have z6 : ¬ 9223372036854775807 < YY.length + 1 + TM.length + 1 + TD.length + 1 + TA.length + 1 := by omega
  have z7 : ¬ 9223372036854775807 < YY.length + 1 + TM.length + 1 + TD.length + 1 + TA.length + 1 + TB.length := by omega
  have z8 : ¬ 9223372036854775807 < YY.length + 1 + TM.length + 1 + TD.length + 1 + TA.length + 1 + TB.length + 1 := by omega
  have z9 : ¬ 9223372036854775807 < YY.length + 1 + TM.length + 1 + TD.length + 1 + TA.length + 1 + TB.length + 1 + TC.length := by omega
  have z10 : ¬ 9223372036854775807 < YY.length + 1 + TM.length + 1 + TD.length + 1 + TA.length + 1 + TB.length + 1 + TC.length + 1 := by omega
  have KY := Lib.hid ky
  have KM := Lib.hid km
  have KD := Lib.hid kd
  have KA := Lib.hid ka
  have KB := Lib.hid kb
  have KC := Lib.hid kc
  clear ky km kd ka kb kc h2 hm hd g1 g2 g3 g4
  have CEL : Hid (∀ W : World, Below (w.alloc (.cells #[.int .i64 y, .int .i64 m, .int .i64 d, .int .i64 a, .int .i64 b, .int .i64 c] 42)).heap.size (w.alloc (.cells #[.int .i64 y, .int .i64 m, .int .i64 d, .int .i64 a, .int .i64 b, .int .i64 c] 42)) W → W.cell? ⟨w.heap.size, 0, none⟩ = some (.int .i64 y) ∧ W.cell? ⟨w.heap.size, 1, none⟩ = some (.int .i64 m) ∧ W.cell? ⟨w.heap.size, 2, none⟩ = some (.int .i64 d) ∧ W.cell? ⟨w.heap.size, 3, none⟩ = some (.int .i64 a) ∧ W.cell? ⟨w.heap.size, 4, none⟩ = some (.int .i64 b) ∧ W.cell? ⟨w.heap.size, 5, none⟩ = some (.int .i64 c)) := by
    intro W hW
    exact ((Blk.six_new w (.int .i64 y) (.int .i64 m) (.int .i64 d) (.int .i64 a) (.int .i64 b) (.int .i64 c) 42).below hW).six
  have hBx := Lib.hid (below_alloc1 w (.cells #[.int .i64 y, .int .i64 m, .int .i64 d, .int .i64 a, .int .i64 b, .int .i64 c] 42))
  go_enter Try.func32, Try.ntmps32
  go_upto_region 1 with fail
  refine wp_region_held_drew (S := fun w' => w'.cell? ⟨w.heap.size, 0, none⟩ = some (.int .i64 y) ∧ w'.cell? ⟨w.heap.size, 1, none⟩ = some (.int .i64 m) ∧ w'.cell? ⟨w.heap.size, 2, none⟩ = some (.int .i64 d) ∧ w'.cell? ⟨w.heap.size, 3, none⟩ = some (.int .i64 a) ∧ w'.cell? ⟨w.heap.size, 4, none⟩ = some (.int .i64 b) ∧ w'.cell? ⟨w.heap.size, 5, none⟩ = some (.int .i64 c)) (by kernel_rfl) ?hb0 (fun hHeld => ?_)
  case hb0 => (try dsimp only); exact CEL.out _ (below_drewN (Below.refl _ _) 1)
  refine wpAnyH_take (i := 0) (v := ?qv0) rfl (by kernel_rfl) (by kernel_rfl) (by kernel_rfl) (fun _ _ _ h => h) (Or.inl ⟨by kernel_rfl, ?qy0⟩) (by assumption) ?_
  case qy0 => (intro w hSw; (try dsimp only at hSw); go_simp) <;> (try with_reducible rfl)
  try simp only [Act.put, List.setIfInBounds_toArray, List.set_cons_zero, List.set_cons_succ, List.getElem_toArray, List.getElem_cons_succ, List.getElem_cons_zero]
  refine wpAnyH_take (i := 1) (v := ?qv1) rfl (by kernel_rfl) (by kernel_rfl) (by kernel_rfl) (fun _ _ _ h => h) (Or.inl ⟨by kernel_rfl, ?qy1⟩) (by assumption) ?_
  case qy1 => (intro w hSw; (try dsimp only at hSw); go_simp) <;> (try with_reducible rfl)
  try simp only [Act.put, List.setIfInBounds_toArray, List.set_cons_zero, List.set_cons_succ, List.getElem_toArray, List.getElem_cons_succ, List.getElem_cons_zero]
  refine wpAnyH_take (i := 2) (v := ?qv2) rfl (by kernel_rfl) (by kernel_rfl) (by kernel_rfl) (fun _ _ _ h => h) (Or.inl ⟨by kernel_rfl, ?qy2⟩) (by assumption) ?_
  case qy2 => (intro w hSw; (try dsimp only at hSw); go_simp) <;> (try with_reducible rfl)
  try simp only [Act.put, List.setIfInBounds_toArray, List.set_cons_zero, List.set_cons_succ, List.getElem_toArray, List.getElem_cons_succ, List.getElem_cons_zero]
  refine wpAnyH_take (i := 5) (v := ?qv5) rfl (by kernel_rfl) (by kernel_rfl) (by kernel_rfl) (fun _ _ _ h => h) (Or.inl ⟨by kernel_rfl, ?qy5⟩) (by assumption) ?_
  case qy5 => (intro w hSw; (try dsimp only at hSw); go_simp) <;> (try with_reducible rfl)
  try simp only [Act.put, List.setIfInBounds_toArray, List.set_cons_zero, List.set_cons_succ, List.getElem_toArray, List.getElem_cons_succ, List.getElem_cons_zero]
  refine wpAnyH_take (i := 6) (v := ?qv6) rfl (by kernel_rfl) (by kernel_rfl) (by kernel_rfl) (fun _ _ _ h => h) (Or.inl ⟨by kernel_rfl, ?qy6⟩) (by assumption) ?_
  case qy6 => (intro w hSw; (try dsimp only at hSw); go_simp) <;> (try with_reducible rfl)
  try simp only [Act.put, List.setIfInBounds_toArray, List.set_cons_zero, List.set_cons_succ, List.getElem_toArray, List.getElem_cons_succ, List.getElem_cons_zero]
  refine wpAnyH_take (i := 7) (v := ?qv7) rfl (by kernel_rfl) (by kernel_rfl) (by kernel_rfl) (fun _ _ _ h => h) (Or.inl ⟨by kernel_rfl, ?qy7⟩) (by assumption) ?_
  case qy7 => (intro w hSw; (try dsimp only at hSw); go_simp) <;> (try with_reducible rfl)
  try simp only [Act.put, List.setIfInBounds_toArray, List.set_cons_zero, List.set_cons_succ, List.getElem_toArray, List.getElem_cons_succ, List.getElem_cons_zero]
  refine wpAnyH_take (i := 11) (v := ?qv11) rfl (by kernel_rfl) (by kernel_rfl) (by kernel_rfl) (fun _ _ _ h => h) (Or.inl ⟨by kernel_rfl, ?qy11⟩) (by assumption) ?_
  case qy11 => (intro w hSw; (try dsimp only at hSw); go_simp) <;> (try with_reducible rfl)
  try simp only [Act.put, List.setIfInBounds_toArray, List.set_cons_zero, List.set_cons_succ, List.getElem_toArray, List.getElem_cons_succ, List.getElem_cons_zero]
  refine wpAnyH_take (i := 12) (v := ?qv12) rfl (by kernel_rfl) (by kernel_rfl) (by kernel_rfl) (fun _ _ _ h => h) (Or.inl ⟨by kernel_rfl, ?qy12⟩) (by assumption) ?_
  case qy12 => (intro w hSw; (try dsimp only at hSw); go_simp) <;> (try with_reducible rfl)
  try simp only [Act.put, List.setIfInBounds_toArray, List.set_cons_zero, List.set_cons_succ, List.getElem_toArray, List.getElem_cons_succ, List.getElem_cons_zero]
  refine wpAnyH_take (i := 13) (v := ?qv13) rfl (by kernel_rfl) (by kernel_rfl) (by kernel_rfl) (fun _ _ _ h => h) (Or.inl ⟨by kernel_rfl, ?qy13⟩) (by assumption) ?_
  case qy13 => (intro w hSw; (try dsimp only at hSw); go_simp) <;> (try with_reducible rfl)
  try simp only [Act.put, List.setIfInBounds_toArray, List.set_cons_zero, List.set_cons_succ, List.getElem_toArray, List.getElem_cons_succ, List.getElem_cons_zero]
  refine wpAnyH_take (i := 17) (v := ?qv17) rfl (by kernel_rfl) (by kernel_rfl) (by kernel_rfl) (fun _ _ _ h => h) (Or.inl ⟨by kernel_rfl, ?qy17⟩) (by assumption) ?_
  case qy17 => (intro w hSw; (try dsimp only at hSw); go_simp) <;> (try with_reducible rfl)
  try simp only [Act.put, List.setIfInBounds_toArray, List.set_cons_zero, List.set_cons_succ, List.getElem_toArray, List.getElem_cons_succ, List.getElem_cons_zero]
  refine wpAnyH_take (i := 18) (v := ?qv18) rfl (by kernel_rfl) (by kernel_rfl) (by kernel_rfl) (fun _ _ _ h => h) (Or.inl ⟨by kernel_rfl, ?qy18⟩) (by assumption) ?_
  case qy18 => (intro w hSw; (try dsimp only at hSw); go_simp) <;> (try with_reducible rfl)
  try simp only [Act.put, List.setIfInBounds_toArray, List.set_cons_zero, List.set_cons_succ, List.getElem_toArray, List.getElem_cons_succ, List.getElem_cons_zero]
  refine wpAnyH_take (i := 22) (v := ?qv22) rfl (by kernel_rfl) (by kernel_rfl) (by kernel_rfl) (fun _ _ _ h => h) (Or.inl ⟨by kernel_rfl, ?qy22⟩) (by assumption) ?_
  case qy22 => (intro w hSw; (try dsimp only at hSw); go_simp) <;> (try with_reducible rfl)
  try simp only [Act.put, List.setIfInBounds_toArray, List.set_cons_zero, List.set_cons_succ, List.getElem_toArray, List.getElem_cons_succ, List.getElem_cons_zero]
  refine wpAnyH_take (i := 23) (v := ?qv23) rfl (by kernel_rfl) (by kernel_rfl) (by kernel_rfl) (fun _ _ _ h => h) (Or.inl ⟨by kernel_rfl, ?qy23⟩) (by assumption) ?_
  case qy23 => (intro w hSw; (try dsimp only at hSw); go_simp) <;> (try with_reducible rfl)
  try simp only [Act.put, List.setIfInBounds_toArray, List.set_cons_zero, List.set_cons_succ, List.getElem_toArray, List.getElem_cons_succ, List.getElem_cons_zero]
  refine wpAnyH_take (i := 27) (v := ?qv27) rfl (by kernel_rfl) (by kernel_rfl) (by kernel_rfl) (fun _ _ _ h => h) (Or.inl ⟨by kernel_rfl, ?qy27⟩) (by assumption) ?_
  case qy27 => (intro w hSw; (try dsimp only at hSw); go_simp) <;> (try with_reducible rfl)
  try simp only [Act.put, List.setIfInBounds_toArray, List.set_cons_zero, List.set_cons_succ, List.getElem_toArray, List.getElem_cons_succ, List.getElem_cons_zero]
  refine wpAnyH_take (i := 28) (v := ?qv28) rfl (by kernel_rfl) (by kernel_rfl) (by kernel_rfl) (fun _ _ _ h => h) (Or.inl ⟨by kernel_rfl, ?qy28⟩) (by assumption) ?_
  case qy28 => (intro w hSw; (try dsimp only at hSw); go_simp) <;> (try with_reducible rfl)
  try simp only [Act.put, List.setIfInBounds_toArray, List.set_cons_zero, List.set_cons_succ, List.getElem_toArray, List.getElem_cons_succ, List.getElem_cons_zero]
  refine wpAnyH_ready (rs := [3]) (by kernel_rfl) (by simp) ?_
  refine AllReadyH.cons rfl (fun K hK => ?_) AllReadyH.nil
  go_simp
  refine (KY.out _).mono ?_
  rintro e v1 ⟨rfl, hB1⟩
  have hA1 : Below (w.alloc (.cells #[.int .i64 y, .int .i64 m, .int .i64 d, .int .i64 a, .int .i64 b, .int .i64 c] 42)).heap.size (w.alloc (.cells #[.int .i64 y, .int .i64 m, .int .i64 d, .int .i64 a, .int .i64 b, .int .i64 c] 42)) v1 := (below_drewN (Below.refl _ _) 1).trans (hB1.mono (by simp))
  refine hK.out _ _ ?hs3a (fun hHeld => ?_)
  case hs3a => (try dsimp only); exact CEL.out _ (hA1)
  clear hK K
  try simp only [Act.put, List.setIfInBounds_toArray, List.set_cons_zero, List.set_cons_succ, List.getElem_toArray, List.getElem_cons_succ, List.getElem_cons_zero]
  refine wpAnyH_take (i := 4) (v := ?qv4) rfl (by kernel_rfl) (by kernel_rfl) (by kernel_rfl) (fun _ _ _ h => h) (Or.inl ⟨by kernel_rfl, ?qy4⟩) (by assumption) ?_
  case qy4 => (intro w hSw; (try dsimp only at hSw); go_simp) <;> (try with_reducible rfl)
  try simp only [Act.put, List.setIfInBounds_toArray, List.set_cons_zero, List.set_cons_succ, List.getElem_toArray, List.getElem_cons_succ, List.getElem_cons_zero]
  refine wpAnyH_ready (rs := [8]) (by kernel_rfl) (by simp) ?_
  refine AllReadyH.cons rfl (fun K hK => ?_) AllReadyH.nil
  go_simp
  refine (KM.out _).mono ?_
  rintro e v2 ⟨rfl, hB2⟩
  have hA2 : Below (w.alloc (.cells #[.int .i64 y, .int .i64 m, .int .i64 d, .int .i64 a, .int .i64 b, .int .i64 c] 42)).heap.size (w.alloc (.cells #[.int .i64 y, .int .i64 m, .int .i64 d, .int .i64 a, .int .i64 b, .int .i64 c] 42)) v2 := (hA1).trans (hB2.mono (hA1.size))
  refine hK.out _ _ ?hs8a (fun hHeld => ?_)
  case hs8a => (try dsimp only); exact CEL.out _ (hA2)
  clear hK K
  try simp only [Act.put, List.setIfInBounds_toArray, List.set_cons_zero, List.set_cons_succ, List.getElem_toArray, List.getElem_cons_succ, List.getElem_cons_zero]
  refine wpAnyH_take (i := 9) (v := ?qv9) rfl (by kernel_rfl) (by kernel_rfl) (by kernel_rfl) (fun _ _ _ h => h) (Or.inl ⟨by kernel_rfl, ?qy9⟩) (by assumption) ?_
  case qy9 => (intro w hSw; (try dsimp only at hSw); go_simp) <;> (try with_reducible rfl)
  try simp only [Act.put, List.setIfInBounds_toArray, List.set_cons_zero, List.set_cons_succ, List.getElem_toArray, List.getElem_cons_succ, List.getElem_cons_zero]
  refine wpAnyH_take (i := 10) (v := ?qv10) rfl (by kernel_rfl) (by kernel_rfl) (by kernel_rfl) (fun _ _ _ h => h) (Or.inl ⟨by kernel_rfl, ?qy10⟩) (by assumption) ?_
  case qy10 => (intro w hSw; (try dsimp only at hSw); go_simp) <;> (try with_reducible rfl)
  try simp only [Act.put, List.setIfInBounds_toArray, List.set_cons_zero, List.set_cons_succ, List.getElem_toArray, List.getElem_cons_succ, List.getElem_cons_zero]
  refine wpAnyH_ready (rs := [14]) (by kernel_rfl) (by simp) ?_
  refine AllReadyH.cons rfl (fun K hK => ?_) AllReadyH.nil
  go_simp
  refine (KD.out _).mono ?_
  rintro e v3 ⟨rfl, hB3⟩
  have hA3 : Below (w.alloc (.cells #[.int .i64 y, .int .i64 m, .int .i64 d, .int .i64 a, .int .i64 b, .int .i64 c] 42)).heap.size (w.alloc (.cells #[.int .i64 y, .int .i64 m, .int .i64 d, .int .i64 a, .int .i64 b, .int .i64 c] 42)) v3 := (hA2).trans (hB3.mono (hA2.size))
  refine hK.out _ _ ?hs14a (fun hHeld => ?_)
  case hs14a => (try dsimp only); exact CEL.out _ (hA3)
  clear hK K
  try simp only [Act.put, List.setIfInBounds_toArray, List.set_cons_zero, List.set_cons_succ, List.getElem_toArray, List.getElem_cons_succ, List.getElem_cons_zero]
  refine wpAnyH_take (i := 15) (v := ?qv15) rfl (by kernel_rfl) (by kernel_rfl) (by kernel_rfl) (fun _ _ _ h => h) (Or.inl ⟨by kernel_rfl, ?qy15⟩) (by assumption) ?_
  case qy15 => (intro w hSw; (try dsimp only at hSw); go_simp) <;> (try with_reducible rfl)
  try simp only [Act.put, List.setIfInBounds_toArray, List.set_cons_zero, List.set_cons_succ, List.getElem_toArray, List.getElem_cons_succ, List.getElem_cons_zero]
  refine wpAnyH_take (i := 16) (v := ?qv16) rfl (by kernel_rfl) (by kernel_rfl) (by kernel_rfl) (fun _ _ _ h => h) (Or.inl ⟨by kernel_rfl, ?qy16⟩) (by assumption) ?_
  case qy16 => (intro w hSw; (try dsimp only at hSw); go_simp) <;> (try with_reducible rfl)
  try simp only [Act.put, List.setIfInBounds_toArray, List.set_cons_zero, List.set_cons_succ, List.getElem_toArray, List.getElem_cons_succ, List.getElem_cons_zero]
  refine wpAnyH_ready (rs := [19]) (by kernel_rfl) (by simp) ?_
  refine AllReadyH.cons rfl (fun K hK => ?_) AllReadyH.nil
  go_simp
  refine (KA.out _).mono ?_
  rintro e v4 ⟨rfl, hB4⟩
  have hA4 : Below (w.alloc (.cells #[.int .i64 y, .int .i64 m, .int .i64 d, .int .i64 a, .int .i64 b, .int .i64 c] 42)).heap.size (w.alloc (.cells #[.int .i64 y, .int .i64 m, .int .i64 d, .int .i64 a, .int .i64 b, .int .i64 c] 42)) v4 := (hA3).trans (hB4.mono (hA3.size))
  refine hK.out _ _ ?hs19a (fun hHeld => ?_)
  case hs19a => (try dsimp only); exact CEL.out _ (hA4)
  clear hK K
  try simp only [Act.put, List.setIfInBounds_toArray, List.set_cons_zero, List.set_cons_succ, List.getElem_toArray, List.getElem_cons_succ, List.getElem_cons_zero]
  refine wpAnyH_take (i := 20) (v := ?qv20) rfl (by kernel_rfl) (by kernel_rfl) (by kernel_rfl) (fun _ _ _ h => h) (Or.inl ⟨by kernel_rfl, ?qy20⟩) (by assumption) ?_
  case qy20 => (intro w hSw; (try dsimp only at hSw); go_simp) <;> (try with_reducible rfl)
  try simp only [Act.put, List.setIfInBounds_toArray, List.set_cons_zero, List.set_cons_succ, List.getElem_toArray, List.getElem_cons_succ, List.getElem_cons_zero]
  refine wpAnyH_take (i := 21) (v := ?qv21) rfl (by kernel_rfl) (by kernel_rfl) (by kernel_rfl) (fun _ _ _ h => h) (Or.inl ⟨by kernel_rfl, ?qy21⟩) (by assumption) ?_
  case qy21 => (intro w hSw; (try dsimp only at hSw); go_simp) <;> (try with_reducible rfl)
  try simp only [Act.put, List.setIfInBounds_toArray, List.set_cons_zero, List.set_cons_succ, List.getElem_toArray, List.getElem_cons_succ, List.getElem_cons_zero]
  refine wpAnyH_ready (rs := [24]) (by kernel_rfl) (by simp) ?_
  refine AllReadyH.cons rfl (fun K hK => ?_) AllReadyH.nil
  go_simp
  refine (KB.out _).mono ?_
  rintro e v5 ⟨rfl, hB5⟩
  have hA5 : Below (w.alloc (.cells #[.int .i64 y, .int .i64 m, .int .i64 d, .int .i64 a, .int .i64 b, .int .i64 c] 42)).heap.size (w.alloc (.cells #[.int .i64 y, .int .i64 m, .int .i64 d, .int .i64 a, .int .i64 b, .int .i64 c] 42)) v5 := (hA4).trans (hB5.mono (hA4.size))
  refine hK.out _ _ ?hs24a (fun hHeld => ?_)
  case hs24a => (try dsimp only); exact CEL.out _ (hA5)
  clear hK K
  try simp only [Act.put, List.setIfInBounds_toArray, List.set_cons_zero, List.set_cons_succ, List.getElem_toArray, List.getElem_cons_succ, List.getElem_cons_zero]
  refine wpAnyH_take (i := 25) (v := ?qv25) rfl (by kernel_rfl) (by kernel_rfl) (by kernel_rfl) (fun _ _ _ h => h) (Or.inl ⟨by kernel_rfl, ?qy25⟩) (by assumption) ?_
  case qy25 => (intro w hSw; (try dsimp only at hSw); go_simp) <;> (try with_reducible rfl)
  try simp only [Act.put, List.setIfInBounds_toArray, List.set_cons_zero, List.set_cons_succ, List.getElem_toArray, List.getElem_cons_succ, List.getElem_cons_zero]
  refine wpAnyH_take (i := 26) (v := ?qv26) rfl (by kernel_rfl) (by kernel_rfl) (by kernel_rfl) (fun _ _ _ h => h) (Or.inl ⟨by kernel_rfl, ?qy26⟩) (by assumption) ?_
  case qy26 => (intro w hSw; (try dsimp only at hSw); go_simp) <;> (try with_reducible rfl)
  try simp only [Act.put, List.setIfInBounds_toArray, List.set_cons_zero, List.set_cons_succ, List.getElem_toArray, List.getElem_cons_succ, List.getElem_cons_zero]
  refine wpAnyH_ready (rs := [29]) (by kernel_rfl) (by simp) ?_
  refine AllReadyH.cons rfl (fun K hK => ?_) AllReadyH.nil
  go_simp
  refine (KC.out _).mono ?_
  rintro e v6 ⟨rfl, hB6⟩
  have hA6 : Below (w.alloc (.cells #[.int .i64 y, .int .i64 m, .int .i64 d, .int .i64 a, .int .i64 b, .int .i64 c] 42)).heap.size (w.alloc (.cells #[.int .i64 y, .int .i64 m, .int .i64 d, .int .i64 a, .int .i64 b, .int .i64 c] 42)) v6 := (hA5).trans (hB6.mono (hA5.size))
  refine hK.out _ _ ?hs29a (fun hHeld => ?_)
  case hs29a => (try dsimp only); exact CEL.out _ (hA6)
  clear hK K
  try simp only [Act.put, List.setIfInBounds_toArray, List.set_cons_zero, List.set_cons_succ, List.getElem_toArray, List.getElem_cons_succ, List.getElem_cons_zero]
  refine wpAnyH_take (i := 30) (v := ?qv30) rfl (by kernel_rfl) (by kernel_rfl) (by kernel_rfl) (fun _ _ _ h => h) (Or.inl ⟨by kernel_rfl, ?qy30⟩) (by assumption) ?_
  case qy30 => (intro w hSw; (try dsimp only at hSw); go_simp) <;> (try with_reducible rfl)
  try simp only [Act.put, List.setIfInBounds_toArray, List.set_cons_zero, List.set_cons_succ, List.getElem_toArray, List.getElem_cons_succ, List.getElem_cons_zero]
  refine wpAnyH_take (i := 31) (v := ?qv31) rfl (by kernel_rfl) (by kernel_rfl) (by kernel_rfl) (fun _ _ _ h => h) (Or.inl ⟨by kernel_rfl, ?qy31⟩) (by assumption) ?_
  case qy31 => (intro w hSw; (try dsimp only at hSw); go_simp) <;> (try with_reducible rfl)
  try simp only [Act.put, List.setIfInBounds_toArray, List.set_cons_zero, List.set_cons_succ, List.getElem_toArray, List.getElem_cons_succ, List.getElem_cons_zero]
  refine wpAnyH_take (i := 32) (v := ?qv32) rfl (by kernel_rfl) (by kernel_rfl) (by kernel_rfl) (fun _ _ _ h => h) (Or.inl ⟨by kernel_rfl, ?qy32⟩) (by assumption) ?_
  case qy32 => (intro w hSw; (try dsimp only at hSw); go_simp) <;> (try with_reducible rfl)
  try simp only [Act.put, List.setIfInBounds_toArray, List.set_cons_zero, List.set_cons_succ, List.getElem_toArray, List.getElem_cons_succ, List.getElem_cons_zero]
  refine wpAnyH_done (by kernel_rfl) ?_ _
  go_wp2
  go_ret
  exact ⟨by rw [← FIN.out]; rfl, hBx.out.trans (hA6.mono (by simp))⟩
end Go.Proofs.Yteljhijnablphaa
