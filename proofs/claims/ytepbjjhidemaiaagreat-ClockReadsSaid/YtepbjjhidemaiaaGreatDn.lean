/-
  The reference: Of.
-/
import Derived.Test.YtepbjjhidemaiaaGreatDl
namespace Go.Proofs.YtepbjjhidemaiaaGreat
open Go.RowKit
set_option linter.unusedVariables false
set_option linter.unusedSimpArgs false
set_option maxRecDepth 4000

set_option maxHeartbeats 800000 in
theorem rf9OfNo (n : Int) (w : World) (hn : I64 n) (h : n < -719528 ∨ 2932896 < n) :
    Calls Tryz.prog 58 #[.int .i64 n] w fun e w' => e = .returned (.tuple #[dv 0 0 0, .bool false]) ∧ Below w.heap.size w w' := by
  unfold dv
  have hb := Blk.three_new w (.int .i64 0) (.int .i64 0) (.int .i64 0) 74
  obtain ⟨c0, c1, c2⟩ := hb.three
  have f0 := hb.free 0
  have f1 := hb.free 1
  have f2 := hb.free 2
  clear hb
  rcases h with h | h
  · have d1 : decide (n < -719528) = true := by simpa using h
    go_enter Tryz.func58, Tryz.ntmps58
    go_wp2
    refine bodyPost_ret (v := .tuple #[.agg #[.int .i64 0, .int .i64 0, .int .i64 0], .bool false]) (by simp [results, Tryz.results58, go_sem]) rfl ?_
    exact ⟨rfl, below_alloc1 _ _⟩
  · have d1 : ¬ n < -719528 := by omega
    go_enter Tryz.func58, Tryz.ntmps58
    go_wp2
    refine bodyPost_ret (v := .tuple #[.agg #[.int .i64 0, .int .i64 0, .int .i64 0], .bool false]) (by simp [results, Tryz.results58, go_sem]) rfl ?_
    exact ⟨rfl, below_alloc1 _ _⟩

set_option maxHeartbeats 3200000 in
theorem rf9OfYes (y m d : Int) (w : World) (hR : Rgt y m d) :
    Calls Tryz.prog 58 #[.int .i64 (num y m d)] w fun e w' => e = .returned (.tuple #[dv y m d, .bool true]) ∧ Below w.heap.size w w' := by
  unfold dv
  have hr := num_range hR
  have hm := hR.month
  obtain ⟨L, hL⟩ : ∃ L, L = num y m d + 719528 := ⟨_, rfl⟩
  have hmg := mon_ge (y := y) (a := m) (by omega) (by omega)
  have hms := mon_succ (y := y) (m := m) (by omega) (by omega)
  have hmg2 := mon_ge (y := y) (a := m + 1) (by omega) (by omega)
  obtain ⟨g1, g2, g3, g4⟩ := id hR
  have hyb : ahd y ≤ L ∧ L < ahd (y + 1) := by
    rw [ahd_succ]; unfold num at hL; omega
  have hyr := Lib.hid (fun (k : Int) W (k0 : 0 ≤ k) (k1 : k ≤ 9999) => rf9year k W (by unfold I64; omega))
  have hds := Lib.hid (fun k W => rf9Days y k W (by unfold I64; omega))
  have hLL : 0 ≤ L ∧ L ≤ 3652424 := by omega
  have hNL : num y m d + 719528 = L := hL.symm
  generalize hN : num y m d = N at *
  have q1 : L.tdiv 146097 = L / 146097 := Int.tdiv_eq_ediv_of_nonneg hLL.1
  have q2 : L.tmod 146097 = L % 146097 := Int.tmod_eq_emod_of_nonneg hLL.1
  have hD0 := (Blk.three_new w (.int .i64 0) (.int .i64 0) (.int .i64 0) 74)
  have HN := Lib.hid hN
  have HY := Lib.hid hyb
  have HM := Lib.hid hmg
  have HM2 := Lib.hid hmg2
  have HMS := Lib.hid hms
  clear hN hyb hL hR hmg hmg2 hms
  have hDD : Hid (Blk ((w.alloc (.cells #[.int .i64 0, .int .i64 0, .int .i64 0] 74)).alloc (.cells #[.int .i64 (L / 146097 * 400), .int .i64 1, .int .i64 0] 74)) w.heap.size 74 [.int .i64 0, .int .i64 0, .int .i64 0]) := hD0.alloc _
  have hEE : Hid (Blk ((w.alloc (.cells #[.int .i64 0, .int .i64 0, .int .i64 0] 74)).alloc (.cells #[.int .i64 (L / 146097 * 400), .int .i64 1, .int .i64 0] 74)) (w.heap.size + 1) 74 [.int .i64 (L / 146097 * 400), .int .i64 1, .int .i64 0]) := by
    have h9 := Blk.three_new (w.alloc (.cells #[.int .i64 0, .int .i64 0, .int .i64 0] 74)) (.int .i64 (L / 146097 * 400)) (.int .i64 1) (.int .i64 0) 74
    rw [World.size_alloc] at h9
    exact h9
  have hBB : Hid (Below w.heap.size w ((w.alloc (.cells #[.int .i64 0, .int .i64 0, .int .i64 0] 74)).alloc (.cells #[.int .i64 (L / 146097 * 400), .int .i64 1, .int .i64 0] 74))) := below_alloc2 _ _ _
  clear hD0
  go_enter Tryz.func58, Tryz.ntmps58
  go_wp2
  generalize ((w.alloc (.cells #[.int .i64 0, .int .i64 0, .int .i64 0] 74)).alloc (.cells #[.int .i64 (L / 146097 * 400), .int .i64 1, .int .i64 0] 74)) = w1 at *
  clear q1 q2
  go_loopw [5] (fun l wr => ∃ j : Int, l = .int .i64 (L - ahd j) ∧ 0 ≤ j ∧ j ≤ y ∧ Blk wr (w.heap.size + 1) 74 [.int .i64 j, .int .i64 1, .int .i64 0] ∧ Blk wr w.heap.size 74 [.int .i64 0, .int .i64 0, .int .i64 0] ∧ Below w.heap.size w wr) (fun l _ => (intOf l).toNat)
  case atStart =>
    have h1 := ahd_q (L / 146097)
    have h2 := HY.out
    refine ⟨L / 146097 * 400, ?_, by omega, ?_, hEE.out, hDD.out, hBB.out⟩
    · rw [h1]; congr 1; omega
    · rcases Int.lt_or_le y (L / 146097 * 400) with h3 | h3
      · have h4 := ahd_mono (show y + 1 ≤ L / 146097 * 400 by omega)
        omega
      · exact h3
  case round =>
    obtain ⟨j, rfl, j0, j1, hE, hD, hB⟩ := hrel
    have hja := ahd_mono j1
    have hjb := ahd_bound j0 (by omega)
    have hjs := ahd_succ j
    have hyj := yr_bound j
    obtain ⟨c0, c1, c2⟩ := hE.three
    have f0 := hE.free 0
    have HE := Lib.hid hE
    have HD := Lib.hid hD
    have HB := Lib.hid hB
    clear hE hD hB
    by_cases hj : j < y
    · have h5 := ahd_mono (show j + 1 ≤ y by omega)
      have hge : yr j ≤ L - ahd j := by have := HY.out; omega
      have hd : decide (yr j ≤ L - ahd j) = true := by simpa using hge
      have HJS := Lib.hid hjs
      have hLj : 0 ≤ L - ahd j ∧ L - ahd j ≤ 3652424 := by have := HY.out; omega
      clear h5 hja hjs
      generalize ahd j = A at *
      obtain ⟨l, hl⟩ : ∃ l, l = L - A := ⟨_, rfl⟩
      have HLl := Lib.hid hl
      rw [← hl] at hge hd hLj
      rw [← hl]
      clear hl
      go_wp2_with fail
      refine (hyr.out _ _ j0 (by omega)).mono ?_
      rintro e w2 ⟨rfl, rfl⟩
      go_wp2_with fail
      refine (hyr.out _ _ j0 (by omega)).mono ?_
      rintro e w2 ⟨rfl, rfl⟩
      generalize yr j = Y at *
      go_wp2
      go_roundw
      case rel => exact ⟨j + 1, by rw [HJS.out]; congr 1; have := HLl.out; omega, by omega, by omega, HE.out.set 0 _, (Below.heap_setCell _ ⟨w.heap.size + 1, 0, none⟩ _ w.heap.size (by simp)).trans HD.out, ((Only.refl (w.heap.size + 1) _).setCell (p := ⟨w.heap.size + 1, 0, none⟩) rfl _).below HB.out (by omega) HB.out.size⟩
      case measure => simp [intOf]; omega
    · have hjy : j = y := by omega
      subst hjy
      have hlt : L - ahd j < yr j := by have := HY.out; omega
      have hd : decide (yr j ≤ L - ahd j) = false := by simp; omega
      have hLj : 0 ≤ L - ahd j ∧ L - ahd j ≤ 3652424 := by have := HY.out; omega
      have hNn : Hid (L - ahd j = mon j m + (d - 1)) := by have := HN.out; unfold Hid; unfold num at this; omega
      clear hja hjs HY
      generalize ahd j = A at *
      obtain ⟨l, hl⟩ : ∃ l, l = L - A := ⟨_, rfl⟩
      rw [← hl] at hlt hd hLj hNn
      rw [← hl]
      clear hl
      go_wp2_with fail
      refine (hyr.out _ _ j0 (by omega)).mono ?_
      rintro e w2 ⟨rfl, rfl⟩
      go_wp2
      clear c0 c1 c2 f0
      go_loopw [5] (fun l2 wr2 => ∃ k : Int, l2 = .int .i64 (l - mon j k) ∧ 1 ≤ k ∧ k ≤ m ∧ Blk wr2 (w.heap.size + 1) 74 [.int .i64 j, .int .i64 k, .int .i64 0] ∧ Blk wr2 w.heap.size 74 [.int .i64 0, .int .i64 0, .int .i64 0] ∧ Below w.heap.size w wr2) (fun l _ => (intOf l).toNat)
      case atStart => exact ⟨1, by rw [mon_one]; congr 1; omega, by omega, by omega, HE.out, HD.out, HB.out⟩
      case round =>
        obtain ⟨k, rfl, k0, k1, hE, hD, hB⟩ := hrel
        have hka := mon_mono (y := j) k0 k1 (by omega)
        have hkg := mon_ge (y := j) (a := k) (by omega) (by omega)
        have hks := mon_succ (y := j) (m := k) (by omega) (by omega)
        have hkd := dys_pos (y := j) (m := k) (by omega) (by omega)
        have hkd2 := (dys_le j k).2
        obtain ⟨c0, c1, c2⟩ := hE.three
        have f0 := hE.free 0
        have f1 := hE.free 1
        have f2 := hE.free 2
        have HE := Lib.hid hE
        have HD := Lib.hid hD
        have HB := Lib.hid hB
        clear hE hD hB
        by_cases hk : k < m
        · have h5 := mon_mono (y := j) (a := k + 1) (b := m) (by omega) (by omega) (by omega)
          have hge : dys j k ≤ l - mon j k := by have := hNn.out; omega
          have hd2 : decide (dys j k ≤ l - mon j k) = true := by simpa using hge
          have HKS := Lib.hid hks
          have hLk : 0 ≤ l - mon j k ∧ l - mon j k ≤ 3652424 := by omega
          clear h5 hka hks hkg
          generalize mon j k = M at *
          obtain ⟨l3, hl3⟩ : ∃ l3, l3 = l - M := ⟨_, rfl⟩
          have HL3 := Lib.hid hl3
          rw [← hl3] at hge hd2 hLk
          rw [← hl3]
          clear hl3
          go_wp2_with fail
          refine (hds.out _ _).mono ?_
          rintro e w3 ⟨rfl, hq3⟩
          have HE3 := Lib.hid (HE.out.below hq3)
          have HD3 := Lib.hid (HD.out.below hq3)
          have HB3 := Lib.hid (HB.out.trans (hq3.mono HB.out.size))
          clear c0 c1 c2 f0 f1 f2 hq3 HE HD HB
          obtain ⟨c0, c1, c2⟩ := HE3.out.three
          go_wp2_with fail
          refine (hds.out _ _).mono ?_
          rintro e w4 ⟨rfl, hq4⟩
          have HE4 := Lib.hid (HE3.out.below hq4)
          have HD4 := Lib.hid (HD3.out.below hq4)
          have HB4 := Lib.hid (HB3.out.trans (hq4.mono HB3.out.size))
          clear c0 c1 c2 hq4 HE3 HD3 HB3
          obtain ⟨c0, c1, c2⟩ := HE4.out.three
          have f1 := HE4.out.free 1
          generalize dys j k = Y at *
          go_wp2
          go_roundw
          case rel => exact ⟨k + 1, by rw [HKS.out]; congr 1; have := HL3.out; omega, by omega, by omega, HE4.out.set 1 _, (Below.heap_setCell _ ⟨w.heap.size + 1, 1, none⟩ _ w.heap.size (by simp)).trans HD4.out, ((Only.refl (w.heap.size + 1) _).setCell (p := ⟨w.heap.size + 1, 1, none⟩) rfl _).below HB4.out (by omega) HB4.out.size⟩
          case measure => simp [intOf]; omega
        · have hkm : k = m := by omega
          subst hkm
          have hld : l - mon j k = d - 1 := by have := hNn.out; omega
          have hd2 : decide (dys j k ≤ d - 1) = false := by simp; omega
          have hdm : ¬ dys j k ≤ d - 1 := by omega
          rw [hld]
          clear hka hkg hks hld
          go_wp2_with fail
          refine (hds.out _ _).mono ?_
          rintro e w3 ⟨rfl, hq3⟩
          have HE3 := Lib.hid (HE.out.below hq3)
          have HD3 := Lib.hid (HD.out.below hq3)
          have HB3 := Lib.hid (HB.out.trans (hq3.mono HB.out.size))
          clear c0 c1 c2 f0 f1 f2 hq3 HE HD HB
          obtain ⟨c0, c1, c2⟩ := HE3.out.three
          have f0 := HE3.out.free 0
          have f1 := HE3.out.free 1
          have f2 := HE3.out.free 2
          obtain ⟨e0, e1, e2⟩ := HD3.out.three
          have k0 := HD3.out.free 0
          have k1 := HD3.out.free 1
          have k2 := HD3.out.free 2
          have hdd : d - 1 + 1 = d := by omega
          go_wp2
          have hX : Blk (w3.setCell ⟨w.heap.size + 1, 2, none⟩ (.int .i64 d)) w.heap.size 74 [.int .i64 0, .int .i64 0, .int .i64 0] := (Below.heap_setCell _ ⟨w.heap.size + 1, 2, none⟩ _ w.heap.size (by simp)).trans HD3.out
          have hF := ((hX.set 0 (.int .i64 j)).set 1 (.int .i64 k)).set 2 (.int .i64 d)
          have hO : Below w.heap.size w (w3.setCell ⟨w.heap.size + 1, 2, none⟩ (.int .i64 d)) := ((Only.refl (w.heap.size + 1) _).setCell (p := ⟨w.heap.size + 1, 2, none⟩) rfl _).below HB3.out (by omega) HB3.out.size
          have hFB := (((Only.refl w.heap.size (w3.setCell ⟨w.heap.size + 1, 2, none⟩ (.int .i64 d))).setCell (p := ⟨w.heap.size, 0, none⟩) rfl (.int .i64 j)).setCell (p := ⟨w.heap.size, 1, none⟩) rfl (.int .i64 k)).setCell (p := ⟨w.heap.size, 2, none⟩) rfl (.int .i64 d) |>.below hO (Nat.le_refl _) hO.size
          obtain ⟨t0, t1, t2⟩ := hF.three
          clear e0 e1 e2
          refine bodyPost_ret (v := .tuple #[.agg #[.int .i64 j, .int .i64 k, .int .i64 d], .bool true]) (by simp [results, Tryz.results58, go_sem, t0, t1, t2]) rfl ?_
          exact ⟨rfl, hFB⟩
end Go.Proofs.YtepbjjhidemaiaaGreat
