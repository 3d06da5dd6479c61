/-
  The project's date: Number, Weekday, Search, Of$1.
-/
import Derived.Test.YtepbjjhidemaiaaGreatDb
namespace Go.Proofs.YtepbjjhidemaiaaGreat
open Go.RowKit
set_option linter.unusedVariables false
set_option linter.unusedSimpArgs false
set_option maxRecDepth 4000

set_option maxHeartbeats 1600000 in
theorem dtNumberNo (y m d : Int) (w : World) (hy : I64 y) (hm : I64 m) (hd : I64 d) (hR : ¬ Rgt y m d) :
    Calls Tryz.prog 60 #[.agg #[.int .i64 y, .int .i64 m, .int .i64 d]] w fun e w' => e = .returned (.tuple #[.int .i64 0, .int .i64 1]) ∧ Below w.heap.size w w' := by
  have hC := Lib.hid (fun W => dtRight y m d W hy hm hd)
  have hF : decide (Rgt y m d) = false := by simpa using hR
  have hb := Blk.new w [.int .i64 y, .int .i64 m, .int .i64 d] 85
  obtain ⟨c0, c1, c2⟩ := hb.three
  clear hb hR
  go_enter Tryz.func60, Tryz.ntmps60
  go_wp2_with fail
  refine (hC.out _).mono ?_
  rintro e w' ⟨rfl, hB⟩
  rw [hF]
  have hB' := Lib.hid ((below_alloc1 w (.cells #[.int .i64 y, .int .i64 m, .int .i64 d] 85)).trans (hB.mono (by simp)))
  clear hB
  go_wp2
  go_ret2
  exact ⟨rfl, hB'.out⟩

set_option maxHeartbeats 1600000 in
theorem dtNumberYes (y m d : Int) (w : World) (hR : Rgt y m d) :
    Calls Tryz.prog 60 #[.agg #[.int .i64 y, .int .i64 m, .int .i64 d]] w fun e w' => e = .returned (.tuple #[.int .i64 (num y m d), .int .i64 0]) ∧ Below w.heap.size w w' := by
  have hm := hR.month
  have hr := num_range hR
  obtain ⟨g1, g2, g3, g4⟩ := id hR
  have g5 := (dys_le y m).2
  have hy : I64 y := by unfold I64; omega
  have hC := Lib.hid (fun W => dtRight y m d W hy (by unfold I64; omega) (by unfold I64; omega))
  have hDs := Lib.hid (fun k W => dtDays y k W hy)
  have hAh := Lib.hid (fun W => dtAhead y W g1 (by omega))
  have hab : 0 ≤ ahd y ∧ ahd y ≤ 3652425 := by
    have h1 := ahd_mono g1
    have h2 := ahd_mono (a := y) (b := 10000) (by omega)
    have h3 : ahd 10000 = 3652425 := by decide
    rw [ahd_zero] at h1; omega
  have hF : decide (Rgt y m d) = true := by simpa using hR
  have hb := Blk.new w [.int .i64 y, .int .i64 m, .int .i64 d] 85
  obtain ⟨c0, c1, c2⟩ := hb.three
  have HR := Lib.hid hR
  clear hR
  go_enter Tryz.func60, Tryz.ntmps60
  go_wp2_with fail
  refine (hC.out _).mono ?_
  rintro e w1 ⟨rfl, hB⟩
  rw [hF]
  have hb1 := hb.below hB
  have hB' := Lib.hid ((below_alloc1 w (.cells #[.int .i64 y, .int .i64 m, .int .i64 d] 85)).trans (hB.mono (by simp)))
  clear hB hb c0 c1 c2
  obtain ⟨c0, c1, c2⟩ := hb1.three
  have HB1 := Lib.hid hb1
  clear hb1
  go_wp2
  go_quiet ((go_at_call 80; exact Calls.quiet_of_same (hAh.out _)))
  go_wp2
  go_loopw [4, 5] (fun n k wr => ∃ j : Int, 1 ≤ j ∧ j ≤ m ∧ k = .int .i64 j ∧ n = .int .i64 (-719528 + ahd y + d - 1 + mon y j) ∧ Qt w1 wr) (fun _ k _ => (m - intOf k).toNat)
  case atStart => exact ⟨1, by omega, by omega, rfl, by rw [mon_one]; congr 1; omega, ⟨_, rfl⟩⟩
  case round =>
    obtain ⟨j, j1, j2, rfl, rfl, hq⟩ := hrel
    have hw := (HB1.out.below hq.below).three
    obtain ⟨c0, c1, c2⟩ := hw
    have hmj := Lib.hid (mon_ge (y := y) (a := j) (by omega) (by omega))
    have hyr : yr y ≤ 366 := by unfold yr; have := lg_cases y; omega
    have hmb : 0 ≤ mon y j ∧ mon y j ≤ 366 := by have := hmj.out; omega
    by_cases hj : j < m
    · have hms := Lib.hid (mon_succ (y := y) (m := j) (by omega) (by omega))
      have hdj := dys_le y j
      generalize mon y j = M at *
      go_wp2_with fail
      refine (hDs.out _ _).mono ?_
      rintro e w2 ⟨rfl, rfl⟩
      generalize dys y j = D at *
      go_wp2
      go_roundw
      case rel => exact ⟨j + 1, by omega, by omega, by go_num, by rw [hms.out]; congr 1; omega, hq⟩
      case measure => simp [intOf]; omega
    · have hjm : j = m := by omega
      have hv : Hid (-719528 + ahd y + d - 1 + mon y j = num y m d) := by unfold Hid num; rw [hjm]; omega
      rw [hv.out]
      go_wp2
      go_ret2
      exact ⟨rfl, hB'.out.trans (Below.mono hq.below hB'.out.size)⟩

theorem wkd_eq {n a b : Int} (ha : a = n.tmod 7) (hb : b = (a + 7 + 4).tmod 7) : b = wkd n := by
  have h1 := Int.tmod_add_mul_tdiv n 7
  have h2 : -7 < n.tmod 7 ∧ n.tmod 7 < 7 := ⟨Int.lt_tmod_of_pos n (by omega), Int.tmod_lt_of_pos n (by omega)⟩
  subst ha
  have h3 : (n.tmod 7 + 7 + 4).tmod 7 = (n.tmod 7 + 7 + 4) % 7 := Int.tmod_eq_emod_of_nonneg (by omega)
  rw [hb, h3]; unfold wkd; omega

set_option maxHeartbeats 800000 in
theorem dtOf1 (x left : Int) (R : Nat) (w : World) (h : w.cell? ⟨R, 0, none⟩ = some (.int .i64 left)) (h0 : 0 ≤ x) (h1 : x ≤ 9999) :
    Calls Tryz.prog 84 #[.int .i64 x, .pointer (some ⟨R, 0, none⟩)] w fun e w' => e = .returned (.bool (decide (left < ahd (x + 1)))) ∧ Qt w w' := by
  have hC := Lib.hid (fun W => dtAhead (x + 1) W (by omega) (by omega))
  go_enter Tryz.func84, Tryz.ntmps84
  go_wp2
  go_quiet ((go_at_call 80; exact Calls.quiet_of_same (hC.out _)))
  go_wp2
  go_ret
  exact ⟨rfl, ⟨_, rfl⟩⟩

set_option maxHeartbeats 1600000 in
theorem dtSearch (left : Int) (R : Nat) (w : World) (h : w.cell? ⟨R, 0, none⟩ = some (.int .i64 left)) (h0 : 0 ≤ left) (h1 : left ≤ 3652424) :
    Calls Tryz.prog 83 #[.int .i64 9999, .func (.func 84) #[] #[.pointer (some ⟨R, 0, none⟩)]] w fun e w' => (∃ y : Int, e = .returned (.int .i64 y) ∧ 0 ≤ y ∧ y ≤ 9999 ∧ ahd y ≤ left ∧ left < ahd (y + 1)) ∧ Qt w w' := by
  have hC := Lib.hid (fun (x : Int) W (h : w.cell? ⟨R, 0, none⟩ = some (.int .i64 left)) (hq : Qt w W) (h0 : 0 ≤ x) (h1 : x ≤ 9999) => dtOf1 x left R W ((hq.below.cell (World.block_lt_of_cell? w _ h)).trans h) h0 h1)
  have hA1 : ahd (9999 + 1) = 3652425 := by decide
  go_enter Tryz.func83, Tryz.ntmps83
  go_wp2
  go_loopw [5, 6] (fun a b wr => ∃ i j : Int, a = .int .i64 i ∧ b = .int .i64 j ∧ 0 ≤ i ∧ i ≤ j ∧ j ≤ 9999 ∧ ahd i ≤ left ∧ left < ahd (j + 1) ∧ Qt w wr) (fun a b _ => (intOf b - intOf a).toNat)
  case atStart => exact ⟨0, 9999, rfl, rfl, by omega, by omega, by omega, by rw [ahd_zero]; omega, by omega, Qt.refl _⟩
  case round =>
    obtain ⟨i, j, rfl, rfl, i0, ij, j1, hl, hu, hq⟩ := hrel
    by_cases hij : i < j
    · have e1 : (i + j) % 18446744073709551616 = i + j := by omega
      have HL := Lib.hid hl
      have HU := Lib.hid hu
      clear hl hu
      go_wp2_with fail
      refine (hC.out ((i + j) / 2) _ h hq (by omega) (by omega)).mono ?_
      rintro e w2 ⟨rfl, hq2⟩
      have hq3 := hq.trans hq2
      clear hq hq2
      by_cases hlt : left < ahd ((i + j) / 2 + 1)
      · have hd : decide (left < ahd ((i + j) / 2 + 1)) = true := by simpa using hlt
        have HLT := Lib.hid hlt
        rw [hd]
        clear hlt hd
        go_wp2
        go_roundw
        case rel => exact ⟨i, (i + j) / 2, rfl, rfl, by omega, by omega, by omega, HL.out, HLT.out, hq3⟩
        case measure => simp [intOf]; omega
      · have hd : decide (left < ahd ((i + j) / 2 + 1)) = false := by simpa using hlt
        have HLT := Lib.hid hlt
        rw [hd]
        clear hlt hd
        go_wp2
        go_roundw
        case rel => exact ⟨(i + j) / 2 + 1, j, by go_num, rfl, by omega, by omega, by omega, by have := HLT.out; omega, HU.out, hq3⟩
        case measure => simp [intOf]; omega
    · have hij2 : i = j := by omega
      subst hij2
      have HL := Lib.hid hl
      have HU := Lib.hid hu
      clear hl hu
      go_wp2
      go_ret
      exact ⟨⟨i, rfl, i0, j1, HL.out, HU.out⟩, hq⟩
end Go.Proofs.YtepbjjhidemaiaaGreat
