/-
  The project's date: Of.
-/
import Derived.Test.YtepbjjhidemaiaaGreatDc
import Derived.StillTailTactics
import Derived.Deep.DeepCutAuto
namespace Go.Proofs.YtepbjjhidemaiaaGreat
open Go.RowKit
set_option linter.unusedVariables false
set_option linter.unusedSimpArgs false
set_option maxRecDepth 4000

/-- A date as it stands in Go. -/
def dv (y m d : Int) : Value := .agg #[.int .i64 y, .int .i64 m, .int .i64 d]
/-- What Of hands back. -/
def OfOk (n : Int) (w : World) (e : Ending) (w' : World) : Prop :=
  (∃ y m d : Int, e = .returned (.tuple #[dv y m d, .int .i64 0]) ∧ Rgt y m d ∧ num y m d = n) ∧ Below w.heap.size w w'

set_option maxHeartbeats 800000 in
theorem dtOfNo (n : Int) (w : World) (hn : I64 n) (h : n < -719528 ∨ 2932896 < n) :
    Calls Tryz.prog 63 #[.int .i64 n] w fun e w' => e = .returned (.tuple #[dv 0 0 0, .int .i64 1]) ∧ Below w.heap.size w w' := by
  unfold dv
  have hb := Blk.new w [.int .i64 0, .int .i64 0, .int .i64 0] 85
  obtain ⟨c0, c1, c2⟩ := hb.three
  have f0 := hb.free 0
  have f1 := hb.free 1
  have f2 := hb.free 2
  clear hb
  rcases h with h | h
  · have d1 : decide (n < -719528) = true := by simpa using h
    have d2 : n < -719528 := h
    go_enter Tryz.func63, Tryz.ntmps63
    go_wp2
    refine bodyPost_ret (v := .tuple #[.agg #[.int .i64 0, .int .i64 0, .int .i64 0], .int .i64 1]) (by simp [results, Tryz.results63, go_sem]) rfl ?_
    exact ⟨rfl, below_alloc1 _ _⟩
  · have d1 : ¬ n < -719528 := by omega
    go_enter Tryz.func63, Tryz.ntmps63
    go_wp2
    refine bodyPost_ret (v := .tuple #[.agg #[.int .i64 0, .int .i64 0, .int .i64 0], .int .i64 1]) (by simp [results, Tryz.results63, go_sem]) rfl ?_
    exact ⟨rfl, below_alloc1 _ _⟩

set_option maxHeartbeats 1600000 in
theorem dtOfYes (n : Int) (w : World) (h0 : -719528 ≤ n) (h1 : n ≤ 2932896) :
    Calls Tryz.prog 63 #[.int .i64 n] w (OfOk n w) := by
  have hS := Lib.hid (fun R W h => dtSearch (n + 719528) R W h (by omega) (by omega))
  have hAh := Lib.hid (fun (y : Int) W (h0 : 0 ≤ y) (h1 : y ≤ 9999) => dtAhead y W h0 (by omega))
  have hDs := Lib.hid (fun (y k : Int) W (h0 : 0 ≤ y) (h1 : y ≤ 9999) => dtDays y k W (by unfold I64; omega))
  have hD0 := (Blk.new w [.int .i64 0, .int .i64 0, .int .i64 0] 85).alloc (.cells #[.int .i64 (n + 719528)] 3)
  have hL0 := Blk.new (w.alloc (.cells #[.int .i64 0, .int .i64 0, .int .i64 0] 85)) [.int .i64 (n + 719528)] 3
  have hB0 := below_alloc2 w (.cells #[.int .i64 0, .int .i64 0, .int .i64 0] 85) (.cells #[.int .i64 (n + 719528)] 3)
  have hB := Lib.hid hB0
  clear hB0
  have hsz : (w.alloc (.cells #[.int .i64 0, .int .i64 0, .int .i64 0] 85)).heap.size = w.heap.size + 1 := by simp
  have hL0 : Blk ((w.alloc (.cells #[.int .i64 0, .int .i64 0, .int .i64 0] 85)).alloc (.cells #[.int .i64 (n + 719528)] 3)) (w.heap.size + 1) 3 [.int .i64 (n + 719528)] := by rw [← hsz]; exact hL0
  clear hsz
  have c0 := hL0.cell 0
  obtain ⟨L, hLe⟩ : ∃ L, L = n + 719528 := ⟨_, rfl⟩
  have hLL : 0 ≤ L ∧ L ≤ 3652424 := by omega
  have HE := Lib.hid hLe
  have HD := Lib.hid hD0
  have HL := Lib.hid hL0
  clear hD0 hL0
  go_enter Tryz.func63, Tryz.ntmps63
  go_wp2_with fail
  refine (hS.out _ _ c0).mono ?_
  rintro e w2 ⟨⟨y, rfl, y0, y1, a1, a2⟩, hq⟩
  rw [← hLe] at a1 a2 HD HL hB hq
  have hD2 := Lib.hid (HD.out.below hq.below)
  have hL2 := HL.out.below hq.below
  have hB2 := Lib.hid (hB.out.trans (Below.mono hq.below hB.out.size))
  clear HD HL hB hq c0 hLe
  have c0 := hL2.cell 0
  have f0 := hL2.free 0
  have hab : 0 ≤ ahd y ∧ ahd y ≤ 3652425 := by
    have h1 := ahd_mono y0
    have h2 := ahd_mono (a := y) (b := 10000) (by omega)
    have h3 : ahd 10000 = 3652425 := by decide
    rw [ahd_zero] at h1; omega
  have A2 := Lib.hid a2
  have HL2 := Lib.hid hL2
  clear hL2 a2
  obtain ⟨R, hR⟩ : ∃ R, R = w.heap.size := ⟨_, rfl⟩
  go_upto_region 5 with fail
  refine wp_region_still_tail 4 (by kernel_rfl) (by kernel_rfl) ?_
  simp only [List.take_succ_cons, List.take_zero, List.drop_succ_cons, List.drop_zero]
  still_step
  still_step
  still_call (hAh.out y _ y0 y1)
  still_step
  refine wpStill_nil ?_
  have hD3 : Hid (Blk ((w2.setCell ⟨w.heap.size + 1, 0, none⟩ (.int .i64 (L - ahd y))).drew) w.heap.size 85 [.int .i64 0, .int .i64 0, .int .i64 0]) := (Below.heap_setCell w2 ⟨w.heap.size + 1, 0, none⟩ _ w.heap.size (by simp)).trans hD2.out
  have hL3 : Hid (Blk ((w2.setCell ⟨w.heap.size + 1, 0, none⟩ (.int .i64 (L - ahd y))).drew) (w.heap.size + 1) 3 [.int .i64 (L - ahd y)]) := HL2.out.set 0 _
  have hB3 : Hid (Below w.heap.size w ((w2.setCell ⟨w.heap.size + 1, 0, none⟩ (.int .i64 (L - ahd y))).drew)) := below_drewN (((Only.refl (w.heap.size + 1) w2).setCell (p := ⟨w.heap.size + 1, 0, none⟩) rfl _).below hB2.out (by omega) hB2.out.size) 1
  clear hR
  go_wp2
  generalize (w2.setCell ⟨w.heap.size + 1, 0, none⟩ (.int .i64 (L - ahd y))).drew = w3 at *
  clear c0 f0 hD2 HL2 hS hAh hB2
  go_loopw [6] (fun k wr => ∃ j l : Int, k = .int .i64 j ∧ 1 ≤ j ∧ j ≤ 12 ∧ 0 ≤ l ∧ L = ahd y + mon y j + l ∧ Blk wr (w.heap.size + 1) 3 [.int .i64 l] ∧ Blk wr w.heap.size 85 [.int .i64 0, .int .i64 0, .int .i64 0] ∧ Below w.heap.size w wr) (fun k _ => (12 - intOf k).toNat)
  case atStart => exact ⟨1, L - ahd y, rfl, by omega, by omega, by omega, by rw [mon_one]; omega, hL3.out, hD3.out, hB3.out⟩
  case round =>
    obtain ⟨j, l, rfl, j1, j2, l0, hl, hb, hd, hB⟩ := hrel
    have hms := Lib.hid (mon_succ (y := y) (m := j) (by omega) (by omega))
    have hmm := Lib.hid (mon_ge (y := y) (a := j) (by omega) (by omega))
    have hdj := dys_le y j
    have hll : l ≤ 3652424 := by have := hmm.out; omega
    have HLL := Lib.hid hl
    have c0 := hb.cell 0
    have f0 := hb.free 0
    have HB := Lib.hid hb
    have HD := Lib.hid hd
    have HBl := Lib.hid hB
    clear hl hb hd hB
    have fin : Hid (∀ wx, Below w.heap.size w wx → l < dys y j → OfOk n w (.returned (.tuple #[dv y j (l + 1), .int .i64 0])) wx) := by
      intro wx hwx hlt
      have := rgt_of (n := n) (y := y) (m := j) (left := l) y0 y1 j1 j2 l0 hlt (by have h1 := HE.out; have h2 := HLL.out; omega)
      exact ⟨⟨_, _, _, rfl, this.1, this.2⟩, hwx⟩
    have hfx : Hid (∀ nq, Below w.heap.size w (((((wr.drewN nq).setCell ⟨w.heap.size, 0, none⟩ (.int .i64 y)).setCell ⟨w.heap.size, 1, none⟩ (.int .i64 j)).setCell ⟨w.heap.size, 2, none⟩ (.int .i64 (l + 1))))) := by
      intro nq
      exact ((((Only.refl w.heap.size (wr.drewN nq)).setCell (p := ⟨w.heap.size, 0, none⟩) rfl _).setCell (p := ⟨w.heap.size, 1, none⟩) rfl _).setCell (p := ⟨w.heap.size, 2, none⟩) rfl _).below (below_drewN HBl.out nq) (Nat.le_refl _) (HBl.out.size)
    by_cases hj : j < 12
    · go_wp2_with fail
      go_quiet ((go_at_call 81; exact Calls.quiet_of_same (hDs.out y j _ y0 y1)))
      by_cases hge : dys y j ≤ l
      · have hge2 := Lib.hid hge
        have hd : decide (dys y j ≤ l) = true := by simpa using hge
        have HBq := Lib.hid (HB.out.drewN nq)
        have HDq := Lib.hid (HD.out.drewN nq)
        have HBlq := Lib.hid (below_drewN HBl.out nq)
        clear hfx fin c0 f0
        go_upto_region 8 with fail
        generalize wr.drewN nq = wq at *
        have c0 := HBq.out.cell 0
        have f0 := HBq.out.free 0
        refine wp_region_still_tail 5 (by kernel_rfl) (by kernel_rfl) ?_
        simp only [List.take_succ_cons, List.take_zero, List.drop_succ_cons, List.drop_zero]
        still_step
        still_step
        still_step
        still_call (hDs.out y j _ y0 y1)
        still_step
        refine wpStill_nil ?_
        go_wp2
        go_roundw
        case rel => exact ⟨j + 1, l - dys y j, by go_num, by omega, by omega, by have := hge2.out; omega, by rw [hms.out]; have := HLL.out; omega, HBq.out.set 0 _, (Below.heap_setCell wq ⟨w.heap.size + 1, 0, none⟩ _ w.heap.size (by simp)).trans HDq.out, below_drewN (((Only.refl (w.heap.size + 1) wq).setCell (p := ⟨w.heap.size + 1, 0, none⟩) rfl _).below HBlq.out (by omega) HBlq.out.size) 1⟩
        case measure => simp [intOf]; omega
      · have hd : decide (dys y j ≤ l) = false := by simpa using hge
        have hlt : Hid (l < dys y j) := by unfold Hid; omega
        obtain ⟨d0, d1, d2⟩ := HD.out.three
        have e0 := HD.out.free 0
        have e1 := HD.out.free 1
        have e2 := HD.out.free 2
        go_wp2
        have hF := (((HD.out.drewN nq).set 0 (.int .i64 y)).set 1 (.int .i64 j)).set 2 (.int .i64 (l + 1))
        obtain ⟨q0, q1, q2⟩ := hF.three
        refine bodyPost_ret (v := .tuple #[.agg #[.int .i64 y, .int .i64 j, .int .i64 (l + 1)], .int .i64 0]) (by simp [results, Tryz.results63, go_sem, q0, q1, q2]) rfl ?_
        exact fin.out _ (hfx.out nq) hlt.out
    · have hj12 : j = 12 := by omega
      subst hj12
      have hlt : Hid (l < dys y 12) := by
        have h1 := hms.out
        have h2 : mon y (12 + 1) = yr y := mon_end y
        have h3 := ahd_succ y
        have h4 := A2.out
        have h5 := HLL.out
        unfold Hid; omega
      obtain ⟨d0, d1, d2⟩ := HD.out.three
      have e0 := HD.out.free 0
      have e1 := HD.out.free 1
      have e2 := HD.out.free 2
      go_wp2
      go_quiet (fail)
      go_wp2
      have hF := (((HD.out.drewN nq).set 0 (.int .i64 y)).set 1 (.int .i64 12)).set 2 (.int .i64 (l + 1))
      obtain ⟨q0, q1, q2⟩ := hF.three
      refine bodyPost_ret (v := .tuple #[.agg #[.int .i64 y, .int .i64 12, .int .i64 (l + 1)], .int .i64 0]) (by simp [results, Tryz.results63, go_sem, q0, q1, q2]) rfl ?_
      exact fin.out _ (hfx.out nq) hlt.out
end Go.Proofs.YtepbjjhidemaiaaGreat
