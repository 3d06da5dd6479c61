/-
  The law DateWeeks.
-/
import Derived.Test.YteljhijnablphaaDr
namespace Go.Proofs.Yteljhijnablphaa
open Go.RowKit
set_option linter.unusedVariables false
set_option linter.unusedSimpArgs false
set_option maxRecDepth 4000

theorem eqlD (w : World) (y m d : Int) : (binOp .eql 27 (.agg #[.int .i64 y, .int .i64 m, .int .i64 d]) (.agg #[.int .i64 y, .int .i64 m, .int .i64 d])).run Try.prog w = .ok (.bool true) w := by go_simp
theorem neqR (w : World) (y m d : Int) : (binOp .neq 23 (.agg #[.int .i64 y, .int .i64 m, .int .i64 d]) (.agg #[.int .i64 y, .int .i64 m, .int .i64 d])).run Try.prog w = .ok (.bool false) w := by go_simp

set_option maxHeartbeats 800000 in
theorem lw9day (y m d : Int) (w : World) (hR : Rgt y m d) :
    Calls Try.prog 33 #[.int .i64 (num y m d)] w fun e w' => e = .returned (.tuple #[dv y m d, .int .i64 (wkd (num y m d))]) ∧ Below w.heap.size w w' := by
  have hr := num_range hR
  have hO := Lib.hid (fun W => dtOfYes (num y m d) W hr.1 hr.2)
  have hW0 := fun W => dtWeekYes y m d W hR
  unfold dv at *
  have hU := Lib.hid (fun (y' m' d' : Int) (h : Rgt y' m' d') (e : num y' m' d' = num y m d) => num_inj h hR e)
  generalize num y m d = N at *
  generalize wkd N = A at *
  have hW := Lib.hid hW0
  have hz := Blk.three_new w (.int .i64 0) (.int .i64 0) (.int .i64 0) 27
  have Hz := Lib.hid hz
  have HB := Lib.hid (below_alloc1 w (.cells #[.int .i64 0, .int .i64 0, .int .i64 0] 27))
  clear hz hW0
  go_enter Try.func33, Try.ntmps33
  go_wp2_with fail
  refine (hO.out _).mono ?_
  rintro e w2 ⟨⟨y', m', d', rfl, hr2, hnm⟩, hB2⟩
  obtain ⟨rfl, rfl, rfl⟩ := hU.out _ _ _ hr2 hnm
  unfold dv
  have Hz2 := Lib.hid ((Hz.out.below hB2).alloc (.cells #[.int .i64 y', .int .i64 m', .int .i64 d'] 27))
  have hB3 := HB.out.trans (hB2.mono HB.out.size)
  have HB3 := Lib.hid (hB3.alloc hB3.size (.cells #[.int .i64 y', .int .i64 m', .int .i64 d'] 27))
  have hx := Blk.three_new w2 (.int .i64 y') (.int .i64 m') (.int .i64 d') 27
  obtain ⟨c0, c1, c2⟩ := hx.three
  have Hx := Lib.hid hx
  clear hx hB2 hB3 hr2 hnm HB Hz
  go_wp2_with fail
  refine (hW.out _).mono ?_
  rintro e w4 ⟨rfl, hB4⟩
  have Hx4 := Lib.hid (Hx.out.below hB4)
  have Hz4 := Lib.hid (Hz2.out.below hB4)
  have HB4 := Lib.hid (HB3.out.trans (hB4.mono HB3.out.size))
  clear c0 c1 c2 hB4 Hx Hz2 HB3
  obtain ⟨c0, c1, c2⟩ := Hx4.out.three
  obtain ⟨z0, z1, z2⟩ := Hz4.out.three
  have f0 := Hz4.out.free 0
  have f1 := Hz4.out.free 1
  have f2 := Hz4.out.free 2
  go_wp2
  have hF := ((Hz4.out.set 0 (.int .i64 y')).set 1 (.int .i64 m')).set 2 (.int .i64 d')
  have hFB := (((Only.refl w.heap.size w4).setCell (p := ⟨w.heap.size, 0, none⟩) rfl (.int .i64 y')).setCell (p := ⟨w.heap.size, 1, none⟩) rfl (.int .i64 m')).setCell (p := ⟨w.heap.size, 2, none⟩) rfl (.int .i64 d') |>.below HB4.out (Nat.le_refl _) HB4.out.size
  obtain ⟨t0, t1, t2⟩ := hF.three
  clear z0 z1 z2
  refine bodyPost_ret (v := .tuple #[.agg #[.int .i64 y', .int .i64 m', .int .i64 d'], .int .i64 A]) (by simp [results, Try.results33, go_sem, t0, t1, t2]) rfl ?_
  exact ⟨rfl, hFB⟩

theorem date_of (n : Int) (h0 : -719528 ≤ n) (h1 : n ≤ 2932896) : ∃ y m d, Rgt y m d ∧ num y m d = n := by
  have hy : ∃ y : Int, 0 ≤ y ∧ y ≤ 9999 ∧ ahd y ≤ n + 719528 ∧ n + 719528 < ahd (y + 1) := by
    have key : ∀ k : Nat, k ≤ 9999 → n + 719528 < ahd ((k : Int) + 1) → ∃ y : Int, 0 ≤ y ∧ y ≤ 9999 ∧ ahd y ≤ n + 719528 ∧ n + 719528 < ahd (y + 1) := by
      intro k
      induction k with
      | zero => intro _ h; exact ⟨0, by omega, by omega, by rw [ahd_zero]; omega, by simpa using h⟩
      | succ k ih =>
        intro hk h
        rcases Int.lt_or_le (n + 719528) (ahd ((k : Int) + 1)) with h2 | h2
        · exact ih (by omega) h2
        · exact ⟨((k + 1 : Nat) : Int), by omega, by omega, by rw [show ((k + 1 : Nat) : Int) = (k : Int) + 1 by omega]; exact h2, h⟩
    exact key 9999 (by omega) (by rw [show (((9999 : Nat) : Int) + 1) = 10000 by omega]; rw [show ahd 10000 = 3652425 by decide]; omega)
  obtain ⟨y, y0, y1, a1, a2⟩ := hy
  have hm : ∃ m : Int, 1 ≤ m ∧ m ≤ 12 ∧ mon y m ≤ n + 719528 - ahd y ∧ n + 719528 - ahd y < mon y (m + 1) := by
    rw [ahd_succ] at a2
    have key : ∀ k : Nat, k ≤ 11 → n + 719528 - ahd y < mon y ((k : Int) + 2) → ∃ m : Int, 1 ≤ m ∧ m ≤ 12 ∧ mon y m ≤ n + 719528 - ahd y ∧ n + 719528 - ahd y < mon y (m + 1) := by
      intro k
      induction k with
      | zero => intro _ h; exact ⟨1, by omega, by omega, by rw [mon_one]; omega, by simpa using h⟩
      | succ k ih =>
        intro hk h
        rcases Int.lt_or_le (n + 719528 - ahd y) (mon y ((k : Int) + 2)) with h2 | h2
        · exact ih (by omega) h2
        · exact ⟨(k : Int) + 2, by omega, by omega, h2, by rw [show ((k : Int) + 2 + 1) = (((k + 1 : Nat) : Int) + 2) by omega]; exact h⟩
    exact key 11 (by omega) (by rw [show (((11 : Nat) : Int) + 2) = 13 by omega, mon_end]; omega)
  obtain ⟨m, m1, m2, b1, b2⟩ := hm
  rw [mon_succ m1 m2] at b2
  have := rgt_of (n := n) (y := y) (m := m) (left := n + 719528 - ahd y - mon y m) y0 y1 m1 m2 (by omega) (by omega) (by omega)
  exact ⟨_, _, _, this.1, this.2⟩

set_option maxHeartbeats 3200000 in
theorem lawWeeks (n : Int) (w : World) (hn : I64 n) :
    Calls Try.prog 7 #[.int .i64 n] w fun e w' => e = .returned (.bool true) ∧ Below w.heap.size w w' := by
  obtain ⟨N, hN⟩ : ∃ N, N = n % 18446744073709551616 % 3506327 - 719528 := ⟨_, rfl⟩
  have hNr : -719528 ≤ N ∧ N ≤ 2786798 := by omega
  obtain ⟨y, m, d, hr, hnm⟩ := date_of N (by omega) (by omega)
  obtain ⟨y2, m2, d2, hr2, hnm2⟩ := date_of (N + 1) (by omega) (by omega)
  obtain ⟨y3, m3, d3, hr3, hnm3⟩ := date_of (N + 7) (by omega) (by omega)
  have hy4 : y ≤ 9599 := by
    rcases Int.lt_or_le 9599 y with h | h
    · exfalso
      have h1 := ahd_mono (show 9600 ≤ y by omega)
      have h2 : ahd 9600 = 3506328 := by decide
      have h3 := hr.month
      have h4 := (mon_ge (y := y) (a := m) (by omega) (by omega)).1
      have h5 := hr.2.2.1
      unfold num at hnm
      omega
    · exact h
  obtain ⟨hr4, hnm4⟩ := rgt_400 hr hy4
  rw [hnm] at hnm4
  have k1 := fun W => lw9day y m d W hr
  have k2 := fun W => lw9day y2 m2 d2 W hr2
  have k3 := fun W => lw9day y3 m3 d3 W hr3
  have k4 := fun W => lw9day (y + 400) m d W hr4
  rw [hnm] at k1
  rw [hnm2, show wkd (N + 1) = (wkd N + 1) % 7 by unfold wkd; omega] at k2
  rw [hnm3, show wkd (N + 7) = wkd N by unfold wkd; omega] at k3
  rw [hnm4, show wkd (N + 146097) = wkd N by unfold wkd; omega] at k4
  have hA : 0 ≤ wkd N ∧ wkd N < 7 := by unfold wkd; omega
  generalize wkd N = A at *
  have hyb : 0 ≤ y ∧ y ≤ 9599 := ⟨hr.1, hy4⟩
  unfold dv at *
  have K1 := Lib.hid k1
  have K2 := Lib.hid k2
  have K3 := Lib.hid k3
  have K4 := Lib.hid k4
  have HKn := Lib.hid known9
  have t1 : (A + 1).tmod 7 = (A + 1) % 7 := Int.tmod_eq_emod_of_nonneg (by omega)
  have t2 : (A != (A + 1) % 7) = true := by simp; omega
  have hE := @eqlD
  have HN := Lib.hid hN.symm
  obtain ⟨U, hU⟩ : ∃ U, U = n % 18446744073709551616 := ⟨_, rfl⟩
  have u1 : IntKind.u64.wrap n = U := by rw [hU]; simp [IntKind.wrap, IntKind.bits, IntKind.signed]
  obtain ⟨V, hV⟩ : ∃ V, V = U % 3506327 := ⟨_, rfl⟩
  have u2 : U.tmod 3506327 = V := by rw [hV]; exact Int.tmod_eq_emod_of_nonneg (by omega)
  have u3 : 0 ≤ V ∧ V < 3506327 := by omega
  have u4 : V - 719528 = N := by omega
  clear k1 k2 k3 k4 hr hr2 hr3 hr4 hnm hnm2 hnm3 hnm4 hy4 hN hU hV
  go_enter Try.func7, Try.ntmps7
  go_wp2_with fail
  refine (K1.out _).mono ?_
  rintro e v1 ⟨rfl, hB1⟩
  have HW1 := Lib.hid (hB1)
  have HV1 := Lib.hid (HW1.out.alloc HW1.out.size (.cells #[.int .i64 y, .int .i64 m, .int .i64 d] 27))
  have hx1_1 := Lib.hid (Blk.three_new v1 (.int .i64 y) (.int .i64 m) (.int .i64 d) 27)
  clear hB1
  go_wp2_with fail
  refine (K2.out _).mono ?_
  rintro e v2 ⟨rfl, hB2⟩
  have HW2 := Lib.hid (HV1.out.trans (hB2.mono HV1.out.size))
  have hx1_2 := Lib.hid ((hx1_1.out.below hB2).alloc (.cells #[.int .i64 y2, .int .i64 m2, .int .i64 d2] 27))
  have HV2 := Lib.hid (HW2.out.alloc HW2.out.size (.cells #[.int .i64 y2, .int .i64 m2, .int .i64 d2] 27))
  have hx2_2 := Lib.hid (Blk.three_new v2 (.int .i64 y2) (.int .i64 m2) (.int .i64 d2) 27)
  clear hB2
  go_wp2_with fail
  refine (K3.out _).mono ?_
  rintro e v3 ⟨rfl, hB3⟩
  have HW3 := Lib.hid (HV2.out.trans (hB3.mono HV2.out.size))
  have hx1_3 := Lib.hid ((hx1_2.out.below hB3).alloc (.cells #[.int .i64 y3, .int .i64 m3, .int .i64 d3] 27))
  have HV3 := Lib.hid (HW3.out.alloc HW3.out.size (.cells #[.int .i64 y3, .int .i64 m3, .int .i64 d3] 27))
  have hx3_3 := Lib.hid (Blk.three_new v3 (.int .i64 y3) (.int .i64 m3) (.int .i64 d3) 27)
  clear hB3
  go_wp2_with fail
  refine (K4.out _).mono ?_
  rintro e v4 ⟨rfl, hB4⟩
  have HW4 := Lib.hid (HV3.out.trans (hB4.mono HV3.out.size))
  have hx1_4 := Lib.hid ((hx1_3.out.below hB4).alloc (.cells #[.int .i64 (y + 400), .int .i64 m, .int .i64 d] 27))
  have HV4 := Lib.hid (HW4.out.alloc HW4.out.size (.cells #[.int .i64 (y + 400), .int .i64 m, .int .i64 d] 27))
  have hx4_4 := Lib.hid (Blk.three_new v4 (.int .i64 (y + 400)) (.int .i64 m) (.int .i64 d) 27)
  clear hB4
  go_wp2_with fail
  refine (HKn.out _).mono ?_
  rintro e v5 ⟨rfl, hB5⟩
  have HW5 := Lib.hid (HV4.out.trans (hB5.mono HV4.out.size))
  obtain ⟨c0, c1, c2⟩ := (hx1_4.out.below hB5).three
  obtain ⟨d0, d1, d2⟩ := (hx4_4.out.below hB5).three
  clear hB5
  go_wp2
  go_ret
  exact ⟨rfl, HW5.out⟩
end Go.Proofs.Yteljhijnablphaa
