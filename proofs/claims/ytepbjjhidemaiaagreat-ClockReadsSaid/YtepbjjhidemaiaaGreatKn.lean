/-
  The law's known: the chapter's examples.
-/
import Derived.Test.YtepbjjhidemaiaaGreatKB
namespace Go.Proofs.YtepbjjhidemaiaaGreat
open Go.RowKit
set_option linter.unusedVariables false
set_option linter.unusedSimpArgs false
set_option maxRecDepth 4000

theorem kn_a : prsV 23 [52, 57, 49, 50, 51, 49, 50, 51, 53, 57, 53, 57, 90] = (23, 2524607999, 0) := by decide
theorem kn_b : prsV 23 [53, 48, 48, 49, 48, 49, 48, 48, 48, 48, 48, 48, 90] = (23, -631152000, 0) := by decide
theorem kn_c : prsV 23 [52, 57, 49, 50, 51, 49, 50, 51, 53, 57, 90] = (0, 0, 6) := by decide
theorem kn_w : wrapB (tgU 24) (contC 24 2049 12 31 23 59 59) = [24, 15, 50, 48, 52, 57, 49, 50, 51, 49, 50, 51, 53, 57, 53, 57, 90] := by decide
theorem kn_s : tmS [24, 15, 50, 48, 52, 57, 49, 50, 51, 49, 50, 51, 53, 57, 53, 57, 90] 0 = (0, 0, 6) := by decide
theorem kn_t : txtB 2049 12 31 23 59 59 = [50, 48, 52, 57, 45, 49, 50, 45, 51, 49, 84, 50, 51, 58, 53, 57, 58, 53, 57, 90] := by decide

set_option maxHeartbeats 3200000 in
theorem known10 (w : World) :
    Calls Tryz.prog 10 #[] w fun e w' => e = .returned (.bool true) ∧ Below w.heap.size w w' := by
  have hP0 := fun W A (n c : Nat) (hW : Bs W A n [52, 57, 49, 50, 51, 49, 50, 51, 53, 57, 53, 57, 90]) (hn : n ≤ 1099511627776) => ckParse 23 A n c [52, 57, 49, 50, 51, 49, 50, 51, 53, 57, 53, 57, 90] W hW hn
  have hQ0 := fun W A (n c : Nat) (hW : Bs W A n [53, 48, 48, 49, 48, 49, 48, 48, 48, 48, 48, 48, 90]) (hn : n ≤ 1099511627776) => ckParse 23 A n c [53, 48, 48, 49, 48, 49, 48, 48, 48, 48, 48, 48, 90] W hW hn
  have hR0 := fun W A (n c : Nat) (hW : Bs W A n [52, 57, 49, 50, 51, 49, 50, 51, 53, 57, 90]) (hn : n ≤ 1099511627776) => ckParse 23 A n c [52, 57, 49, 50, 51, 49, 50, 51, 53, 57, 90] W hW hn
  rw [kn_a] at hP0
  rw [kn_b] at hQ0
  rw [kn_c] at hR0
  have hT0 := fun W => dtTextYes 2524607999 2049 12 31 23 59 59 W (by omega) (by omega) (by decide) (by decide)
  rw [kn_t] at hT0
  unfold strV at hT0
  have hW0 := fun W => ckWrite 24 2524607999 2049 12 31 23 59 59 W (by unfold I64; omega) (by decide) (by decide) (by decide)
  rw [kn_w] at hW0
  unfold NewBs2 at hW0
  have hS0 := fun g (s : Value) W (hW : Cur W g s [24, 15, 50, 48, 52, 57, 49, 50, 51, 49, 50, 51, 53, 57, 53, 57, 90] 0) => ckReadStrict g 0 _ W hW (by simp)
  unfold KeptOk at hS0
  rw [kn_s] at hS0
  unfold prsE tmv at hP0 hQ0 hR0 hS0
  unfold tmv at hW0
  have hP := Lib.hid hP0
  have hQ := Lib.hid hQ0
  have hR := Lib.hid hR0
  have hT := Lib.hid hT0
  have hW := Lib.hid hW0
  have hS := Lib.hid hS0
  have hO := Lib.hid (fun A n c W h hn => octNew A n c [24, 15, 50, 48, 52, 57, 49, 50, 51, 49, 50, 51, 53, 57, 53, 57, 90] W h hn)
  clear hP0 hQ0 hR0 hT0 hW0 hS0
  have b1 := Bs.newF w [52, 57, 49, 50, 51, 49, 50, 51, 53, 57, 53, 57, 90] 5 (13, 14)
  have b1' : Hid (Bs (w.alloc (.cells #[.int .u8 52, .int .u8 57, .int .u8 49, .int .u8 50, .int .u8 51, .int .u8 49, .int .u8 50, .int .u8 51, .int .u8 53, .int .u8 57, .int .u8 53, .int .u8 57, .int .u8 90] 5 (13, 14))) (some ⟨w.heap.size, 0, none⟩) 13 [52, 57, 49, 50, 51, 49, 50, 51, 53, 57, 53, 57, 90]) := b1
  have HB1 := Lib.hid (below_alloc1 w (.cells #[.int .u8 52, .int .u8 57, .int .u8 49, .int .u8 50, .int .u8 51, .int .u8 49, .int .u8 50, .int .u8 51, .int .u8 53, .int .u8 57, .int .u8 53, .int .u8 57, .int .u8 90] 5 (13, 14)))
  clear b1
  have kc := fun (w : World) (C : Array Value) (n c : Nat) => Lib.run_convert_bytes_const (P := Tryz.prog) w 22 5 C n c Tryz.underlying22 Tryz.underlying5
  go_enter Tryz.func10, Tryz.ntmps10
  go_wp2_with fail
  generalize w.alloc (.cells #[.int .u8 52, .int .u8 57, .int .u8 49, .int .u8 50, .int .u8 51, .int .u8 49, .int .u8 50, .int .u8 51, .int .u8 53, .int .u8 57, .int .u8 53, .int .u8 57, .int .u8 90] 5 (13, 14)) = W1 at *
  refine (hP.out _ _ _ _ b1'.out (by omega)).mono ?_
  rintro e w2 ⟨rfl, hB2⟩
  have HB2 := Lib.hid (HB1.out.trans (hB2.mono HB1.out.size))
  have HB3 := Lib.hid (HB2.out.alloc HB2.out.size (.cells #[.int .i64 23, .int .i64 2524607999] 26))
  have X3 := Lib.hid (Blk.two_new w2 (.int .i64 23) (.int .i64 2524607999) 26)
  clear hB2 HB1 HB2 b1' hP
  go_upto_region 2 with (fail)
  generalize w2.alloc (.cells #[.int .i64 23, .int .i64 2524607999] 26) = W3 at *
  generalize w2.heap.size = D at *
  obtain ⟨c0, c1, _, _⟩ := X3.out.two
  go_wp2_with fail
  refine (hT.out _).mono ?_
  rintro e w4 ⟨rfl, hB4⟩
  have HB4 := Lib.hid (HB3.out.trans (hB4.mono HB3.out.size))
  have X4 := Lib.hid (X3.out.below hB4)
  have b4 := Bs.newF w4 [53, 48, 48, 49, 48, 49, 48, 48, 48, 48, 48, 48, 90] 5 (13, 14)
  have b4' : Hid (Bs (w4.alloc (.cells #[.int .u8 53, .int .u8 48, .int .u8 48, .int .u8 49, .int .u8 48, .int .u8 49, .int .u8 48, .int .u8 48, .int .u8 48, .int .u8 48, .int .u8 48, .int .u8 48, .int .u8 90] 5 (13, 14))) (some ⟨w4.heap.size, 0, none⟩) 13 [53, 48, 48, 49, 48, 49, 48, 48, 48, 48, 48, 48, 90]) := b4
  have HB5 := Lib.hid (HB4.out.alloc HB4.out.size (.cells #[.int .u8 53, .int .u8 48, .int .u8 48, .int .u8 49, .int .u8 48, .int .u8 49, .int .u8 48, .int .u8 48, .int .u8 48, .int .u8 48, .int .u8 48, .int .u8 48, .int .u8 90] 5 (13, 14)))
  have X5 := Lib.hid (X4.out.alloc (.cells #[.int .u8 53, .int .u8 48, .int .u8 48, .int .u8 49, .int .u8 48, .int .u8 49, .int .u8 48, .int .u8 48, .int .u8 48, .int .u8 48, .int .u8 48, .int .u8 48, .int .u8 90] 5 (13, 14)))
  clear hB4 HB3 HB4 X3 X4 b4 hT c0 c1
  go_wp2_with fail
  generalize w4.alloc (.cells #[.int .u8 53, .int .u8 48, .int .u8 48, .int .u8 49, .int .u8 48, .int .u8 49, .int .u8 48, .int .u8 48, .int .u8 48, .int .u8 48, .int .u8 48, .int .u8 48, .int .u8 90] 5 (13, 14)) = W5 at *
  refine (hQ.out _ _ _ _ b4'.out (by omega)).mono ?_
  rintro e w6 ⟨rfl, hB6⟩
  have HB6 := Lib.hid (HB5.out.trans (hB6.mono HB5.out.size))
  have X6 := Lib.hid (X5.out.below hB6)
  have HB7 := Lib.hid (HB6.out.alloc HB6.out.size (.cells #[.int .i64 23, .int .i64 (-631152000)] 26))
  have X7 := Lib.hid (X6.out.alloc (.cells #[.int .i64 23, .int .i64 (-631152000)] 26))
  have Y7 := Lib.hid (Blk.two_new w6 (.int .i64 23) (.int .i64 (-631152000)) 26)
  clear hB6 HB5 HB6 X5 X6 b4' hQ
  go_upto_region 4 with (fail)
  generalize w6.alloc (.cells #[.int .i64 23, .int .i64 (-631152000)] 26) = W7 at *
  generalize w6.heap.size = D2 at *
  have b8 := Bs.newF W7 [52, 57, 49, 50, 51, 49, 50, 51, 53, 57, 90] 5 (11, 12)
  have b8' : Hid (Bs (W7.alloc (.cells #[.int .u8 52, .int .u8 57, .int .u8 49, .int .u8 50, .int .u8 51, .int .u8 49, .int .u8 50, .int .u8 51, .int .u8 53, .int .u8 57, .int .u8 90] 5 (11, 12))) (some ⟨W7.heap.size, 0, none⟩) 11 [52, 57, 49, 50, 51, 49, 50, 51, 53, 57, 90]) := b8
  have HB8 := Lib.hid (HB7.out.alloc HB7.out.size (.cells #[.int .u8 52, .int .u8 57, .int .u8 49, .int .u8 50, .int .u8 51, .int .u8 49, .int .u8 50, .int .u8 51, .int .u8 53, .int .u8 57, .int .u8 90] 5 (11, 12)))
  have X8 := Lib.hid (X7.out.alloc (.cells #[.int .u8 52, .int .u8 57, .int .u8 49, .int .u8 50, .int .u8 51, .int .u8 49, .int .u8 50, .int .u8 51, .int .u8 53, .int .u8 57, .int .u8 90] 5 (11, 12)))
  have Y8 := Lib.hid (Y7.out.alloc (.cells #[.int .u8 52, .int .u8 57, .int .u8 49, .int .u8 50, .int .u8 51, .int .u8 49, .int .u8 50, .int .u8 51, .int .u8 53, .int .u8 57, .int .u8 90] 5 (11, 12)))
  clear HB7 X7 Y7 b8
  go_wp2_with fail
  generalize W7.alloc (.cells #[.int .u8 52, .int .u8 57, .int .u8 49, .int .u8 50, .int .u8 51, .int .u8 49, .int .u8 50, .int .u8 51, .int .u8 53, .int .u8 57, .int .u8 90] 5 (11, 12)) = W8 at *
  refine (hR.out _ _ _ _ b8'.out (by omega)).mono ?_
  rintro e w9 ⟨rfl, hB9⟩
  have hB9a := hB9.alloc hB9.size (.cells #[.int .i64 0, .int .i64 0] 26)
  have HB9 := Lib.hid (HB8.out.trans (hB9a.mono HB8.out.size))
  have X9 := Lib.hid (X8.out.below hB9a)
  have Y9 := Lib.hid (Y8.out.below hB9a)
  clear hB9 hB9a HB8 X8 Y8 b8' hR
  go_upto_region 5 with (fail)
  generalize w9.alloc (.cells #[.int .i64 0, .int .i64 0] 26) = W9 at *
  generalize w9.heap.size = D3 at *
  obtain ⟨c0, c1, _, _⟩ := X9.out.two
  go_wp2_with fail
  refine (hW.out _).mono ?_
  rintro e w10 ⟨A10, n10, c10, rfl, ho10, hB10⟩
  have HB10 := Lib.hid (HB9.out.trans (hB10.mono HB9.out.size))
  have Y10 := Lib.hid (Y9.out.below hB10)
  have S10 := Lib.hid ho10.bs.1
  have hn10 : n10 ≤ 1099511627776 := by have := S10.out.len; simp at this; omega
  clear ho10 hB10 HB9 X9 Y9 hW c0 c1
  go_wp2_with fail
  refine (hO.out _ _ _ _ S10.out hn10).mono ?_
  rintro e w11 ⟨g, sv, rfl, hg, hc11, hB11⟩
  have HB11 := Lib.hid (HB10.out.trans (hB11.mono HB10.out.size))
  have Y11 := Lib.hid (Y10.out.below hB11)
  have C11 := Lib.hid hc11
  have hD2 : D2 ≠ g := by have := Y10.out.lt; omega
  have hgw : w.heap.size ≤ g := Nat.le_trans HB10.out.size hg
  clear hc11 hB11 HB10 Y10 hO hn10
  go_wp2_with fail
  refine (hS.out _ _ _ C11.out).mono ?_
  rintro e w12 ⟨rfl, _, ho12⟩
  have HB12 := Lib.hid (ho12.below HB11.out hgw HB11.out.size)
  have Y12 := Lib.hid (Y11.out.only ho12 hD2)
  have HB13 := Lib.hid (HB12.out.alloc HB12.out.size (.cells #[.int .i64 0, .int .i64 0] 26))
  have Y13 := Lib.hid (Y12.out.alloc (.cells #[.int .i64 0, .int .i64 0] 26))
  clear ho12 HB11 HB12 Y11 Y12 hS C11 hg hgw hD2
  obtain ⟨c0, c1, _, _⟩ := Y13.out.two
  go_wp2
  go_ret
  exact ⟨rfl, HB13.out⟩
end Go.Proofs.YtepbjjhidemaiaaGreat
