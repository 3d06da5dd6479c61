/-
  The reference of clock: Parse.
-/
import Derived.Test.YtepbjjhidemaiaaGreatKA
namespace Go.Proofs.YtepbjjhidemaiaaGreat
open Go.RowKit
set_option linter.unusedVariables false
set_option linter.unusedSimpArgs false
set_option maxRecDepth 4000

set_option maxHeartbeats 800000 in
theorem rfParseNo (k : Int) (A : Option Addr) (n c : Nat) (l : List UInt8) (w : World) (h1 : (k == 23) = false) (h2 : (k == 24) = false) :
    Calls Tryz.prog 19 #[.int .i64 k, .slice A n c] w fun e w' => e = prsE (0, 0, 1) ∧ Below w.heap.size w w' := by
  have b1 := Blk.two_new w (.int .i64 0) (.int .i64 0) 32
  have hP := b1.put (.int .i64 0) (.int .i64 0)
  have HB := Lib.hid (below_set2 (below_alloc1 w (.cells #[.int .i64 0, .int .i64 0] 32)) (by simp) (Nat.le_refl w.heap.size) (.int .i64 0) (.int .i64 0))
  obtain ⟨c0, c1, f0, f1⟩ := b1.two
  obtain ⟨d0, d1, _, _⟩ := hP.two
  clear b1 hP
  go_enter Tryz.func19, Tryz.ntmps19
  go_wp2
  refine bodyPost_ret (v := .tuple #[.agg #[.int .i64 0, .int .i64 0], .int .i64 1]) (by simp [results, Tryz.results19, go_sem, c0, c1, d0, d1]) rfl ?_
  first | exact ⟨rfl, HB.out⟩ | exact ⟨rfl, below_alloc1 _ _⟩

set_option maxHeartbeats 12800000 in
theorem rfParse23 (A : Option Addr) (n c : Nat) (l : List UInt8) (w : World) (h : Bs w A n l) (hn : n ≤ 1099511627776) :
    Calls Tryz.prog 19 #[.int .i64 23, .slice A n c] w fun e w' => e = prsE (prsV 23 l) ∧ Below w.heap.size w w' := by
  have hlen := Lib.hid h.len
  have HY := Lib.hid (fun W (hW : Bs W A n l) => rfDigits A n c 0 2 0 2 l W hW (by omega) (by omega) rfl rfl hn)
  have H1 := Lib.hid (fun W (hW : Bs W A n l) => rfDigits A n c 2 2 2 2 l W hW (by omega) (by omega) rfl rfl hn)
  have H2 := Lib.hid (fun W (hW : Bs W A n l) => rfDigits A n c 4 2 4 2 l W hW (by omega) (by omega) rfl rfl hn)
  have H3 := Lib.hid (fun W (hW : Bs W A n l) => rfDigits A n c 6 2 6 2 l W hW (by omega) (by omega) rfl rfl hn)
  have H4 := Lib.hid (fun W (hW : Bs W A n l) => rfDigits A n c 8 2 8 2 l W hW (by omega) (by omega) rfl rfl hn)
  have H5 := Lib.hid (fun W (hW : Bs W A n l) => rfDigits A n c 10 2 10 2 l W hW (by omega) (by omega) rfl rfl hn)
  have ry := yrS_range 23 l
  have fy := rf_year 23 l (by omega)
  have r1 := dgs_two_range l 2
  have q1 := dgs_two l 2
  have r2 := dgs_two_range l 4
  have q2 := dgs_two l 4
  have r3 := dgs_two_range l 6
  have q3 := dgs_two l 6
  have r4 := dgs_two_range l 8
  have q4 := dgs_two l 8
  have r5 := dgs_two_range l 10
  have q5 := dgs_two l 10
  have hPC : PrsC 23 l ↔ (l.length = 13 ∧ nth l 12 = 90 ∧ RgtC (yrS 23 l) (dgs l 2 2 0) (dgs l 4 2 0) (dgs l 6 2 0) (dgs l 8 2 0) (dgs l 10 2 0)) := by
    unfold PrsC; rw [q1, q2, q3, q4, q5]; exact Iff.rfl
  have hSC : secC 23 l = sec (yrS 23 l) (dgs l 2 2 0) (dgs l 4 2 0) (dgs l 6 2 0) (dgs l 8 2 0) (dgs l 10 2 0) := by
    unfold secC; rw [q1, q2, q3, q4, q5]; rfl
  have hR : prsV 23 l = if (l.length = 13 ∧ nth l 12 = 90 ∧ RgtC (yrS 23 l) (dgs l 2 2 0) (dgs l 4 2 0) (dgs l 6 2 0) (dgs l 8 2 0) (dgs l 10 2 0)) then (23, sec (yrS 23 l) (dgs l 2 2 0) (dgs l 4 2 0) (dgs l 6 2 0) (dgs l 8 2 0) (dgs l 10 2 0), 0) else (0, 0, 6) := by
    unfold prsV
    rw [if_pos (by omega), hSC]
    by_cases g : PrsC 23 l
    · rw [if_pos g, if_pos (hPC.1 g)]
    · rw [if_neg g, if_neg (fun x => g (hPC.2 x))]
  have RG := Lib.hid (fun W => rf9RightClock (yrS 23 l) (dgs l 2 2 0) (dgs l 4 2 0) (dgs l 6 2 0) (dgs l 8 2 0) (dgs l 10 2 0) W (by unfold I64; omega) (by unfold I64; omega) (by unfold I64; omega))
  have SY := Lib.hid (fun W (hr : RgtC (yrS 23 l) (dgs l 2 2 0) (dgs l 4 2 0) (dgs l 6 2 0) (dgs l 8 2 0) (dgs l 10 2 0)) => rf9Second _ _ _ _ _ _ W hr)
  have HR := Lib.hid hR
  clear hPC hSC hR
  have ry0 := d2_range l 0
  rw [← dgs_two] at ry0
  clear q1
  generalize dgs l 2 2 0 = M at *
  clear q2
  generalize dgs l 4 2 0 = D at *
  clear q3
  generalize dgs l 6 2 0 = a at *
  clear q4
  generalize dgs l 8 2 0 = b at *
  clear q5
  generalize dgs l 10 2 0 = s at *
  have P0 : Hid (RC w A n l [.int .i64 0, .int .i64 0, .int .i64 0, .int .i64 0, .int .i64 0, .int .i64 0] ((w.alloc (.cells #[.int .i64 0, .int .i64 0] 32)).alloc (.cells #[.int .i64 0, .int .i64 0, .int .i64 0, .int .i64 0, .int .i64 0, .int .i64 0] 76))) := by
    have hx := Blk.six_new (w.alloc (.cells #[.int .i64 0, .int .i64 0] 32)) (.int .i64 0) (.int .i64 0) (.int .i64 0) (.int .i64 0) (.int .i64 0) (.int .i64 0) 76
    rw [show (w.alloc (.cells #[.int .i64 0, .int .i64 0] 32)).heap.size = w.heap.size + 1 by simp] at hx
    exact ⟨h.below (below_alloc2 _ _ _), (Blk.two_new w _ _ _).alloc _, hx, below_alloc2 _ _ _⟩
  have FT := Lib.hid (fun cs W (h : RC w A n l cs W) => h.2.1.two)
  have PUT := Lib.hid (fun cs W (h : RC w A n l cs W) (a b : Int) => h.put a b)
  have FC := Lib.hid (fun x0 x1 x2 x3 x4 x5 W (h : RC w A n l [.int .i64 x0, .int .i64 x1, .int .i64 x2, .int .i64 x3, .int .i64 x4, .int .i64 x5] W) => h.2.2.1.six)
  have FF := Lib.hid (fun cs i W (h : RC w A n l cs W) => h.2.2.1.free i)
  have LZ := Lib.hid (fun W (hW : Bs W A n l) (hl : n = 13) => hW.at_ (k := 12) (by omega))
  clear h
  go_enter Tryz.func19, Tryz.ntmps19
  go_wp2_with fail
  generalize ((w.alloc (.cells #[.int .i64 0, .int .i64 0] 32)).alloc (.cells #[.int .i64 0, .int .i64 0, .int .i64 0, .int .i64 0, .int .i64 0, .int .i64 0] 76)) = W0 at *
  refine (HY.out _ P0.out.1).mono ?_
  rintro e w' ⟨rfl, rfl⟩
  rw [if_neg (by decide)] at fy
  unfold cv at RG SY
  generalize yrS 23 l = Y at *
  generalize dgs l 0 2 0 = X at *
  have ff := FF.out _ 0 _ P0.out
  obtain ⟨k0, k1, k2, k3, k4, k5⟩ := FC.out _ _ _ _ _ _ _ P0.out
  have P1n := P0.out.set (six_noB 0 0 0 0 0 0) 0 (.int .i64 X)
  go_upto_region 10 with (fail)
  generalize W0.setCell ⟨w.heap.size + 1, 0, none⟩ (.int .i64 X) = W1 at *
  have P1 : Hid (RC w A n l [.int .i64 X, .int .i64 0, .int .i64 0, .int .i64 0, .int .i64 0, .int .i64 0] W1) := P1n
  clear ff k0 k1 k2 k3 k4 k5 P1n P0
  have ff := FF.out _ 0 _ P1.out
  obtain ⟨k0, k1, k2, k3, k4, k5⟩ := FC.out _ _ _ _ _ _ _ P1.out
  by_cases hX : X < 0
  · have fy3 : Y = -1 := by rw [fy, if_pos hX]
    have hXm : X = -1 := by omega
    have e0 : decide (0 ≤ X) = false := by simp; omega
    have e0' : decide (X ≥ 0) = false := by simp; omega
    rw [← fy3] at hXm
    subst hXm
    clear fy3 fy hX
    go_upto_region 14 with (fail)
    clear k0 k1 k2 k3 k4 k5 ff e0 e0'
    go_wp2_with fail
    refine (H1.out _ P1.out.1).mono ?_
    rintro e w' ⟨rfl, rfl⟩
    have ff := FF.out _ 1 _ P1.out
    obtain ⟨k0, k1, k2, k3, k4, k5⟩ := FC.out _ _ _ _ _ _ _ P1.out
    have P2n := P1.out.set (six_noB X 0 0 0 0 0) 1 (.int .i64 M)
    go_upto_region 15 with (fail)
    generalize W1.setCell ⟨w.heap.size + 1, 1, none⟩ (.int .i64 M) = W2 at *
    have P2 : Hid (RC w A n l [.int .i64 X, .int .i64 M, .int .i64 0, .int .i64 0, .int .i64 0, .int .i64 0] W2) := P2n
    clear ff k0 k1 k2 k3 k4 k5 P2n P1
    go_wp2_with fail
    refine (H2.out _ P2.out.1).mono ?_
    rintro e w' ⟨rfl, rfl⟩
    have ff := FF.out _ 2 _ P2.out
    obtain ⟨k0, k1, k2, k3, k4, k5⟩ := FC.out _ _ _ _ _ _ _ P2.out
    have P3n := P2.out.set (six_noB X M 0 0 0 0) 2 (.int .i64 D)
    go_upto_region 16 with (fail)
    generalize W2.setCell ⟨w.heap.size + 1, 2, none⟩ (.int .i64 D) = W3 at *
    have P3 : Hid (RC w A n l [.int .i64 X, .int .i64 M, .int .i64 D, .int .i64 0, .int .i64 0, .int .i64 0] W3) := P3n
    clear ff k0 k1 k2 k3 k4 k5 P3n P2
    go_wp2_with fail
    refine (H3.out _ P3.out.1).mono ?_
    rintro e w' ⟨rfl, rfl⟩
    have ff := FF.out _ 3 _ P3.out
    obtain ⟨k0, k1, k2, k3, k4, k5⟩ := FC.out _ _ _ _ _ _ _ P3.out
    have P4n := P3.out.set (six_noB X M D 0 0 0) 3 (.int .i64 a)
    go_upto_region 17 with (fail)
    generalize W3.setCell ⟨w.heap.size + 1, 3, none⟩ (.int .i64 a) = W4 at *
    have P4 : Hid (RC w A n l [.int .i64 X, .int .i64 M, .int .i64 D, .int .i64 a, .int .i64 0, .int .i64 0] W4) := P4n
    clear ff k0 k1 k2 k3 k4 k5 P4n P3
    go_wp2_with fail
    refine (H4.out _ P4.out.1).mono ?_
    rintro e w' ⟨rfl, rfl⟩
    have ff := FF.out _ 4 _ P4.out
    obtain ⟨k0, k1, k2, k3, k4, k5⟩ := FC.out _ _ _ _ _ _ _ P4.out
    have P5n := P4.out.set (six_noB X M D a 0 0) 4 (.int .i64 b)
    go_upto_region 18 with (fail)
    generalize W4.setCell ⟨w.heap.size + 1, 4, none⟩ (.int .i64 b) = W5 at *
    have P5 : Hid (RC w A n l [.int .i64 X, .int .i64 M, .int .i64 D, .int .i64 a, .int .i64 b, .int .i64 0] W5) := P5n
    clear ff k0 k1 k2 k3 k4 k5 P5n P4
    go_wp2_with fail
    refine (H5.out _ P5.out.1).mono ?_
    rintro e w' ⟨rfl, rfl⟩
    have ff := FF.out _ 5 _ P5.out
    obtain ⟨k0, k1, k2, k3, k4, k5⟩ := FC.out _ _ _ _ _ _ _ P5.out
    have P6n := P5.out.set (six_noB X M D a b 0) 5 (.int .i64 s)
    go_upto_region 19 with (fail)
    generalize W5.setCell ⟨w.heap.size + 1, 5, none⟩ (.int .i64 s) = W6 at *
    have P6 : Hid (RC w A n l [.int .i64 X, .int .i64 M, .int .i64 D, .int .i64 a, .int .i64 b, .int .i64 s] W6) := P6n
    clear ff k0 k1 k2 k3 k4 k5 P6n P5
    obtain ⟨c0, c1, c2, c3, c4, c5⟩ := FC.out _ _ _ _ _ _ _ P6.out
    obtain ⟨z0, z1, g0, g1⟩ := FT.out _ _ P6.out
    by_cases hL : n = 13
    rotate_left
    · have E : Hid (prsV 23 l = (0, 0, 6)) := HR.out.trans (if_neg (fun x => hL (by have := hlen.out; omega)))
      have e1 : ((n : Int) == 13) = false := by simp; omega
      have e1n : ((n : Int) != 13) = true := by simp; omega
      obtain ⟨pb, pB⟩ := PUT.out _ _ P6.out 0 0
      have PB := Lib.hid pB
      obtain ⟨t0, t1, _, _⟩ := pb.two
      clear pb pB
      clear hL
      go_wp2
      rw [E.out]
      refine bodyPost_ret (v := .tuple #[.agg #[.int .i64 0, .int .i64 0], .int .i64 6]) (by simp [results, Tryz.results19, go_sem, t0, t1]) rfl ?_
      exact ⟨rfl, PB.out⟩
    have e1 : ((n : Int) == 13) = true := by simp; omega
    have e1n : ((n : Int) != 13) = false := by simp; omega
    have i1 : (12 : Int) < (n : Int) := by omega
    obtain ⟨zb, zo, rfl, hz⟩ := LZ.out _ P6.out.1 hL
    by_cases hZ : nth l 12 = 90
    rotate_left
    · have E : Hid (prsV 23 l = (0, 0, 6)) := HR.out.trans (if_neg (fun x => hZ x.2.1))
      have e2 : (nth l 12 == 90) = false := by simpa using hZ
      have e2n : (nth l 12 != 90) = true := by simpa using hZ
      obtain ⟨pb, pB⟩ := PUT.out _ _ P6.out 0 0
      have PB := Lib.hid pB
      obtain ⟨t0, t1, _, _⟩ := pb.two
      clear pb pB
      generalize nth l 12 = Z at *
      clear hZ hL HR
      go_wp2
      rw [E.out]
      refine bodyPost_ret (v := .tuple #[.agg #[.int .i64 0, .int .i64 0], .int .i64 6]) (by simp [results, Tryz.results19, go_sem, t0, t1]) rfl ?_
      exact ⟨rfl, PB.out⟩
    have e2 : (nth l 12 == 90) = true := by simpa using hZ
    have e2n : (nth l 12 != 90) = false := by simp [hZ]
    have HR2 : Hid (prsV 23 l = if RgtC X M D a b s then (23, sec X M D a b s, 0) else (0, 0, 6)) := by
      have hx := HR.out; have hll := hlen.out
      have e3 : (l.length = 13 ∧ nth l 12 = 90 ∧ RgtC X M D a b s) ↔ RgtC X M D a b s := ⟨fun x => x.2.2, fun x => ⟨by omega, hZ, x⟩⟩
      unfold Hid; rw [hx]
      by_cases g : RgtC X M D a b s
      · rw [if_pos g, if_pos (e3.2 g)]
      · rw [if_neg g, if_neg (fun x => g (e3.1 x))]
    generalize nth l 12 = Z at *
    clear hZ hL HR
    go_wp2_with fail
    refine (RG.out _).mono ?_
    rintro e w8 ⟨rfl, hB8⟩
    have P8 := Lib.hid (P6.out.below hB8)
    clear hB8 c0 c1 c2 c3 c4 c5 z0 z1 g0 g1 hz
    obtain ⟨c0, c1, c2, c3, c4, c5⟩ := FC.out _ _ _ _ _ _ _ P8.out
    obtain ⟨z0, z1, g0, g1⟩ := FT.out _ _ P8.out
    by_cases hG : RgtC X M D a b s
    rotate_left
    · have E : Hid (prsV 23 l = (0, 0, 6)) := HR2.out.trans (if_neg hG)
      have e4 : decide (RgtC X M D a b s) = false := by simpa using hG
      rw [e4]
      obtain ⟨pb, pB⟩ := PUT.out _ _ P8.out 0 0
      have PB := Lib.hid pB
      obtain ⟨t0, t1, _, _⟩ := pb.two
      clear pb pB
      clear hG HR2 e4
      go_wp2
      rw [E.out]
      refine bodyPost_ret (v := .tuple #[.agg #[.int .i64 0, .int .i64 0], .int .i64 6]) (by simp [results, Tryz.results19, go_sem, t0, t1]) rfl ?_
      exact ⟨rfl, PB.out⟩
    have E : Hid (prsV 23 l = (23, sec X M D a b s, 0)) := HR2.out.trans (if_pos hG)
    have e4 : decide (RgtC X M D a b s) = true := by simpa using hG
    rw [e4]
    have SY2 := Lib.hid (fun W => SY.out W hG)
    generalize sec X M D a b s = V at *
    clear hG HR2 e4 SY
    go_wp2_with fail
    refine (SY2.out _).mono ?_
    rintro e w9 ⟨rfl, hB9⟩
    have P9 := Lib.hid (P8.out.below hB9)
    clear hB9 c0 c1 c2 c3 c4 c5 z0 z1 g0 g1
    obtain ⟨z0, z1, g0, g1⟩ := FT.out _ _ P9.out
    obtain ⟨pb, pB⟩ := PUT.out _ _ P9.out 23 V
    have PB := Lib.hid pB
    obtain ⟨t0, t1, _, _⟩ := pb.two
    clear pb pB
    go_wp2
    rw [E.out]
    refine bodyPost_ret (v := .tuple #[.agg #[.int .i64 23, .int .i64 V], .int .i64 0]) (by simp [results, Tryz.results19, go_sem, t0, t1]) rfl ?_
    exact ⟨rfl, PB.out⟩
  have e0 : decide (0 ≤ X) = true := by simp; omega
  have e0' : decide (X ≥ 0) = true := by simp; omega
  rw [if_neg hX] at fy
  clear hX
  have P1x := Lib.hid (P1.out.set (six_noB X 0 0 0 0 0) 0 (.int .i64 (X + 1900)))
  have P1y := Lib.hid (P1x.out.set (six_noB (X + 1900) 0 0 0 0 0) 0 (.int .i64 (X + 1900 + 100)))
  by_cases hX2 : X + 1900 < 1950
  · rw [if_pos hX2] at fy
    have e2 : decide (X + 1900 < 1950) = true := by simpa using hX2
    have P1z : RC w A n l [.int .i64 Y, .int .i64 0, .int .i64 0, .int .i64 0, .int .i64 0, .int .i64 0] ((W1.setCell ⟨w.heap.size + 1, 0, none⟩ (.int .i64 (X + 1900))).setCell ⟨w.heap.size + 1, 0, none⟩ (.int .i64 (X + 1900 + 100))) := by rw [fy]; exact P1y.out
    have x1 := (P1x.out.2.2.1.cell 0)
    have ff1 := (P1x.out.2.2.1.free 0)
    simp only [List.set_cons_zero, List.getElem?_cons_zero] at x1
    clear hX2 fy
    go_upto_region 14 with (fail)
    generalize ((W1.setCell ⟨w.heap.size + 1, 0, none⟩ (.int .i64 (X + 1900))).setCell ⟨w.heap.size + 1, 0, none⟩ (.int .i64 (X + 1900 + 100))) = W1b at *
    have P1w := Lib.hid P1z
    clear P1z P1x P1y k0 k1 k2 k3 k4 k5 ff e0 e0' e2 x1 ff1 P1
    go_wp2_with fail
    refine (H1.out _ P1w.out.1).mono ?_
    rintro e w' ⟨rfl, rfl⟩
    have ff := FF.out _ 1 _ P1w.out
    obtain ⟨k0, k1, k2, k3, k4, k5⟩ := FC.out _ _ _ _ _ _ _ P1w.out
    have P2n := P1w.out.set (six_noB Y 0 0 0 0 0) 1 (.int .i64 M)
    go_upto_region 15 with (fail)
    generalize W1b.setCell ⟨w.heap.size + 1, 1, none⟩ (.int .i64 M) = W2 at *
    have P2 : Hid (RC w A n l [.int .i64 Y, .int .i64 M, .int .i64 0, .int .i64 0, .int .i64 0, .int .i64 0] W2) := P2n
    clear ff k0 k1 k2 k3 k4 k5 P2n P1w
    go_wp2_with fail
    refine (H2.out _ P2.out.1).mono ?_
    rintro e w' ⟨rfl, rfl⟩
    have ff := FF.out _ 2 _ P2.out
    obtain ⟨k0, k1, k2, k3, k4, k5⟩ := FC.out _ _ _ _ _ _ _ P2.out
    have P3n := P2.out.set (six_noB Y M 0 0 0 0) 2 (.int .i64 D)
    go_upto_region 16 with (fail)
    generalize W2.setCell ⟨w.heap.size + 1, 2, none⟩ (.int .i64 D) = W3 at *
    have P3 : Hid (RC w A n l [.int .i64 Y, .int .i64 M, .int .i64 D, .int .i64 0, .int .i64 0, .int .i64 0] W3) := P3n
    clear ff k0 k1 k2 k3 k4 k5 P3n P2
    go_wp2_with fail
    refine (H3.out _ P3.out.1).mono ?_
    rintro e w' ⟨rfl, rfl⟩
    have ff := FF.out _ 3 _ P3.out
    obtain ⟨k0, k1, k2, k3, k4, k5⟩ := FC.out _ _ _ _ _ _ _ P3.out
    have P4n := P3.out.set (six_noB Y M D 0 0 0) 3 (.int .i64 a)
    go_upto_region 17 with (fail)
    generalize W3.setCell ⟨w.heap.size + 1, 3, none⟩ (.int .i64 a) = W4 at *
    have P4 : Hid (RC w A n l [.int .i64 Y, .int .i64 M, .int .i64 D, .int .i64 a, .int .i64 0, .int .i64 0] W4) := P4n
    clear ff k0 k1 k2 k3 k4 k5 P4n P3
    go_wp2_with fail
    refine (H4.out _ P4.out.1).mono ?_
    rintro e w' ⟨rfl, rfl⟩
    have ff := FF.out _ 4 _ P4.out
    obtain ⟨k0, k1, k2, k3, k4, k5⟩ := FC.out _ _ _ _ _ _ _ P4.out
    have P5n := P4.out.set (six_noB Y M D a 0 0) 4 (.int .i64 b)
    go_upto_region 18 with (fail)
    generalize W4.setCell ⟨w.heap.size + 1, 4, none⟩ (.int .i64 b) = W5 at *
    have P5 : Hid (RC w A n l [.int .i64 Y, .int .i64 M, .int .i64 D, .int .i64 a, .int .i64 b, .int .i64 0] W5) := P5n
    clear ff k0 k1 k2 k3 k4 k5 P5n P4
    go_wp2_with fail
    refine (H5.out _ P5.out.1).mono ?_
    rintro e w' ⟨rfl, rfl⟩
    have ff := FF.out _ 5 _ P5.out
    obtain ⟨k0, k1, k2, k3, k4, k5⟩ := FC.out _ _ _ _ _ _ _ P5.out
    have P6n := P5.out.set (six_noB Y M D a b 0) 5 (.int .i64 s)
    go_upto_region 19 with (fail)
    generalize W5.setCell ⟨w.heap.size + 1, 5, none⟩ (.int .i64 s) = W6 at *
    have P6 : Hid (RC w A n l [.int .i64 Y, .int .i64 M, .int .i64 D, .int .i64 a, .int .i64 b, .int .i64 s] W6) := P6n
    clear ff k0 k1 k2 k3 k4 k5 P6n P5
    obtain ⟨c0, c1, c2, c3, c4, c5⟩ := FC.out _ _ _ _ _ _ _ P6.out
    obtain ⟨z0, z1, g0, g1⟩ := FT.out _ _ P6.out
    by_cases hL : n = 13
    rotate_left
    · have E : Hid (prsV 23 l = (0, 0, 6)) := HR.out.trans (if_neg (fun x => hL (by have := hlen.out; omega)))
      have e1 : ((n : Int) == 13) = false := by simp; omega
      have e1n : ((n : Int) != 13) = true := by simp; omega
      obtain ⟨pb, pB⟩ := PUT.out _ _ P6.out 0 0
      have PB := Lib.hid pB
      obtain ⟨t0, t1, _, _⟩ := pb.two
      clear pb pB
      clear hL
      go_wp2
      rw [E.out]
      refine bodyPost_ret (v := .tuple #[.agg #[.int .i64 0, .int .i64 0], .int .i64 6]) (by simp [results, Tryz.results19, go_sem, t0, t1]) rfl ?_
      exact ⟨rfl, PB.out⟩
    have e1 : ((n : Int) == 13) = true := by simp; omega
    have e1n : ((n : Int) != 13) = false := by simp; omega
    have i1 : (12 : Int) < (n : Int) := by omega
    obtain ⟨zb, zo, rfl, hz⟩ := LZ.out _ P6.out.1 hL
    by_cases hZ : nth l 12 = 90
    rotate_left
    · have E : Hid (prsV 23 l = (0, 0, 6)) := HR.out.trans (if_neg (fun x => hZ x.2.1))
      have e2 : (nth l 12 == 90) = false := by simpa using hZ
      have e2n : (nth l 12 != 90) = true := by simpa using hZ
      obtain ⟨pb, pB⟩ := PUT.out _ _ P6.out 0 0
      have PB := Lib.hid pB
      obtain ⟨t0, t1, _, _⟩ := pb.two
      clear pb pB
      generalize nth l 12 = Z at *
      clear hZ hL HR
      go_wp2
      rw [E.out]
      refine bodyPost_ret (v := .tuple #[.agg #[.int .i64 0, .int .i64 0], .int .i64 6]) (by simp [results, Tryz.results19, go_sem, t0, t1]) rfl ?_
      exact ⟨rfl, PB.out⟩
    have e2 : (nth l 12 == 90) = true := by simpa using hZ
    have e2n : (nth l 12 != 90) = false := by simp [hZ]
    have HR2 : Hid (prsV 23 l = if RgtC Y M D a b s then (23, sec Y M D a b s, 0) else (0, 0, 6)) := by
      have hx := HR.out; have hll := hlen.out
      have e3 : (l.length = 13 ∧ nth l 12 = 90 ∧ RgtC Y M D a b s) ↔ RgtC Y M D a b s := ⟨fun x => x.2.2, fun x => ⟨by omega, hZ, x⟩⟩
      unfold Hid; rw [hx]
      by_cases g : RgtC Y M D a b s
      · rw [if_pos g, if_pos (e3.2 g)]
      · rw [if_neg g, if_neg (fun x => g (e3.1 x))]
    generalize nth l 12 = Z at *
    clear hZ hL HR
    go_wp2_with fail
    refine (RG.out _).mono ?_
    rintro e w8 ⟨rfl, hB8⟩
    have P8 := Lib.hid (P6.out.below hB8)
    clear hB8 c0 c1 c2 c3 c4 c5 z0 z1 g0 g1 hz
    obtain ⟨c0, c1, c2, c3, c4, c5⟩ := FC.out _ _ _ _ _ _ _ P8.out
    obtain ⟨z0, z1, g0, g1⟩ := FT.out _ _ P8.out
    by_cases hG : RgtC Y M D a b s
    rotate_left
    · have E : Hid (prsV 23 l = (0, 0, 6)) := HR2.out.trans (if_neg hG)
      have e4 : decide (RgtC Y M D a b s) = false := by simpa using hG
      rw [e4]
      obtain ⟨pb, pB⟩ := PUT.out _ _ P8.out 0 0
      have PB := Lib.hid pB
      obtain ⟨t0, t1, _, _⟩ := pb.two
      clear pb pB
      clear hG HR2 e4
      go_wp2
      rw [E.out]
      refine bodyPost_ret (v := .tuple #[.agg #[.int .i64 0, .int .i64 0], .int .i64 6]) (by simp [results, Tryz.results19, go_sem, t0, t1]) rfl ?_
      exact ⟨rfl, PB.out⟩
    have E : Hid (prsV 23 l = (23, sec Y M D a b s, 0)) := HR2.out.trans (if_pos hG)
    have e4 : decide (RgtC Y M D a b s) = true := by simpa using hG
    rw [e4]
    have SY2 := Lib.hid (fun W => SY.out W hG)
    generalize sec Y M D a b s = V at *
    clear hG HR2 e4 SY
    go_wp2_with fail
    refine (SY2.out _).mono ?_
    rintro e w9 ⟨rfl, hB9⟩
    have P9 := Lib.hid (P8.out.below hB9)
    clear hB9 c0 c1 c2 c3 c4 c5 z0 z1 g0 g1
    obtain ⟨z0, z1, g0, g1⟩ := FT.out _ _ P9.out
    obtain ⟨pb, pB⟩ := PUT.out _ _ P9.out 23 V
    have PB := Lib.hid pB
    obtain ⟨t0, t1, _, _⟩ := pb.two
    clear pb pB
    go_wp2
    rw [E.out]
    refine bodyPost_ret (v := .tuple #[.agg #[.int .i64 23, .int .i64 V], .int .i64 0]) (by simp [results, Tryz.results19, go_sem, t0, t1]) rfl ?_
    exact ⟨rfl, PB.out⟩
  · rw [if_neg hX2] at fy
    have e2 : decide (X + 1900 < 1950) = false := by simpa using hX2
    have P1z : RC w A n l [.int .i64 Y, .int .i64 0, .int .i64 0, .int .i64 0, .int .i64 0, .int .i64 0] (W1.setCell ⟨w.heap.size + 1, 0, none⟩ (.int .i64 (X + 1900))) := by rw [fy]; exact P1x.out
    have x1 := (P1x.out.2.2.1.cell 0)
    have ff1 := (P1x.out.2.2.1.free 0)
    simp only [List.set_cons_zero, List.getElem?_cons_zero] at x1
    clear hX2 fy
    go_upto_region 14 with (fail)
    generalize (W1.setCell ⟨w.heap.size + 1, 0, none⟩ (.int .i64 (X + 1900))) = W1b at *
    have P1w := Lib.hid P1z
    clear P1z P1x P1y k0 k1 k2 k3 k4 k5 ff e0 e0' e2 x1 ff1 P1
    go_wp2_with fail
    refine (H1.out _ P1w.out.1).mono ?_
    rintro e w' ⟨rfl, rfl⟩
    have ff := FF.out _ 1 _ P1w.out
    obtain ⟨k0, k1, k2, k3, k4, k5⟩ := FC.out _ _ _ _ _ _ _ P1w.out
    have P2n := P1w.out.set (six_noB Y 0 0 0 0 0) 1 (.int .i64 M)
    go_upto_region 15 with (fail)
    generalize W1b.setCell ⟨w.heap.size + 1, 1, none⟩ (.int .i64 M) = W2 at *
    have P2 : Hid (RC w A n l [.int .i64 Y, .int .i64 M, .int .i64 0, .int .i64 0, .int .i64 0, .int .i64 0] W2) := P2n
    clear ff k0 k1 k2 k3 k4 k5 P2n P1w
    go_wp2_with fail
    refine (H2.out _ P2.out.1).mono ?_
    rintro e w' ⟨rfl, rfl⟩
    have ff := FF.out _ 2 _ P2.out
    obtain ⟨k0, k1, k2, k3, k4, k5⟩ := FC.out _ _ _ _ _ _ _ P2.out
    have P3n := P2.out.set (six_noB Y M 0 0 0 0) 2 (.int .i64 D)
    go_upto_region 16 with (fail)
    generalize W2.setCell ⟨w.heap.size + 1, 2, none⟩ (.int .i64 D) = W3 at *
    have P3 : Hid (RC w A n l [.int .i64 Y, .int .i64 M, .int .i64 D, .int .i64 0, .int .i64 0, .int .i64 0] W3) := P3n
    clear ff k0 k1 k2 k3 k4 k5 P3n P2
    go_wp2_with fail
    refine (H3.out _ P3.out.1).mono ?_
    rintro e w' ⟨rfl, rfl⟩
    have ff := FF.out _ 3 _ P3.out
    obtain ⟨k0, k1, k2, k3, k4, k5⟩ := FC.out _ _ _ _ _ _ _ P3.out
    have P4n := P3.out.set (six_noB Y M D 0 0 0) 3 (.int .i64 a)
    go_upto_region 17 with (fail)
    generalize W3.setCell ⟨w.heap.size + 1, 3, none⟩ (.int .i64 a) = W4 at *
    have P4 : Hid (RC w A n l [.int .i64 Y, .int .i64 M, .int .i64 D, .int .i64 a, .int .i64 0, .int .i64 0] W4) := P4n
    clear ff k0 k1 k2 k3 k4 k5 P4n P3
    go_wp2_with fail
    refine (H4.out _ P4.out.1).mono ?_
    rintro e w' ⟨rfl, rfl⟩
    have ff := FF.out _ 4 _ P4.out
    obtain ⟨k0, k1, k2, k3, k4, k5⟩ := FC.out _ _ _ _ _ _ _ P4.out
    have P5n := P4.out.set (six_noB Y M D a 0 0) 4 (.int .i64 b)
    go_upto_region 18 with (fail)
    generalize W4.setCell ⟨w.heap.size + 1, 4, none⟩ (.int .i64 b) = W5 at *
    have P5 : Hid (RC w A n l [.int .i64 Y, .int .i64 M, .int .i64 D, .int .i64 a, .int .i64 b, .int .i64 0] W5) := P5n
    clear ff k0 k1 k2 k3 k4 k5 P5n P4
    go_wp2_with fail
    refine (H5.out _ P5.out.1).mono ?_
    rintro e w' ⟨rfl, rfl⟩
    have ff := FF.out _ 5 _ P5.out
    obtain ⟨k0, k1, k2, k3, k4, k5⟩ := FC.out _ _ _ _ _ _ _ P5.out
    have P6n := P5.out.set (six_noB Y M D a b 0) 5 (.int .i64 s)
    go_upto_region 19 with (fail)
    generalize W5.setCell ⟨w.heap.size + 1, 5, none⟩ (.int .i64 s) = W6 at *
    have P6 : Hid (RC w A n l [.int .i64 Y, .int .i64 M, .int .i64 D, .int .i64 a, .int .i64 b, .int .i64 s] W6) := P6n
    clear ff k0 k1 k2 k3 k4 k5 P6n P5
    obtain ⟨c0, c1, c2, c3, c4, c5⟩ := FC.out _ _ _ _ _ _ _ P6.out
    obtain ⟨z0, z1, g0, g1⟩ := FT.out _ _ P6.out
    by_cases hL : n = 13
    rotate_left
    · have E : Hid (prsV 23 l = (0, 0, 6)) := HR.out.trans (if_neg (fun x => hL (by have := hlen.out; omega)))
      have e1 : ((n : Int) == 13) = false := by simp; omega
      have e1n : ((n : Int) != 13) = true := by simp; omega
      obtain ⟨pb, pB⟩ := PUT.out _ _ P6.out 0 0
      have PB := Lib.hid pB
      obtain ⟨t0, t1, _, _⟩ := pb.two
      clear pb pB
      clear hL
      go_wp2
      rw [E.out]
      refine bodyPost_ret (v := .tuple #[.agg #[.int .i64 0, .int .i64 0], .int .i64 6]) (by simp [results, Tryz.results19, go_sem, t0, t1]) rfl ?_
      exact ⟨rfl, PB.out⟩
    have e1 : ((n : Int) == 13) = true := by simp; omega
    have e1n : ((n : Int) != 13) = false := by simp; omega
    have i1 : (12 : Int) < (n : Int) := by omega
    obtain ⟨zb, zo, rfl, hz⟩ := LZ.out _ P6.out.1 hL
    by_cases hZ : nth l 12 = 90
    rotate_left
    · have E : Hid (prsV 23 l = (0, 0, 6)) := HR.out.trans (if_neg (fun x => hZ x.2.1))
      have e2 : (nth l 12 == 90) = false := by simpa using hZ
      have e2n : (nth l 12 != 90) = true := by simpa using hZ
      obtain ⟨pb, pB⟩ := PUT.out _ _ P6.out 0 0
      have PB := Lib.hid pB
      obtain ⟨t0, t1, _, _⟩ := pb.two
      clear pb pB
      generalize nth l 12 = Z at *
      clear hZ hL HR
      go_wp2
      rw [E.out]
      refine bodyPost_ret (v := .tuple #[.agg #[.int .i64 0, .int .i64 0], .int .i64 6]) (by simp [results, Tryz.results19, go_sem, t0, t1]) rfl ?_
      exact ⟨rfl, PB.out⟩
    have e2 : (nth l 12 == 90) = true := by simpa using hZ
    have e2n : (nth l 12 != 90) = false := by simp [hZ]
    have HR2 : Hid (prsV 23 l = if RgtC Y M D a b s then (23, sec Y M D a b s, 0) else (0, 0, 6)) := by
      have hx := HR.out; have hll := hlen.out
      have e3 : (l.length = 13 ∧ nth l 12 = 90 ∧ RgtC Y M D a b s) ↔ RgtC Y M D a b s := ⟨fun x => x.2.2, fun x => ⟨by omega, hZ, x⟩⟩
      unfold Hid; rw [hx]
      by_cases g : RgtC Y M D a b s
      · rw [if_pos g, if_pos (e3.2 g)]
      · rw [if_neg g, if_neg (fun x => g (e3.1 x))]
    generalize nth l 12 = Z at *
    clear hZ hL HR
    go_wp2_with fail
    refine (RG.out _).mono ?_
    rintro e w8 ⟨rfl, hB8⟩
    have P8 := Lib.hid (P6.out.below hB8)
    clear hB8 c0 c1 c2 c3 c4 c5 z0 z1 g0 g1 hz
    obtain ⟨c0, c1, c2, c3, c4, c5⟩ := FC.out _ _ _ _ _ _ _ P8.out
    obtain ⟨z0, z1, g0, g1⟩ := FT.out _ _ P8.out
    by_cases hG : RgtC Y M D a b s
    rotate_left
    · have E : Hid (prsV 23 l = (0, 0, 6)) := HR2.out.trans (if_neg hG)
      have e4 : decide (RgtC Y M D a b s) = false := by simpa using hG
      rw [e4]
      obtain ⟨pb, pB⟩ := PUT.out _ _ P8.out 0 0
      have PB := Lib.hid pB
      obtain ⟨t0, t1, _, _⟩ := pb.two
      clear pb pB
      clear hG HR2 e4
      go_wp2
      rw [E.out]
      refine bodyPost_ret (v := .tuple #[.agg #[.int .i64 0, .int .i64 0], .int .i64 6]) (by simp [results, Tryz.results19, go_sem, t0, t1]) rfl ?_
      exact ⟨rfl, PB.out⟩
    have E : Hid (prsV 23 l = (23, sec Y M D a b s, 0)) := HR2.out.trans (if_pos hG)
    have e4 : decide (RgtC Y M D a b s) = true := by simpa using hG
    rw [e4]
    have SY2 := Lib.hid (fun W => SY.out W hG)
    generalize sec Y M D a b s = V at *
    clear hG HR2 e4 SY
    go_wp2_with fail
    refine (SY2.out _).mono ?_
    rintro e w9 ⟨rfl, hB9⟩
    have P9 := Lib.hid (P8.out.below hB9)
    clear hB9 c0 c1 c2 c3 c4 c5 z0 z1 g0 g1
    obtain ⟨z0, z1, g0, g1⟩ := FT.out _ _ P9.out
    obtain ⟨pb, pB⟩ := PUT.out _ _ P9.out 23 V
    have PB := Lib.hid pB
    obtain ⟨t0, t1, _, _⟩ := pb.two
    clear pb pB
    go_wp2
    rw [E.out]
    refine bodyPost_ret (v := .tuple #[.agg #[.int .i64 23, .int .i64 V], .int .i64 0]) (by simp [results, Tryz.results19, go_sem, t0, t1]) rfl ?_
    exact ⟨rfl, PB.out⟩

set_option maxHeartbeats 12800000 in
theorem rfParse24 (A : Option Addr) (n c : Nat) (l : List UInt8) (w : World) (h : Bs w A n l) (hn : n ≤ 1099511627776) :
    Calls Tryz.prog 19 #[.int .i64 24, .slice A n c] w fun e w' => e = prsE (prsV 24 l) ∧ Below w.heap.size w w' := by
  have hlen := Lib.hid h.len
  have HY := Lib.hid (fun W (hW : Bs W A n l) => rfDigits A n c 0 4 0 4 l W hW (by omega) (by omega) rfl rfl hn)
  have H1 := Lib.hid (fun W (hW : Bs W A n l) => rfDigits A n c 4 2 4 2 l W hW (by omega) (by omega) rfl rfl hn)
  have H2 := Lib.hid (fun W (hW : Bs W A n l) => rfDigits A n c 6 2 6 2 l W hW (by omega) (by omega) rfl rfl hn)
  have H3 := Lib.hid (fun W (hW : Bs W A n l) => rfDigits A n c 8 2 8 2 l W hW (by omega) (by omega) rfl rfl hn)
  have H4 := Lib.hid (fun W (hW : Bs W A n l) => rfDigits A n c 10 2 10 2 l W hW (by omega) (by omega) rfl rfl hn)
  have H5 := Lib.hid (fun W (hW : Bs W A n l) => rfDigits A n c 12 2 12 2 l W hW (by omega) (by omega) rfl rfl hn)
  have ry := yrS_range 24 l
  have fy := rf_year 24 l (by omega)
  have r1 := dgs_two_range l 4
  have q1 := dgs_two l 4
  have r2 := dgs_two_range l 6
  have q2 := dgs_two l 6
  have r3 := dgs_two_range l 8
  have q3 := dgs_two l 8
  have r4 := dgs_two_range l 10
  have q4 := dgs_two l 10
  have r5 := dgs_two_range l 12
  have q5 := dgs_two l 12
  have hPC : PrsC 24 l ↔ (l.length = 15 ∧ nth l 14 = 90 ∧ RgtC (yrS 24 l) (dgs l 4 2 0) (dgs l 6 2 0) (dgs l 8 2 0) (dgs l 10 2 0) (dgs l 12 2 0)) := by
    unfold PrsC; rw [q1, q2, q3, q4, q5]; exact Iff.rfl
  have hSC : secC 24 l = sec (yrS 24 l) (dgs l 4 2 0) (dgs l 6 2 0) (dgs l 8 2 0) (dgs l 10 2 0) (dgs l 12 2 0) := by
    unfold secC; rw [q1, q2, q3, q4, q5]; rfl
  have hR : prsV 24 l = if (l.length = 15 ∧ nth l 14 = 90 ∧ RgtC (yrS 24 l) (dgs l 4 2 0) (dgs l 6 2 0) (dgs l 8 2 0) (dgs l 10 2 0) (dgs l 12 2 0)) then (24, sec (yrS 24 l) (dgs l 4 2 0) (dgs l 6 2 0) (dgs l 8 2 0) (dgs l 10 2 0) (dgs l 12 2 0), 0) else (0, 0, 6) := by
    unfold prsV
    rw [if_pos (by omega), hSC]
    by_cases g : PrsC 24 l
    · rw [if_pos g, if_pos (hPC.1 g)]
    · rw [if_neg g, if_neg (fun x => g (hPC.2 x))]
  have RG := Lib.hid (fun W => rf9RightClock (yrS 24 l) (dgs l 4 2 0) (dgs l 6 2 0) (dgs l 8 2 0) (dgs l 10 2 0) (dgs l 12 2 0) W (by unfold I64; omega) (by unfold I64; omega) (by unfold I64; omega))
  have SY := Lib.hid (fun W (hr : RgtC (yrS 24 l) (dgs l 4 2 0) (dgs l 6 2 0) (dgs l 8 2 0) (dgs l 10 2 0) (dgs l 12 2 0)) => rf9Second _ _ _ _ _ _ W hr)
  have HR := Lib.hid hR
  clear hPC hSC hR
  have ry0 := ry
  clear q1
  generalize dgs l 4 2 0 = M at *
  clear q2
  generalize dgs l 6 2 0 = D at *
  clear q3
  generalize dgs l 8 2 0 = a at *
  clear q4
  generalize dgs l 10 2 0 = b at *
  clear q5
  generalize dgs l 12 2 0 = s at *
  have P0 : Hid (RC w A n l [.int .i64 0, .int .i64 0, .int .i64 0, .int .i64 0, .int .i64 0, .int .i64 0] ((w.alloc (.cells #[.int .i64 0, .int .i64 0] 32)).alloc (.cells #[.int .i64 0, .int .i64 0, .int .i64 0, .int .i64 0, .int .i64 0, .int .i64 0] 76))) := by
    have hx := Blk.six_new (w.alloc (.cells #[.int .i64 0, .int .i64 0] 32)) (.int .i64 0) (.int .i64 0) (.int .i64 0) (.int .i64 0) (.int .i64 0) (.int .i64 0) 76
    rw [show (w.alloc (.cells #[.int .i64 0, .int .i64 0] 32)).heap.size = w.heap.size + 1 by simp] at hx
    exact ⟨h.below (below_alloc2 _ _ _), (Blk.two_new w _ _ _).alloc _, hx, below_alloc2 _ _ _⟩
  have FT := Lib.hid (fun cs W (h : RC w A n l cs W) => h.2.1.two)
  have PUT := Lib.hid (fun cs W (h : RC w A n l cs W) (a b : Int) => h.put a b)
  have FC := Lib.hid (fun x0 x1 x2 x3 x4 x5 W (h : RC w A n l [.int .i64 x0, .int .i64 x1, .int .i64 x2, .int .i64 x3, .int .i64 x4, .int .i64 x5] W) => h.2.2.1.six)
  have FF := Lib.hid (fun cs i W (h : RC w A n l cs W) => h.2.2.1.free i)
  have LZ := Lib.hid (fun W (hW : Bs W A n l) (hl : n = 15) => hW.at_ (k := 14) (by omega))
  clear h
  go_enter Tryz.func19, Tryz.ntmps19
  go_wp2_with fail
  generalize ((w.alloc (.cells #[.int .i64 0, .int .i64 0] 32)).alloc (.cells #[.int .i64 0, .int .i64 0, .int .i64 0, .int .i64 0, .int .i64 0, .int .i64 0] 76)) = W0 at *
  refine (HY.out _ P0.out.1).mono ?_
  rintro e w' ⟨rfl, rfl⟩
  have fy2 : dgs l 0 4 0 = yrS 24 l := by rw [fy]; simp
  rw [fy2]
  clear fy fy2
  unfold cv at RG SY
  generalize yrS 24 l = Y at *
  have ff := FF.out _ 0 _ P0.out
  obtain ⟨k0, k1, k2, k3, k4, k5⟩ := FC.out _ _ _ _ _ _ _ P0.out
  have P1n := P0.out.set (six_noB 0 0 0 0 0 0) 0 (.int .i64 Y)
  go_upto_region 10 with (fail)
  generalize W0.setCell ⟨w.heap.size + 1, 0, none⟩ (.int .i64 Y) = W1 at *
  have P1 : Hid (RC w A n l [.int .i64 Y, .int .i64 0, .int .i64 0, .int .i64 0, .int .i64 0, .int .i64 0] W1) := P1n
  clear ff k0 k1 k2 k3 k4 k5 P1n P0
  go_wp2_with fail
  refine (H1.out _ P1.out.1).mono ?_
  rintro e w' ⟨rfl, rfl⟩
  have ff := FF.out _ 1 _ P1.out
  obtain ⟨k0, k1, k2, k3, k4, k5⟩ := FC.out _ _ _ _ _ _ _ P1.out
  have P2n := P1.out.set (six_noB Y 0 0 0 0 0) 1 (.int .i64 M)
  go_upto_region 15 with (fail)
  generalize W1.setCell ⟨w.heap.size + 1, 1, none⟩ (.int .i64 M) = W2 at *
  have P2 : Hid (RC w A n l [.int .i64 Y, .int .i64 M, .int .i64 0, .int .i64 0, .int .i64 0, .int .i64 0] W2) := P2n
  clear ff k0 k1 k2 k3 k4 k5 P2n P1
  go_wp2_with fail
  refine (H2.out _ P2.out.1).mono ?_
  rintro e w' ⟨rfl, rfl⟩
  have ff := FF.out _ 2 _ P2.out
  obtain ⟨k0, k1, k2, k3, k4, k5⟩ := FC.out _ _ _ _ _ _ _ P2.out
  have P3n := P2.out.set (six_noB Y M 0 0 0 0) 2 (.int .i64 D)
  go_upto_region 16 with (fail)
  generalize W2.setCell ⟨w.heap.size + 1, 2, none⟩ (.int .i64 D) = W3 at *
  have P3 : Hid (RC w A n l [.int .i64 Y, .int .i64 M, .int .i64 D, .int .i64 0, .int .i64 0, .int .i64 0] W3) := P3n
  clear ff k0 k1 k2 k3 k4 k5 P3n P2
  go_wp2_with fail
  refine (H3.out _ P3.out.1).mono ?_
  rintro e w' ⟨rfl, rfl⟩
  have ff := FF.out _ 3 _ P3.out
  obtain ⟨k0, k1, k2, k3, k4, k5⟩ := FC.out _ _ _ _ _ _ _ P3.out
  have P4n := P3.out.set (six_noB Y M D 0 0 0) 3 (.int .i64 a)
  go_upto_region 17 with (fail)
  generalize W3.setCell ⟨w.heap.size + 1, 3, none⟩ (.int .i64 a) = W4 at *
  have P4 : Hid (RC w A n l [.int .i64 Y, .int .i64 M, .int .i64 D, .int .i64 a, .int .i64 0, .int .i64 0] W4) := P4n
  clear ff k0 k1 k2 k3 k4 k5 P4n P3
  go_wp2_with fail
  refine (H4.out _ P4.out.1).mono ?_
  rintro e w' ⟨rfl, rfl⟩
  have ff := FF.out _ 4 _ P4.out
  obtain ⟨k0, k1, k2, k3, k4, k5⟩ := FC.out _ _ _ _ _ _ _ P4.out
  have P5n := P4.out.set (six_noB Y M D a 0 0) 4 (.int .i64 b)
  go_upto_region 18 with (fail)
  generalize W4.setCell ⟨w.heap.size + 1, 4, none⟩ (.int .i64 b) = W5 at *
  have P5 : Hid (RC w A n l [.int .i64 Y, .int .i64 M, .int .i64 D, .int .i64 a, .int .i64 b, .int .i64 0] W5) := P5n
  clear ff k0 k1 k2 k3 k4 k5 P5n P4
  go_wp2_with fail
  refine (H5.out _ P5.out.1).mono ?_
  rintro e w' ⟨rfl, rfl⟩
  have ff := FF.out _ 5 _ P5.out
  obtain ⟨k0, k1, k2, k3, k4, k5⟩ := FC.out _ _ _ _ _ _ _ P5.out
  have P6n := P5.out.set (six_noB Y M D a b 0) 5 (.int .i64 s)
  go_upto_region 19 with (fail)
  generalize W5.setCell ⟨w.heap.size + 1, 5, none⟩ (.int .i64 s) = W6 at *
  have P6 : Hid (RC w A n l [.int .i64 Y, .int .i64 M, .int .i64 D, .int .i64 a, .int .i64 b, .int .i64 s] W6) := P6n
  clear ff k0 k1 k2 k3 k4 k5 P6n P5
  obtain ⟨c0, c1, c2, c3, c4, c5⟩ := FC.out _ _ _ _ _ _ _ P6.out
  obtain ⟨z0, z1, g0, g1⟩ := FT.out _ _ P6.out
  by_cases hL : n = 15
  rotate_left
  · have E : Hid (prsV 24 l = (0, 0, 6)) := HR.out.trans (if_neg (fun x => hL (by have := hlen.out; omega)))
    have e1 : ((n : Int) == 15) = false := by simp; omega
    have e1n : ((n : Int) != 15) = true := by simp; omega
    obtain ⟨pb, pB⟩ := PUT.out _ _ P6.out 0 0
    have PB := Lib.hid pB
    obtain ⟨t0, t1, _, _⟩ := pb.two
    clear pb pB
    clear hL
    go_wp2
    rw [E.out]
    refine bodyPost_ret (v := .tuple #[.agg #[.int .i64 0, .int .i64 0], .int .i64 6]) (by simp [results, Tryz.results19, go_sem, t0, t1]) rfl ?_
    exact ⟨rfl, PB.out⟩
  have e1 : ((n : Int) == 15) = true := by simp; omega
  have e1n : ((n : Int) != 15) = false := by simp; omega
  have i1 : (14 : Int) < (n : Int) := by omega
  obtain ⟨zb, zo, rfl, hz⟩ := LZ.out _ P6.out.1 hL
  by_cases hZ : nth l 14 = 90
  rotate_left
  · have E : Hid (prsV 24 l = (0, 0, 6)) := HR.out.trans (if_neg (fun x => hZ x.2.1))
    have e2 : (nth l 14 == 90) = false := by simpa using hZ
    have e2n : (nth l 14 != 90) = true := by simpa using hZ
    obtain ⟨pb, pB⟩ := PUT.out _ _ P6.out 0 0
    have PB := Lib.hid pB
    obtain ⟨t0, t1, _, _⟩ := pb.two
    clear pb pB
    generalize nth l 14 = Z at *
    clear hZ hL HR
    go_wp2
    rw [E.out]
    refine bodyPost_ret (v := .tuple #[.agg #[.int .i64 0, .int .i64 0], .int .i64 6]) (by simp [results, Tryz.results19, go_sem, t0, t1]) rfl ?_
    exact ⟨rfl, PB.out⟩
  have e2 : (nth l 14 == 90) = true := by simpa using hZ
  have e2n : (nth l 14 != 90) = false := by simp [hZ]
  have HR2 : Hid (prsV 24 l = if RgtC Y M D a b s then (24, sec Y M D a b s, 0) else (0, 0, 6)) := by
    have hx := HR.out; have hll := hlen.out
    have e3 : (l.length = 15 ∧ nth l 14 = 90 ∧ RgtC Y M D a b s) ↔ RgtC Y M D a b s := ⟨fun x => x.2.2, fun x => ⟨by omega, hZ, x⟩⟩
    unfold Hid; rw [hx]
    by_cases g : RgtC Y M D a b s
    · rw [if_pos g, if_pos (e3.2 g)]
    · rw [if_neg g, if_neg (fun x => g (e3.1 x))]
  generalize nth l 14 = Z at *
  clear hZ hL HR
  go_wp2_with fail
  refine (RG.out _).mono ?_
  rintro e w8 ⟨rfl, hB8⟩
  have P8 := Lib.hid (P6.out.below hB8)
  clear hB8 c0 c1 c2 c3 c4 c5 z0 z1 g0 g1 hz
  obtain ⟨c0, c1, c2, c3, c4, c5⟩ := FC.out _ _ _ _ _ _ _ P8.out
  obtain ⟨z0, z1, g0, g1⟩ := FT.out _ _ P8.out
  by_cases hG : RgtC Y M D a b s
  rotate_left
  · have E : Hid (prsV 24 l = (0, 0, 6)) := HR2.out.trans (if_neg hG)
    have e4 : decide (RgtC Y M D a b s) = false := by simpa using hG
    rw [e4]
    obtain ⟨pb, pB⟩ := PUT.out _ _ P8.out 0 0
    have PB := Lib.hid pB
    obtain ⟨t0, t1, _, _⟩ := pb.two
    clear pb pB
    clear hG HR2 e4
    go_wp2
    rw [E.out]
    refine bodyPost_ret (v := .tuple #[.agg #[.int .i64 0, .int .i64 0], .int .i64 6]) (by simp [results, Tryz.results19, go_sem, t0, t1]) rfl ?_
    exact ⟨rfl, PB.out⟩
  have E : Hid (prsV 24 l = (24, sec Y M D a b s, 0)) := HR2.out.trans (if_pos hG)
  have e4 : decide (RgtC Y M D a b s) = true := by simpa using hG
  rw [e4]
  have SY2 := Lib.hid (fun W => SY.out W hG)
  generalize sec Y M D a b s = V at *
  clear hG HR2 e4 SY
  go_wp2_with fail
  refine (SY2.out _).mono ?_
  rintro e w9 ⟨rfl, hB9⟩
  have P9 := Lib.hid (P8.out.below hB9)
  clear hB9 c0 c1 c2 c3 c4 c5 z0 z1 g0 g1
  obtain ⟨z0, z1, g0, g1⟩ := FT.out _ _ P9.out
  obtain ⟨pb, pB⟩ := PUT.out _ _ P9.out 24 V
  have PB := Lib.hid pB
  obtain ⟨t0, t1, _, _⟩ := pb.two
  clear pb pB
  go_wp2
  rw [E.out]
  refine bodyPost_ret (v := .tuple #[.agg #[.int .i64 24, .int .i64 V], .int .i64 0]) (by simp [results, Tryz.results19, go_sem, t0, t1]) rfl ?_
  exact ⟨rfl, PB.out⟩

theorem rfParse (k : Int) (A : Option Addr) (n c : Nat) (l : List UInt8) (w : World) (h : Bs w A n l) (hn : n ≤ 1099511627776) :
    Calls Tryz.prog 19 #[.int .i64 k, .slice A n c] w fun e w' => e = prsE (prsV k l) ∧ Below w.heap.size w w' := by
  by_cases h1 : k = 23
  · subst h1; exact rfParse23 A n c l w h hn
  by_cases h2 : k = 24
  · subst h2; exact rfParse24 A n c l w h hn
  have hv : prsV k l = (0, 0, 1) := if_neg (by omega)
  rw [hv]
  exact rfParseNo k A n c l w (by simpa using h1) (by simpa using h2)
end Go.Proofs.YtepbjjhidemaiaaGreat
