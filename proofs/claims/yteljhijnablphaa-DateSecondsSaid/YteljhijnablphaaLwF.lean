/-
  The law DateSeconds: no moment.
-/
import Derived.Test.YteljhijnablphaaLwA
namespace Go.Proofs.Yteljhijnablphaa
open Go.RowKit
set_option linter.unusedVariables false
set_option linter.unusedSimpArgs false
set_option maxRecDepth 4000

theorem eqlC (w : World) (y m d a b c : Int) : (binOp .eql 42 (.agg #[.int .i64 y, .int .i64 m, .int .i64 d, .int .i64 a, .int .i64 b, .int .i64 c]) (.agg #[.int .i64 y, .int .i64 m, .int .i64 d, .int .i64 a, .int .i64 b, .int .i64 c])).run Try.prog w = .ok (.bool true) w := by go_simp
theorem eqlS (l : List UInt8) (w : World) : (binOp .eql 9 (strV l) (strV l)).run Try.prog w = .ok (.bool true) w := by unfold strV; go_simp

set_option maxHeartbeats 3200000 in
theorem lawSecNN (y m d a b c s : Int) (w : World) (hy : I64 y) (hm : I64 m) (hd : I64 d) (r1 : ¬ RgtC y m d a b c) (hs : I64 s) (h : s < -62167219200 ∨ 253402300799 < s) :
    Calls Try.prog 5 #[cv y m d a b c, .int .i64 s] w fun e w' => e = .returned (.bool true) ∧ Below w.heap.size w w' := by
  have hck := Lib.hid lw9clock
  have hof := Lib.hid lw9of
  have hKn := Lib.hid known9
  have hR := Lib.hid (fun W => dtRightClock y m d a b c W hy hm hd)
  have hRr := Lib.hid (fun W => rf9RightClock y m d a b c W hy hm hd)
  have hEC := @eqlC
  have hdec : decide (RgtC y m d a b c) = false := by simpa using r1
  have hSec := Lib.hid (fun W => dtSecondNo y m d a b c W hy hm hd r1)
  have hAt := Lib.hid (fun W => dtAtNo s W hs h)
  have hTx := Lib.hid (fun W => dtTextNo s W hs h)
  have hAr := Lib.hid (fun W => rf9AtNo s W hs h)
  clear r1
  unfold cv at *
  have HB := Lib.hid (below_alloc1 w (.cells #[.int .i64 y, .int .i64 m, .int .i64 d, .int .i64 a, .int .i64 b, .int .i64 c] 42))
  have CEL : Hid (∀ W : World, Below (w.alloc (.cells #[.int .i64 y, .int .i64 m, .int .i64 d, .int .i64 a, .int .i64 b, .int .i64 c] 42)).heap.size (w.alloc (.cells #[.int .i64 y, .int .i64 m, .int .i64 d, .int .i64 a, .int .i64 b, .int .i64 c] 42)) W → W.cell? ⟨w.heap.size, 0, none⟩ = some (.int .i64 y) ∧ W.cell? ⟨w.heap.size, 1, none⟩ = some (.int .i64 m) ∧ W.cell? ⟨w.heap.size, 2, none⟩ = some (.int .i64 d) ∧ W.cell? ⟨w.heap.size, 3, none⟩ = some (.int .i64 a) ∧ W.cell? ⟨w.heap.size, 4, none⟩ = some (.int .i64 b) ∧ W.cell? ⟨w.heap.size, 5, none⟩ = some (.int .i64 c)) := fun W hW => ((Blk.six_new w (.int .i64 y) (.int .i64 m) (.int .i64 d) (.int .i64 a) (.int .i64 b) (.int .i64 c) 42).below hW).six
  have HA0 := Lib.hid (Below.refl (w.alloc (.cells #[.int .i64 y, .int .i64 m, .int .i64 d, .int .i64 a, .int .i64 b, .int .i64 c] 42)).heap.size (w.alloc (.cells #[.int .i64 y, .int .i64 m, .int .i64 d, .int .i64 a, .int .i64 b, .int .i64 c] 42)))
  obtain ⟨a0, a1, a2, a3, a4, a5⟩ := CEL.out _ HA0.out
  go_enter Try.func5, Try.ntmps5
  go_wp2_with fail
  refine (hck.out _ _ _ _ _ _ _).mono ?_
  rintro e v1 ⟨rfl, hB1⟩
  have HA1 := Lib.hid (HA0.out.trans (hB1.mono HA0.out.size))
  clear hB1 a0 a1 a2 a3 a4 a5
  obtain ⟨a0, a1, a2, a3, a4, a5⟩ := CEL.out _ HA1.out
  go_wp2_with fail
  refine (hSec.out _).mono ?_
  rintro e v2 ⟨rfl, hB2⟩
  have HA2 := Lib.hid (HA1.out.trans (hB2.mono HA1.out.size))
  clear hB2 a0 a1 a2 a3 a4 a5
  obtain ⟨a0, a1, a2, a3, a4, a5⟩ := CEL.out _ HA2.out
  go_wp2_with fail
  refine (hRr.out _).mono ?_
  rintro e v3 ⟨rfl, hB3⟩
  rw [hdec]
  have HA3 := Lib.hid (HA2.out.trans (hB3.mono HA2.out.size))
  clear hB3 a0 a1 a2 a3 a4 a5
  obtain ⟨a0, a1, a2, a3, a4, a5⟩ := CEL.out _ HA3.out
  go_wp2_with fail
  refine (hKn.out _).mono ?_
  rintro e v4 ⟨rfl, hB4⟩
  have HA4 := Lib.hid (HA3.out.trans (hB4.mono HA3.out.size))
  clear hB4 a0 a1 a2 a3 a4 a5
  obtain ⟨a0, a1, a2, a3, a4, a5⟩ := CEL.out _ HA4.out
  go_wp2_with fail
  refine (hck.out _ _ _ _ _ _ _).mono ?_
  rintro e v5 ⟨rfl, hB5⟩
  have HA5 := Lib.hid (HA4.out.trans (hB5.mono HA4.out.size))
  clear hB5 a0 a1 a2 a3 a4 a5
  obtain ⟨a0, a1, a2, a3, a4, a5⟩ := CEL.out _ HA5.out
  go_wp2_with fail
  refine (hR.out _).mono ?_
  rintro e v6 ⟨rfl, hB6⟩
  rw [hdec]
  have HA6 := Lib.hid (HA5.out.trans (hB6.mono HA5.out.size))
  clear hB6 a0 a1 a2 a3 a4 a5
  obtain ⟨a0, a1, a2, a3, a4, a5⟩ := CEL.out _ HA6.out
  go_wp2_with fail
  refine (hAt.out _).mono ?_
  rintro e v8 ⟨rfl, hB8⟩
  have HA8 := Lib.hid (HA6.out.trans (hB8.mono HA6.out.size))
  clear hB8 a0 a1 a2 a3 a4 a5
  have hx := Lib.hid (Blk.six_new v8 (.int .i64 0) (.int .i64 0) (.int .i64 0) (.int .i64 0) (.int .i64 0) (.int .i64 0) 45)
  have HV8 := Lib.hid (HA8.out.alloc HA8.out.size (.cells #[.int .i64 0, .int .i64 0, .int .i64 0, .int .i64 0, .int .i64 0, .int .i64 0] 45))
  go_wp2_with fail
  refine (hTx.out _).mono ?_
  rintro e v9 ⟨rfl, hB9⟩
  unfold strV
  have HA9 := Lib.hid (HV8.out.trans (hB9.mono HV8.out.size))
  have hx9 := Lib.hid (hx.out.below hB9)
  clear hB9
  go_wp2_with fail
  refine (hAr.out _).mono ?_
  rintro e v10 ⟨rfl, hB10⟩
  have HA10 := Lib.hid (HA9.out.trans (hB10.mono HA9.out.size))
  have hx10 := Lib.hid ((hx9.out.below hB10).alloc (.cells #[.int .i64 0, .int .i64 0, .int .i64 0, .int .i64 0, .int .i64 0, .int .i64 0] 42))
  have HV10 := Lib.hid (HA10.out.alloc HA10.out.size (.cells #[.int .i64 0, .int .i64 0, .int .i64 0, .int .i64 0, .int .i64 0, .int .i64 0] 42))
  clear hB10
  obtain ⟨x0, x1, x2, x3, x4, x5⟩ := hx10.out.six
  go_wp2_with fail
  refine (hof.out _ _ _ _ _ _ _).mono ?_
  rintro e v11 ⟨rfl, hB11⟩
  have HA11 := Lib.hid (HV10.out.trans (hB11.mono HV10.out.size))
  clear hB11 x0 x1 x2 x3 x4 x5
  go_wp2
  go_ret
  exact ⟨rfl, HB.out.trans (HA11.out.mono HB.out.size)⟩

set_option maxHeartbeats 3200000 in
theorem lawSecYN (y m d a b c s : Int) (w : World) (hy : I64 y) (hm : I64 m) (hd : I64 d) (r1 : RgtC y m d a b c) (hs : I64 s) (h : s < -62167219200 ∨ 253402300799 < s) :
    Calls Try.prog 5 #[cv y m d a b c, .int .i64 s] w fun e w' => e = .returned (.bool true) ∧ Below w.heap.size w w' := by
  have hck := Lib.hid lw9clock
  have hof := Lib.hid lw9of
  have hKn := Lib.hid known9
  have hR := Lib.hid (fun W => dtRightClock y m d a b c W hy hm hd)
  have hRr := Lib.hid (fun W => rf9RightClock y m d a b c W hy hm hd)
  have hEC := @eqlC
  have hdec : decide (RgtC y m d a b c) = true := by simpa using r1
  have hSec := Lib.hid (fun W => dtSecondYes y m d a b c W r1)
  have hSr := Lib.hid (fun W => rf9Second y m d a b c W r1)
  have hAt := Lib.hid (fun W => dtAtNo s W hs h)
  have hTx := Lib.hid (fun W => dtTextNo s W hs h)
  have hAr := Lib.hid (fun W => rf9AtNo s W hs h)
  generalize hS0 : sec y m d a b c = N at *
  clear hS0
  clear r1
  unfold cv at *
  have HB := Lib.hid (below_alloc1 w (.cells #[.int .i64 y, .int .i64 m, .int .i64 d, .int .i64 a, .int .i64 b, .int .i64 c] 42))
  have CEL : Hid (∀ W : World, Below (w.alloc (.cells #[.int .i64 y, .int .i64 m, .int .i64 d, .int .i64 a, .int .i64 b, .int .i64 c] 42)).heap.size (w.alloc (.cells #[.int .i64 y, .int .i64 m, .int .i64 d, .int .i64 a, .int .i64 b, .int .i64 c] 42)) W → W.cell? ⟨w.heap.size, 0, none⟩ = some (.int .i64 y) ∧ W.cell? ⟨w.heap.size, 1, none⟩ = some (.int .i64 m) ∧ W.cell? ⟨w.heap.size, 2, none⟩ = some (.int .i64 d) ∧ W.cell? ⟨w.heap.size, 3, none⟩ = some (.int .i64 a) ∧ W.cell? ⟨w.heap.size, 4, none⟩ = some (.int .i64 b) ∧ W.cell? ⟨w.heap.size, 5, none⟩ = some (.int .i64 c)) := fun W hW => ((Blk.six_new w (.int .i64 y) (.int .i64 m) (.int .i64 d) (.int .i64 a) (.int .i64 b) (.int .i64 c) 42).below hW).six
  have HA0 := Lib.hid (Below.refl (w.alloc (.cells #[.int .i64 y, .int .i64 m, .int .i64 d, .int .i64 a, .int .i64 b, .int .i64 c] 42)).heap.size (w.alloc (.cells #[.int .i64 y, .int .i64 m, .int .i64 d, .int .i64 a, .int .i64 b, .int .i64 c] 42)))
  obtain ⟨a0, a1, a2, a3, a4, a5⟩ := CEL.out _ HA0.out
  go_enter Try.func5, Try.ntmps5
  go_wp2_with fail
  refine (hck.out _ _ _ _ _ _ _).mono ?_
  rintro e v1 ⟨rfl, hB1⟩
  have HA1 := Lib.hid (HA0.out.trans (hB1.mono HA0.out.size))
  clear hB1 a0 a1 a2 a3 a4 a5
  obtain ⟨a0, a1, a2, a3, a4, a5⟩ := CEL.out _ HA1.out
  go_wp2_with fail
  refine (hSec.out _).mono ?_
  rintro e v2 ⟨rfl, hB2⟩
  have HA2 := Lib.hid (HA1.out.trans (hB2.mono HA1.out.size))
  clear hB2 a0 a1 a2 a3 a4 a5
  obtain ⟨a0, a1, a2, a3, a4, a5⟩ := CEL.out _ HA2.out
  go_wp2_with fail
  refine (hRr.out _).mono ?_
  rintro e v3 ⟨rfl, hB3⟩
  rw [hdec]
  have HA3 := Lib.hid (HA2.out.trans (hB3.mono HA2.out.size))
  clear hB3 a0 a1 a2 a3 a4 a5
  obtain ⟨a0, a1, a2, a3, a4, a5⟩ := CEL.out _ HA3.out
  go_wp2_with fail
  refine (hKn.out _).mono ?_
  rintro e v4 ⟨rfl, hB4⟩
  have HA4 := Lib.hid (HA3.out.trans (hB4.mono HA3.out.size))
  clear hB4 a0 a1 a2 a3 a4 a5
  obtain ⟨a0, a1, a2, a3, a4, a5⟩ := CEL.out _ HA4.out
  go_wp2_with fail
  refine (hck.out _ _ _ _ _ _ _).mono ?_
  rintro e v5 ⟨rfl, hB5⟩
  have HA5 := Lib.hid (HA4.out.trans (hB5.mono HA4.out.size))
  clear hB5 a0 a1 a2 a3 a4 a5
  obtain ⟨a0, a1, a2, a3, a4, a5⟩ := CEL.out _ HA5.out
  go_wp2_with fail
  refine (hR.out _).mono ?_
  rintro e v6 ⟨rfl, hB6⟩
  rw [hdec]
  have HA6 := Lib.hid (HA5.out.trans (hB6.mono HA5.out.size))
  clear hB6 a0 a1 a2 a3 a4 a5
  obtain ⟨a0, a1, a2, a3, a4, a5⟩ := CEL.out _ HA6.out
  go_wp2_with fail
  refine (hSr.out _).mono ?_
  rintro e v7 ⟨rfl, hB7⟩
  have HA7 := Lib.hid (HA6.out.trans (hB7.mono HA6.out.size))
  clear hB7 a0 a1 a2 a3 a4 a5
  obtain ⟨a0, a1, a2, a3, a4, a5⟩ := CEL.out _ HA7.out
  go_wp2_with fail
  refine (hAt.out _).mono ?_
  rintro e v8 ⟨rfl, hB8⟩
  have HA8 := Lib.hid (HA7.out.trans (hB8.mono HA7.out.size))
  clear hB8 a0 a1 a2 a3 a4 a5
  have hx := Lib.hid (Blk.six_new v8 (.int .i64 0) (.int .i64 0) (.int .i64 0) (.int .i64 0) (.int .i64 0) (.int .i64 0) 45)
  have HV8 := Lib.hid (HA8.out.alloc HA8.out.size (.cells #[.int .i64 0, .int .i64 0, .int .i64 0, .int .i64 0, .int .i64 0, .int .i64 0] 45))
  go_wp2_with fail
  refine (hTx.out _).mono ?_
  rintro e v9 ⟨rfl, hB9⟩
  unfold strV
  have HA9 := Lib.hid (HV8.out.trans (hB9.mono HV8.out.size))
  have hx9 := Lib.hid (hx.out.below hB9)
  clear hB9
  go_wp2_with fail
  refine (hAr.out _).mono ?_
  rintro e v10 ⟨rfl, hB10⟩
  have HA10 := Lib.hid (HA9.out.trans (hB10.mono HA9.out.size))
  have hx10 := Lib.hid ((hx9.out.below hB10).alloc (.cells #[.int .i64 0, .int .i64 0, .int .i64 0, .int .i64 0, .int .i64 0, .int .i64 0] 42))
  have HV10 := Lib.hid (HA10.out.alloc HA10.out.size (.cells #[.int .i64 0, .int .i64 0, .int .i64 0, .int .i64 0, .int .i64 0, .int .i64 0] 42))
  clear hB10
  obtain ⟨x0, x1, x2, x3, x4, x5⟩ := hx10.out.six
  go_wp2_with fail
  refine (hof.out _ _ _ _ _ _ _).mono ?_
  rintro e v11 ⟨rfl, hB11⟩
  have HA11 := Lib.hid (HV10.out.trans (hB11.mono HV10.out.size))
  clear hB11 x0 x1 x2 x3 x4 x5
  go_wp2
  go_ret
  exact ⟨rfl, HB.out.trans (HA11.out.mono HB.out.size)⟩
end Go.Proofs.Yteljhijnablphaa
