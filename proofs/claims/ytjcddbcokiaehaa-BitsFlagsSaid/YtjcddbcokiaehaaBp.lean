/-
  The chapter's examples of layer 5.
-/
import Derived.Test.YtjcddbcokiaehaaBo
import Derived.Test.YtjcddbcokiaehaaBl
namespace Go.Proofs.Ytjcddbcokiaehaa
open Go.RowKit
set_option linter.unusedVariables false
set_option linter.unusedSimpArgs false
set_option maxRecDepth 4000

theorem below_st {w W W' : World} (h : Below w.heap.size w W) (k : Below W.heap.size W W') : Below w.heap.size w W' := h.trans (Below.mono k h.size)

set_option maxHeartbeats 3200000 in
theorem known5 (w : World) :
    Calls Try.prog 13 #[] w fun e w' => e = .returned (.bool true) ∧ Below w.heap.size w w' := by
  have z0 : Zs (w.alloc (.cells #[.int .i64 0, .int .i64 6] 3)) (some ⟨w.heap.size, 0, none⟩) 2 [0, 6] := Zs.newL w [0, 6] _ _ _ rfl
  have O0 := btOfYes _ 2 2 [0, 6] _ z0 (by omega) (by decide) (by omega) 6 (by decide)
  rw [show ofB [0, 6] (6 / 8 + 1) = [0x82] by decide] at O0
  have b0 := below_alloc1 w (.cells #[.int .i64 0, .int .i64 6] 3)
  go_enter Try.func13, Try.ntmps13
  go_wp2_with fail
  refine O0.mono ?_
  rintro e w1 ⟨A1, c1, rfl, s1, hc1, b1⟩
  have b1 := b0.trans (Below.mono b1 (by simp))
  clear z0 O0 b0
  have X1 := Blk.new2 w1 (.int .i64 1) (.slice A1 1 c1) 25
  have s2 := s1.below (below_alloc1 w1 (.cells #[.int .i64 1, .slice A1 1 c1] 25))
  have b2 := b1.alloc b1.size (.cells #[.int .i64 1, .slice A1 1 c1] 25)
  go_upto_region 2 with (fail)
  generalize (w1.alloc (Obj.cells #[.int .i64 1, .slice A1 1 c1] 25)) = W2 at *
  generalize w1.heap.size = g1 at *
  obtain ⟨x0, x1, _, _⟩ := X1.two
  have C2 := btContents 1 A1 1 c1 [0x82] W2 s2 hc1 (by omega) (by decide)
  rw [show contS 1 [0x82] = [1, 0x82] by decide] at C2
  go_wp2_with fail
  refine C2.mono ?_
  rintro e w3 ⟨A3, n3, c3, rfl, o3, b3⟩
  have b3 := below_st b2 b3
  have s3 := o3.bs.1
  obtain rfl : n3 = 2 := s3.len.symm
  clear C2 x0 x1 X1 s2 b2 s1 b1 o3
  have p4 := Bs.new1 w3 128 128 5 rfl
  have F4 := btFlagsYes 7 _ 1 1 [128] _ p4 (by omega) (by decide) (by decide)
  rw [show flagsS [128] (lenS 7 [128]) = [0] by decide] at F4
  have a4 := below_alloc1 w3 (.cells #[.int .u8 128] 5)
  go_wp2_with fail
  refine F4.mono ?_
  rintro e w4 ⟨v4, rfl, o4, b4⟩
  have b4' := below_st a4 b4
  have s4 := s3.below b4'
  have b4 := below_st b3 b4'
  obtain ⟨A4, c4, rfl, _, _⟩ := o4.slice
  clear p4 F4 a4 b4' s3 b3 o4
  have p5 := Bs.new1 w4 128 128 5 rfl
  have F5 := btFlagsForm 0 _ 1 1 [128] _ p5 (by omega) (by decide) (by decide)
  have a5 := below_alloc1 w4 (.cells #[.int .u8 128] 5)
  go_wp2_with fail
  refine F5.mono ?_
  rintro e w5 ⟨rfl, b5⟩
  have b5' := below_st a5 b5
  have s5 := s4.below b5'
  have b5 := below_st b4 b5'
  clear p5 F5 a5 b5' s4 b4
  have p6 := Bs.new2 w5 1 1 1 1 5 rfl rfl
  have P6 := btParse _ 2 2 [1, 1] _ p6 (by omega) (by omega)
  have a6 := below_alloc1 w5 (.cells #[.int .u8 1, .int .u8 1] 5)
  go_wp2_with fail
  refine P6.mono ?_
  rintro e w6 ⟨_, hno, b6⟩
  obtain rfl := hno (by decide)
  have b6' := below_st a6 b6
  have s6 := s5.below b6'
  have b6 := below_st b5 b6'
  clear p6 P6 a6 b6' s5 b5 hno
  have s7 := s6.below (below_alloc1 w6 (.cells #[.int .i64 0, .slice none 0 0] 25))
  have b7 := b6.alloc b6.size (.cells #[.int .i64 0, .slice none 0 0] 25)
  go_upto_region 6 with (fail)
  generalize (w6.alloc (Obj.cells #[.int .i64 0, .slice none 0 0] 25)) = W7 at *
  have H7 := octHex A3 2 c3 [1, 0x82] W7 s7 (by omega)
  rw [show hexL [1, 0x82] = [48, 49, 56, 50] by decide] at H7
  go_wp2_with fail
  refine H7.mono ?_
  rintro e w8 ⟨rfl, b8⟩
  have b8 := below_st b7 b8
  go_wp2
  go_ret
  exact ⟨rfl, b8⟩

end Go.Proofs.Ytjcddbcokiaehaa
