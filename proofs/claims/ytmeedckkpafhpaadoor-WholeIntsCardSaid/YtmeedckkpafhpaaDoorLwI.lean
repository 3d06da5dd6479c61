/-
  The law WholeInts.
-/
import Derived.Test.YtmeedckkpafhpaaDoorKn3
import Derived.Test.YtmeedckkpafhpaaDoorR3d
import Derived.Test.YtmeedckkpafhpaaDoorR3e
import Derived.Test.YtmeedckkpafhpaaDoorR3f
namespace Go.Proofs.YtmeedckkpafhpaaDoor
open Go.RowKit Go.Joins
set_option linter.unusedVariables false
set_option linter.unusedSimpArgs false
set_option maxRecDepth 4000

theorem ref3Of (k : Int) (w : World) (h1 : -9223372036854775808 ≤ k) (h2 : k ≤ 9223372036854775807) :
    Calls Tryd.prog 23 #[.int .i64 k] w fun e w' => ∃ (s : Nm) (u' : Value), e = .returned u' ∧ NumV w' s u' ∧ s.z = k ∧ s.size.length ≤ 8 ∧ Below w.heap.size w w' := by
  by_cases h : k < 0
  · have := ref3Of1 k.natAbs w (by omega) (by omega)
    rw [show -(k.natAbs : Int) = k by omega] at this
    exact this.mono fun e w' ⟨s, u', h1, h2, h3, _, h4, h5⟩ => ⟨s, u', h1, h2, h3, h4, h5⟩
  · have := ref3Of0 k.natAbs w (by omega)
    rw [show (k.natAbs : Int) = k by omega] at this
    exact this.mono fun e w' ⟨s, u', h1, h2, h3, _, h4, h5⟩ => ⟨s, u', h1, h2, h3, h4, h5⟩

set_option maxHeartbeats 6400000 in
theorem lawInts (k : Int) (x : Nm) (u : Value) (w : World) (hk1 : -9223372036854775808 ≤ k) (hk2 : k ≤ 9223372036854775807) (hx : NumV w x u) (ht : Tab w) :
    Calls Tryd.prog 4 #[.int .i64 k, u] w fun e w' => e = .returned (.bool true) ∧ Below w.heap.size w w' := by
  obtain ⟨A, c, rfl, hb, hc⟩ := hx
  have hX : NumV w x (.agg #[.bool x.below, .slice A x.size.length c]) := ⟨A, c, rfl, hb, hc⟩
  have hT := One.start w 24 (.bool x.below) (.slice A x.size.length c)
  obtain ⟨y, hy⟩ : ∃ y, x.few = y := ⟨_, rfl⟩
  have hyl : y.size.length ≤ 200 := by rw [← hy]; exact x.few_len
  go_enter Tryd.func4, Tryd.ntmps4
  go_wp2_with fail
  generalize (w.alloc (Obj.cells #[Value.bool x.below, Value.slice A x.size.length c] 24)) = W0 at *
  generalize hR : w.heap.size = R at *
  have HR := Lib.hid hR; clear hR
  refine (lwFew x _ W0 (hX.frame hT.2.1)).mono ?_
  rw [hy]
  rintro e w1 ⟨v1, rfl, ⟨A1, c1, rfl, hs1, hc1⟩, hb1⟩
  have hT1 := hT.frame hb1
  clear hb1 hT hX hb hc hy
  have hs2 := hs1.set2 hT1.1 (.bool y.below) (.slice A1 y.size.length c1)
  have hT2 := hT1.put (a0 := .bool y.below) (a1 := .slice A1 y.size.length c1) rfl
  have c0 := hT1.1.cell 0
  have c1' := hT1.1.cell 1
  have f0 := hT1.1.free 0
  have f1 := hT1.1.free 1
  simp at c0 c1'
  go_upto_region 2 with (fail)
  generalize ((w1.setCell ⟨R, 0, none⟩ (.bool y.below)).setCell ⟨R, 1, none⟩ (.slice A1 y.size.length c1)) = W2 at *
  clear c0 c1' f0 f1 hT1 hs1
  go_wp2_with fail
  refine (whOf k W2 hk1 hk2).mono ?_
  rintro e w3 ⟨s, v3, rfl, ⟨A3, c3, rfl, hs3, hc3⟩, hok3, hz3, hl3, hb3⟩
  have HZ3 := Lib.hid hz3; clear hz3
  have hT3 := hT2.frame hb3
  have hy3 := hs2.below hb3
  clear hT2 hs2 hb3
  have hT4 := hT3.frame (below_alloc1 w3 (Obj.cells #[.bool s.below, .slice A3 s.size.length c3] 30))
  have hy4 := hy3.below (below_alloc1 w3 (Obj.cells #[.bool s.below, .slice A3 s.size.length c3] 30))
  have hs4 := hs3.below (below_alloc1 w3 (Obj.cells #[.bool s.below, .slice A3 s.size.length c3] 30))
  have hk4 := Blk.new2 w3 (.bool s.below) (.slice A3 s.size.length c3) 30
  go_upto_region 3 with (fail)
  generalize (w3.alloc (Obj.cells #[.bool s.below, .slice A3 s.size.length c3] 30)) = W4 at *
  generalize w3.heap.size = G at *
  clear hT3 hy3 hs3
  have HS : Hid (∀ W, Bs W A3 s.size.length s.size → NumV W s (.agg #[.bool s.below, .slice A3 s.size.length c3])) := fun W h => ⟨A3, c3, rfl, h, hc3⟩
  have HY : Hid (∀ W, Bs W A1 y.size.length y.size → NumV W y (.agg #[.bool y.below, .slice A1 y.size.length c1])) := fun W h => ⟨A1, c1, rfl, h, hc1⟩
  have d0 := hT4.1.cell 0
  have d1 := hT4.1.cell 1
  have e0 := hk4.cell 0
  have e1 := hk4.cell 1
  simp at d0 d1 e0 e1
  have hrange : -9223372036854775808 ≤ s.z ∧ s.z ≤ 9223372036854775807 := by rw [HZ3.out]; exact ⟨hk1, hk2⟩
  go_wp2_with fail
  refine (whInt s _ W4 (HS.out _ hs4) (by omega)).mono ?_
  rintro e w5 ⟨hi5, _, hb5⟩
  obtain rfl := hi5 hrange
  rw [HZ3.out]
  clear hi5 hrange
  have hT5 := hT4.frame hb5
  have hy5 := hy4.below hb5
  have hs5 := hs4.below hb5
  have hk5 := hk4.below hb5
  clear hT4 hy4 hs4 hk4 hb5 d0 d1 e0 e1
  have d0 := hT5.1.cell 0
  have d1 := hT5.1.cell 1
  have e0 := hk5.cell 0
  have e1 := hk5.cell 1
  simp at d0 d1 e0 e1
  by_cases hin : -9223372036854775808 ≤ y.z ∧ y.z ≤ 9223372036854775807
  · go_wp2_with fail
    refine (lwTo y _ w5 (HY.out _ hy5)).mono ?_
    rintro e w6 ⟨v6, rfl, ⟨A6, c6, rfl, hs6', hc6⟩, hb6⟩
    have hT6 := hT5.frame hb6
    have hy6 := hy5.below hb6
    have hs6 := hs5.below hb6
    have hk6 := hk5.below hb6
    clear hT5 hy5 hs5 hk5 hb6 d0 d1 e0 e1
    have d0 := hT6.1.cell 0
    have d1 := hT6.1.cell 1
    have e0 := hk6.cell 0
    have e1 := hk6.cell 1
    simp at d0 d1 e0 e1
    go_wp2_with fail
    refine (whInt y _ w6 ⟨A6, c6, rfl, hs6', hc6⟩ (by omega)).mono ?_
    rintro e w7 ⟨hi7, hn7, hb7⟩
    obtain rfl := hi7 hin
    clear hi7 hn7 hs6'
    have hT7 := hT6.frame hb7
    have hy7 := hy6.below hb7
    have hs7 := hs6.below hb7
    have hk7 := hk6.below hb7
    clear hT6 hy6 hs6 hk6 hb7 d0 d1 e0 e1
    have d0 := hT7.1.cell 0
    have d1 := hT7.1.cell 1
    have e0 := hk7.cell 0
    have e1 := hk7.cell 1
    simp at d0 d1 e0 e1
    go_wp2_with fail
    refine (ref3Int y _ w7 (HY.out _ hy7) (by omega)).mono ?_
    rintro e w8 ⟨hi8, hn8, hb8⟩
    obtain rfl := hi8 hin
    clear hi8 hn8
    have hT8 := hT7.frame hb8
    have hy8 := hy7.below hb8
    have hs8 := hs7.below hb8
    have hk8 := hk7.below hb8
    clear hT7 hy7 hs7 hk7 hb8 d0 d1 e0 e1
    have d0 := hT8.1.cell 0
    have d1 := hT8.1.cell 1
    have e0 := hk8.cell 0
    have e1 := hk8.cell 1
    simp at d0 d1 e0 e1
    go_wp2_with fail
    refine (known3 w8 (ht.below hT8.2.1)).mono ?_
    rintro e w9 ⟨rfl, hb9⟩
    have hT9 := hT8.frame hb9
    have hy9 := hy8.below hb9
    have hs9 := hs8.below hb9
    have hk9 := hk8.below hb9
    clear hT8 hy8 hs8 hk8 hb9 d0 d1 e0 e1
    have d0 := hT9.1.cell 0
    have d1 := hT9.1.cell 1
    have e0 := hk9.cell 0
    have e1 := hk9.cell 1
    simp at d0 d1 e0 e1
    go_wp2_with fail
    refine (lwOf s _ w9 (HS.out _ hs9)).mono ?_
    rintro e w10 ⟨v10, rfl, hv10, hb10⟩
    have hT10 := hT9.frame hb10
    have hy10 := hy9.below hb10
    have hs10 := hs9.below hb10
    have hk10 := hk9.below hb10
    clear hT9 hy9 hs9 hk9 hb10 d0 d1 e0 e1
    have d0 := hT10.1.cell 0
    have d1 := hT10.1.cell 1
    have e0 := hk10.cell 0
    have e1 := hk10.cell 1
    simp at d0 d1 e0 e1
    go_wp2_with fail
    refine (ref3Of k w10 hk1 hk2).mono ?_
    rintro e w11 ⟨s11, v11, rfl, hv11, hz11, hl11, hb11⟩
    have hv10' := hv10.frame hb11
    have hT11 := hT10.frame hb11
    have hy11 := hy10.below hb11
    have hs11 := hs10.below hb11
    have hk11 := hk10.below hb11
    clear hT10 hy10 hs10 hk10 hb11 d0 d1 e0 e1
    have d0 := hT11.1.cell 0
    have d1 := hT11.1.cell 1
    have e0 := hk11.cell 0
    have e1 := hk11.cell 1
    simp at d0 d1 e0 e1
    go_wp2_with fail
    refine (ref3Same s s11 v10 v11 w11 hv10' hv11 (by omega) (by omega)).mono ?_
    rintro e w12 ⟨rfl, hb12⟩
    rw [decide_eq_true (show s.z = s11.z by rw [HZ3.out, hz11])]
    clear hv10 hv10' hv11 hz11
    have hT12 := hT11.frame hb12
    have hy12 := hy11.below hb12
    have hs12 := hs11.below hb12
    have hk12 := hk11.below hb12
    clear hT11 hy11 hs11 hk11 hb12 d0 d1 e0 e1
    have d0 := hT12.1.cell 0
    have d1 := hT12.1.cell 1
    have e0 := hk12.cell 0
    have e1 := hk12.cell 1
    simp at d0 d1 e0 e1
    go_wp2_with fail
    refine (whRight s _ w12 (HS.out _ hs12)).mono ?_
    rintro e w13 ⟨rfl, hb13⟩
    rw [(Nm.okb_iff s).2 hok3]
    have b13 := hT12.2.1.trans (Below.mono hb13 hT12.2.1.size)
    have kk : (k == k) = true := by simp
    have yy : (y.z == y.z) = true := by simp
    clear hT12 hy12 hs12 hk12 hb13 d0 d1 e0 e1
    go_wp2
    go_ret
    exact ⟨rfl, b13⟩
  · go_wp2_with fail
    refine (lwTo y _ w5 (HY.out _ hy5)).mono ?_
    rintro e w6 ⟨v6, rfl, ⟨A6, c6, rfl, hs6', hc6⟩, hb6⟩
    have hT6 := hT5.frame hb6
    have hy6 := hy5.below hb6
    have hs6 := hs5.below hb6
    have hk6 := hk5.below hb6
    clear hT5 hy5 hs5 hk5 hb6 d0 d1 e0 e1
    have d0 := hT6.1.cell 0
    have d1 := hT6.1.cell 1
    have e0 := hk6.cell 0
    have e1 := hk6.cell 1
    simp at d0 d1 e0 e1
    go_wp2_with fail
    refine (whInt y _ w6 ⟨A6, c6, rfl, hs6', hc6⟩ (by omega)).mono ?_
    rintro e w7 ⟨hi7, hn7, hb7⟩
    obtain rfl := hn7 hin
    clear hi7 hn7 hs6'
    have hT7 := hT6.frame hb7
    have hy7 := hy6.below hb7
    have hs7 := hs6.below hb7
    have hk7 := hk6.below hb7
    clear hT6 hy6 hs6 hk6 hb7 d0 d1 e0 e1
    have d0 := hT7.1.cell 0
    have d1 := hT7.1.cell 1
    have e0 := hk7.cell 0
    have e1 := hk7.cell 1
    simp at d0 d1 e0 e1
    go_wp2_with fail
    refine (ref3Int y _ w7 (HY.out _ hy7) (by omega)).mono ?_
    rintro e w8 ⟨hi8, hn8, hb8⟩
    obtain rfl := hn8 hin
    clear hi8 hn8
    have hT8 := hT7.frame hb8
    have hy8 := hy7.below hb8
    have hs8 := hs7.below hb8
    have hk8 := hk7.below hb8
    clear hT7 hy7 hs7 hk7 hb8 d0 d1 e0 e1
    have d0 := hT8.1.cell 0
    have d1 := hT8.1.cell 1
    have e0 := hk8.cell 0
    have e1 := hk8.cell 1
    simp at d0 d1 e0 e1
    go_wp2_with fail
    refine (known3 w8 (ht.below hT8.2.1)).mono ?_
    rintro e w9 ⟨rfl, hb9⟩
    have hT9 := hT8.frame hb9
    have hy9 := hy8.below hb9
    have hs9 := hs8.below hb9
    have hk9 := hk8.below hb9
    clear hT8 hy8 hs8 hk8 hb9 d0 d1 e0 e1
    have d0 := hT9.1.cell 0
    have d1 := hT9.1.cell 1
    have e0 := hk9.cell 0
    have e1 := hk9.cell 1
    simp at d0 d1 e0 e1
    go_wp2_with fail
    refine (lwOf s _ w9 (HS.out _ hs9)).mono ?_
    rintro e w10 ⟨v10, rfl, hv10, hb10⟩
    have hT10 := hT9.frame hb10
    have hy10 := hy9.below hb10
    have hs10 := hs9.below hb10
    have hk10 := hk9.below hb10
    clear hT9 hy9 hs9 hk9 hb10 d0 d1 e0 e1
    have d0 := hT10.1.cell 0
    have d1 := hT10.1.cell 1
    have e0 := hk10.cell 0
    have e1 := hk10.cell 1
    simp at d0 d1 e0 e1
    go_wp2_with fail
    refine (ref3Of k w10 hk1 hk2).mono ?_
    rintro e w11 ⟨s11, v11, rfl, hv11, hz11, hl11, hb11⟩
    have hv10' := hv10.frame hb11
    have hT11 := hT10.frame hb11
    have hy11 := hy10.below hb11
    have hs11 := hs10.below hb11
    have hk11 := hk10.below hb11
    clear hT10 hy10 hs10 hk10 hb11 d0 d1 e0 e1
    have d0 := hT11.1.cell 0
    have d1 := hT11.1.cell 1
    have e0 := hk11.cell 0
    have e1 := hk11.cell 1
    simp at d0 d1 e0 e1
    go_wp2_with fail
    refine (ref3Same s s11 v10 v11 w11 hv10' hv11 (by omega) (by omega)).mono ?_
    rintro e w12 ⟨rfl, hb12⟩
    rw [decide_eq_true (show s.z = s11.z by rw [HZ3.out, hz11])]
    clear hv10 hv10' hv11 hz11
    have hT12 := hT11.frame hb12
    have hy12 := hy11.below hb12
    have hs12 := hs11.below hb12
    have hk12 := hk11.below hb12
    clear hT11 hy11 hs11 hk11 hb12 d0 d1 e0 e1
    have d0 := hT12.1.cell 0
    have d1 := hT12.1.cell 1
    have e0 := hk12.cell 0
    have e1 := hk12.cell 1
    simp at d0 d1 e0 e1
    go_wp2_with fail
    refine (whRight s _ w12 (HS.out _ hs12)).mono ?_
    rintro e w13 ⟨rfl, hb13⟩
    rw [(Nm.okb_iff s).2 hok3]
    have b13 := hT12.2.1.trans (Below.mono hb13 hT12.2.1.size)
    have kk : (k == k) = true := by simp
    have yy : (y.z == y.z) = true := by simp
    clear hT12 hy12 hs12 hk12 hb13 d0 d1 e0 e1
    go_wp2
    go_ret
    exact ⟨rfl, b13⟩
end Go.Proofs.YtmeedckkpafhpaaDoor
