/-
  The reference: At.
-/
import Derived.Test.YtepbjjhidemaiaaGreatDo
namespace Go.Proofs.YtepbjjhidemaiaaGreat
open Go.RowKit
set_option linter.unusedVariables false
set_option linter.unusedSimpArgs false
set_option maxRecDepth 4000

set_option maxHeartbeats 800000 in
theorem rf9AtNo (s : Int) (w : World) (hn : I64 s) (h : s < -62167219200 ∨ 253402300799 < s) :
    Calls Tryz.prog 39 #[.int .i64 s] w fun e w' => e = .returned (.tuple #[cv 0 0 0 0 0 0, .bool false]) ∧ Below w.heap.size w w' := by
  unfold cv
  have hb := Blk.six_new w (.int .i64 0) (.int .i64 0) (.int .i64 0) (.int .i64 0) (.int .i64 0) (.int .i64 0) 76
  obtain ⟨c0, c1, c2, c3, c4, c5⟩ := hb.six
  have f0 := hb.free 0
  have f1 := hb.free 1
  have f2 := hb.free 2
  have f3 := hb.free 3
  have f4 := hb.free 4
  have f5 := hb.free 5
  clear hb
  rcases h with h | h
  · have d1 : decide (s < -62167219200) = true := by simpa using h
    go_enter Tryz.func39, Tryz.ntmps39
    go_wp2
    refine bodyPost_ret (v := .tuple #[.agg #[.int .i64 0, .int .i64 0, .int .i64 0, .int .i64 0, .int .i64 0, .int .i64 0], .bool false]) (by simp [results, Tryz.results39, go_sem]) rfl ?_
    exact ⟨rfl, below_alloc1 _ _⟩
  · have d1 : ¬ s < -62167219200 := by omega
    go_enter Tryz.func39, Tryz.ntmps39
    go_wp2
    refine bodyPost_ret (v := .tuple #[.agg #[.int .i64 0, .int .i64 0, .int .i64 0, .int .i64 0, .int .i64 0, .int .i64 0], .bool false]) (by simp [results, Tryz.results39, go_sem]) rfl ?_
    exact ⟨rfl, below_alloc1 _ _⟩

set_option maxHeartbeats 1600000 in
theorem rf9AtYes (s y m d a b c : Int) (w : World) (hR : RgtC y m d a b c) (hs : sec y m d a b c = s) :
    Calls Tryz.prog 39 #[.int .i64 s] w fun e w' => e = .returned (.tuple #[cv y m d a b c, .bool true]) ∧ Below w.heap.size w w' := by
  unfold cv
  have hr := num_range hR.1
  have h2 := hR.2
  have hs0 : -62167219200 ≤ s ∧ s ≤ 253402300799 := by unfold sec at hs; omega
  obtain ⟨S, hS⟩ : ∃ S, S = s + 62167219200 := ⟨_, rfl⟩
  have q1 : S.tdiv 86400 = S / 86400 := Int.tdiv_eq_ediv_of_nonneg (by omega)
  have q2 : S.tmod 86400 = S % 86400 := Int.tmod_eq_emod_of_nonneg (by omega)
  have q3 : (S % 86400).tmod 3600 = S % 3600 := by rw [Int.tmod_eq_emod_of_nonneg (by omega)]; omega
  have q4 : (S % 86400).tmod 60 = S % 60 := by rw [Int.tmod_eq_emod_of_nonneg (by omega)]; omega
  have q5 : (S % 86400).tdiv 3600 = S % 86400 / 3600 := Int.tdiv_eq_ediv_of_nonneg (by omega)
  have q6 : (S % 3600).tdiv 60 = S % 3600 / 60 := Int.tdiv_eq_ediv_of_nonneg (by omega)
  have hN : S / 86400 - 719528 = num y m d := by unfold sec at hs; omega
  have ha : S % 86400 / 3600 = a := by unfold sec at hs; omega
  have hb' : S % 3600 / 60 = b := by unfold sec at hs; omega
  have hc : S % 60 = c := by unfold sec at hs; omega
  have hO0 := fun W => rf9OfYes y m d W hR.1
  rw [← hN] at hO0
  have hO := Lib.hid hO0
  unfold dv at hO
  have hb := Blk.six_new w (.int .i64 0) (.int .i64 0) (.int .i64 0) (.int .i64 0) (.int .i64 0) (.int .i64 0) 76
  have HB := Lib.hid (below_alloc1 w (.cells #[.int .i64 0, .int .i64 0, .int .i64 0, .int .i64 0, .int .i64 0, .int .i64 0] 76))
  have Hb := Lib.hid hb
  clear hb hO0
  have hS2 : s + 62167219200 = S := hS.symm
  have HA := Lib.hid ha
  have HBb := Lib.hid hb'
  have HCc := Lib.hid hc
  clear hS hs hR hN ha hb' hc
  have hSr : 0 ≤ S ∧ S ≤ 315569519999 := by omega
  go_enter Tryz.func39, Tryz.ntmps39
  go_wp2_with fail
  refine (hO.out _).mono ?_
  rintro e w2 ⟨rfl, hB2⟩
  have Hb2 := Lib.hid (Hb.out.below hB2)
  have HB2 := Lib.hid (HB.out.trans (hB2.mono HB.out.size))
  clear hB2 HB Hb
  have hd3 := Blk.three_new w2 (.int .i64 y) (.int .i64 m) (.int .i64 d) 74
  have Hb3 := Lib.hid (Hb2.out.alloc (.cells #[.int .i64 y, .int .i64 m, .int .i64 d] 74))
  have HB3 := Lib.hid (HB2.out.alloc HB2.out.size (.cells #[.int .i64 y, .int .i64 m, .int .i64 d] 74))
  obtain ⟨d0, d1, d2⟩ := hd3.three
  obtain ⟨c0, c1, c2, c3, c4, c5⟩ := Hb3.out.six
  have f0 := Hb3.out.free 0
  have f1 := Hb3.out.free 1
  have f2 := Hb3.out.free 2
  have f3 := Hb3.out.free 3
  have f4 := Hb3.out.free 4
  have f5 := Hb3.out.free 5
  clear hd3
  go_wp2
  have hF := (((((Hb3.out.set 0 (.int .i64 y)).set 1 (.int .i64 m)).set 2 (.int .i64 d)).set 3 (.int .i64 (S % 86400 / 3600))).set 4 (.int .i64 (S % 3600 / 60))).set 5 (.int .i64 (S % 60))
  have hFB := ((((((Only.refl w.heap.size (w2.alloc (.cells #[.int .i64 y, .int .i64 m, .int .i64 d] 74))).setCell (p := ⟨w.heap.size, 0, none⟩) rfl (.int .i64 y)).setCell (p := ⟨w.heap.size, 1, none⟩) rfl (.int .i64 m)).setCell (p := ⟨w.heap.size, 2, none⟩) rfl (.int .i64 d)).setCell (p := ⟨w.heap.size, 3, none⟩) rfl (.int .i64 (S % 86400 / 3600))).setCell (p := ⟨w.heap.size, 4, none⟩) rfl (.int .i64 (S % 3600 / 60))).setCell (p := ⟨w.heap.size, 5, none⟩) rfl (.int .i64 (S % 60)) |>.below HB3.out (Nat.le_refl _) HB3.out.size
  obtain ⟨e0, e1, e2, e3, e4, e5⟩ := hF.six
  refine bodyPost_ret (v := .tuple #[.agg #[.int .i64 y, .int .i64 m, .int .i64 d, .int .i64 (S % 86400 / 3600), .int .i64 (S % 3600 / 60), .int .i64 (S % 60)], .bool true]) (by simp [results, Tryz.results39, go_sem, e0, e1, e2, e3, e4, e5]) rfl ?_
  exact ⟨by rw [HA.out, HBb.out, HCc.out], hFB⟩
end Go.Proofs.YtepbjjhidemaiaaGreat
