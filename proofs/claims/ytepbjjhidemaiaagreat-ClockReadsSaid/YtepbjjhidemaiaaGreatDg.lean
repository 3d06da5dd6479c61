/-
  The project's date: At.
-/
import Derived.Test.YtepbjjhidemaiaaGreatDf
namespace Go.Proofs.YtepbjjhidemaiaaGreat
open Go.RowKit
set_option linter.unusedVariables false
set_option linter.unusedSimpArgs false
set_option maxRecDepth 4000

theorem Blk.six_new (w : World) (a b c d e f : Value) (t : TypeId) : Blk (w.alloc (.cells #[a, b, c, d, e, f] t)) w.heap.size t [a, b, c, d, e, f] := Blk.new w [a, b, c, d, e, f] t
theorem Blk.three_new (w : World) (a b c : Value) (t : TypeId) : Blk (w.alloc (.cells #[a, b, c] t)) w.heap.size t [a, b, c] := Blk.new w [a, b, c] t
/-- What At hands back. -/
def AtOk (s : Int) (w : World) (e : Ending) (w' : World) : Prop :=
  (∃ y m d a b c : Int, e = .returned (.tuple #[cv y m d a b c, .int .i64 0]) ∧ RgtC y m d a b c ∧ sec y m d a b c = s) ∧ Below w.heap.size w w'

set_option maxHeartbeats 800000 in
theorem dtAtNo (s : Int) (w : World) (hn : I64 s) (h : s < -62167219200 ∨ 253402300799 < s) :
    Calls Tryz.prog 44 #[.int .i64 s] w fun e w' => e = .returned (.tuple #[cv 0 0 0 0 0 0, .int .i64 1]) ∧ Below w.heap.size w w' := by
  unfold cv
  have hb := Blk.six_new w (.int .i64 0) (.int .i64 0) (.int .i64 0) (.int .i64 0) (.int .i64 0) (.int .i64 0) 87
  obtain ⟨c0, c1, c2, c3, c4, c5⟩ := hb.six
  have f0 := hb.free 0
  have f1 := hb.free 1
  have f2 := hb.free 2
  have f3 := hb.free 3
  have f4 := hb.free 4
  have f5 := hb.free 5
  clear hb
  rcases h with h | h
  · have d1 : decide (s < -62167219200) = true := by simpa using h
    go_enter Tryz.func44, Tryz.ntmps44
    go_wp2
    refine bodyPost_ret (v := .tuple #[.agg #[.int .i64 0, .int .i64 0, .int .i64 0, .int .i64 0, .int .i64 0, .int .i64 0], .int .i64 1]) (by simp [results, Tryz.results44, go_sem]) rfl ?_
    exact ⟨rfl, below_alloc1 _ _⟩
  · have d1 : ¬ s < -62167219200 := by omega
    go_enter Tryz.func44, Tryz.ntmps44
    go_wp2
    refine bodyPost_ret (v := .tuple #[.agg #[.int .i64 0, .int .i64 0, .int .i64 0, .int .i64 0, .int .i64 0, .int .i64 0], .int .i64 1]) (by simp [results, Tryz.results44, go_sem]) rfl ?_
    exact ⟨rfl, below_alloc1 _ _⟩

set_option maxHeartbeats 1600000 in
theorem dtAtYes (s : Int) (w : World) (h0 : -62167219200 ≤ s) (h1 : s ≤ 253402300799) :
    Calls Tryz.prog 44 #[.int .i64 s] w (AtOk s w) := by
  obtain ⟨S, hS⟩ : ∃ S, S = s + 62167219200 := ⟨_, rfl⟩
  have q1 : S.tdiv 86400 = S / 86400 := Int.tdiv_eq_ediv_of_nonneg (by omega)
  have q2 : S.tmod 86400 = S % 86400 := Int.tmod_eq_emod_of_nonneg (by omega)
  have q3 : S.tmod 3600 = S % 3600 := Int.tmod_eq_emod_of_nonneg (by omega)
  have q4 : S.tmod 60 = S % 60 := Int.tmod_eq_emod_of_nonneg (by omega)
  have hO := Lib.hid (fun W => dtOfYes (-719528 + S / 86400) W (by omega) (by omega))
  have hb := Blk.six_new w (.int .i64 0) (.int .i64 0) (.int .i64 0) (.int .i64 0) (.int .i64 0) (.int .i64 0) 87
  have HB := Lib.hid (below_alloc1 w (.cells #[.int .i64 0, .int .i64 0, .int .i64 0, .int .i64 0, .int .i64 0, .int .i64 0] 87))
  have Hb := Lib.hid hb
  clear hb
  have hS2 : s + 62167219200 = S := hS.symm
  have HS := Lib.hid hS
  clear hS
  go_enter Tryz.func44, Tryz.ntmps44
  go_wp2_with fail
  refine (hO.out _).mono ?_
  rintro e w2 ⟨⟨y, m, d, rfl, hr, hnm⟩, hB2⟩
  unfold dv
  have fin : Hid (∀ wx, Below w.heap.size w wx → AtOk s w (.returned (.tuple #[cv y m d (S % 86400 / 3600) (S % 3600 / 60) (S % 60), .int .i64 0])) wx) := by
    intro wx hwx
    refine ⟨⟨_, _, _, _, _, _, rfl, ⟨hr, by omega, by omega, by omega⟩, ?_⟩, hwx⟩
    have := HS.out
    unfold sec; rw [hnm]; omega
  unfold cv at fin
  have q5 : (S % 86400).tdiv 3600 = S % 86400 / 3600 := Int.tdiv_eq_ediv_of_nonneg (by omega)
  have q6 : (S % 3600).tdiv 60 = S % 3600 / 60 := Int.tdiv_eq_ediv_of_nonneg (by omega)
  have Hb2 := Lib.hid (Hb.out.below hB2)
  have HB2 := Lib.hid (HB.out.trans (hB2.mono HB.out.size))
  clear hB2 hr hnm HB Hb
  have hd3 : Blk (w2.alloc (.cells #[.int .i64 y, .int .i64 m, .int .i64 d] 85)) w2.heap.size 85 [.int .i64 y, .int .i64 m, .int .i64 d] := Blk.three_new _ _ _ _ _
  have Hb3 := Lib.hid (Hb2.out.alloc (.cells #[.int .i64 y, .int .i64 m, .int .i64 d] 85))
  have HB3 := Lib.hid (HB2.out.alloc HB2.out.size (.cells #[.int .i64 y, .int .i64 m, .int .i64 d] 85))
  obtain ⟨d0, d1, d2⟩ := hd3.three
  obtain ⟨c0, c1, c2, c3, c4, c5⟩ := Hb3.out.six
  have f0 := Hb3.out.free 0
  have f1 := Hb3.out.free 1
  have f2 := Hb3.out.free 2
  have f3 := Hb3.out.free 3
  have f4 := Hb3.out.free 4
  have f5 := Hb3.out.free 5
  clear hd3
  go_wp2
  have hF := (((((Hb3.out.set 0 (.int .i64 y)).set 1 (.int .i64 m)).set 2 (.int .i64 d)).set 3 (.int .i64 (S % 86400 / 3600))).set 4 (.int .i64 (S % 3600 / 60))).set 5 (.int .i64 (S % 60))
  have hFB := ((((((Only.refl w.heap.size (w2.alloc (.cells #[.int .i64 y, .int .i64 m, .int .i64 d] 85))).setCell (p := ⟨w.heap.size, 0, none⟩) rfl (.int .i64 y)).setCell (p := ⟨w.heap.size, 1, none⟩) rfl (.int .i64 m)).setCell (p := ⟨w.heap.size, 2, none⟩) rfl (.int .i64 d)).setCell (p := ⟨w.heap.size, 3, none⟩) rfl (.int .i64 (S % 86400 / 3600))).setCell (p := ⟨w.heap.size, 4, none⟩) rfl (.int .i64 (S % 3600 / 60))).setCell (p := ⟨w.heap.size, 5, none⟩) rfl (.int .i64 (S % 60)) |>.below HB3.out (Nat.le_refl _) HB3.out.size
  obtain ⟨e0, e1, e2, e3, e4, e5⟩ := hF.six
  refine bodyPost_ret (v := .tuple #[.agg #[.int .i64 y, .int .i64 m, .int .i64 d, .int .i64 (S % 86400 / 3600), .int .i64 (S % 3600 / 60), .int .i64 (S % 60)], .int .i64 0]) ?_ rfl ?_
  · simp [results, Tryz.results44, go_sem, e0, e1, e2, e3, e4, e5]
  exact fin.out _ hFB
end Go.Proofs.YtepbjjhidemaiaaGreat
