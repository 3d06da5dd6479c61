/-
  The project's date: RightClock.
-/
import Derived.Test.YtepbjjhidemaiaaGreatDe
namespace Go.Proofs.YtepbjjhidemaiaaGreat
open Go.RowKit
set_option linter.unusedVariables false
set_option linter.unusedSimpArgs false
set_option maxRecDepth 4000

/-- A moment as it stands in Go. -/
def cv (y m d a b c : Int) : Value := .agg #[.int .i64 y, .int .i64 m, .int .i64 d, .int .i64 a, .int .i64 b, .int .i64 c]
def RgtC (y m d a b c : Int) : Prop := Rgt y m d ∧ (0 ≤ a ∧ a < 24) ∧ (0 ≤ b ∧ b < 60) ∧ (0 ≤ c ∧ c < 60)
instance (y m d a b c : Int) : Decidable (RgtC y m d a b c) := by unfold RgtC; infer_instance
def sec (y m d a b c : Int) : Int := num y m d * 86400 + 3600 * a + 60 * b + c

set_option maxHeartbeats 1600000 in
theorem dtRightClock (y m d a b c : Int) (w : World) (hy : I64 y) (hm : I64 m) (hd : I64 d) :
    Calls Tryz.prog 61 #[cv y m d a b c] w fun e w' => e = .returned (.bool (decide (RgtC y m d a b c))) ∧ Below w.heap.size w w' := by
  unfold cv
  have hC := Lib.hid (fun W => dtRight y m d W hy hm hd)
  have hBe := Lib.hid dtBelow
  have hb := Blk.new w [.int .i64 y, .int .i64 m, .int .i64 d, .int .i64 a, .int .i64 b, .int .i64 c] 87
  obtain ⟨c0, c1, c2, c3, c4, c5⟩ := hb.six
  have hB := below_alloc1 w (.cells #[.int .i64 y, .int .i64 m, .int .i64 d, .int .i64 a, .int .i64 b, .int .i64 c] 87)
  have HB := Lib.hid hB
  have Hb := Lib.hid hb
  clear hB hb
  have fin : Hid (∀ q, (q = true ↔ RgtC y m d a b c) → Ending.returned (.bool q) = .returned (.bool (decide (RgtC y m d a b c)))) := by
    intro q hq; congr 2; by_cases h : RgtC y m d a b c <;> simp_all
  go_enter Tryz.func61, Tryz.ntmps61
  go_wp2_with fail
  refine (hC.out _).mono ?_
  rintro e w2 ⟨rfl, hB2⟩
  have Hb2 := Lib.hid (Hb.out.below hB2)
  have HB2 := Lib.hid (HB.out.trans (hB2.mono HB.out.size))
  clear c0 c1 c2 c3 c4 c5 hB2
  obtain ⟨c0, c1, c2, c3, c4, c5⟩ := Hb2.out.six
  by_cases h1 : Rgt y m d
  · have e1 : decide (Rgt y m d) = true := by simpa using h1
    have H1 := Lib.hid h1
    rw [e1]
    clear h1 e1
    go_wp2_with fail
    refine (hBe.out _ _ _).mono ?_
    rintro e w3 ⟨rfl, rfl⟩
    by_cases h2 : 0 ≤ a ∧ a < 24
    · have e2 : decide (0 ≤ a ∧ a < 24) = true := by simpa using h2
      have H2 := Lib.hid h2
      rw [e2]
      clear h2 e2
      go_wp2_with fail
      refine (hBe.out _ _ _).mono ?_
      rintro e w3 ⟨rfl, rfl⟩
      by_cases h3 : 0 ≤ b ∧ b < 60
      · have e3 : decide (0 ≤ b ∧ b < 60) = true := by simpa using h3
        have H3 := Lib.hid h3
        rw [e3]
        clear h3 e3
        go_wp2_with fail
        refine (hBe.out _ _ _).mono ?_
        rintro e w3 ⟨rfl, rfl⟩
        by_cases h4 : 0 ≤ c ∧ c < 60
        · have e4 : decide (0 ≤ c ∧ c < 60) = true := by simpa using h4
          have H4 := Lib.hid h4
          rw [e4]
          clear h4 e4
          go_wp2
          go_ret
          exact ⟨fin.out _ ⟨fun _ => ⟨H1.out, H2.out, H3.out, H4.out⟩, fun _ => rfl⟩, HB2.out⟩
        · have e4 : decide (0 ≤ c ∧ c < 60) = false := by simpa using h4
          have H4 := Lib.hid h4
          rw [e4]
          clear h4 e4
          go_wp2
          go_ret
          exact ⟨fin.out _ ⟨fun h => by simp at h, fun h => absurd h.2.2.2 H4.out⟩, HB2.out⟩
      · have e3 : decide (0 ≤ b ∧ b < 60) = false := by simpa using h3
        have H3 := Lib.hid h3
        rw [e3]
        clear h3 e3
        go_wp2
        go_ret
        exact ⟨fin.out _ ⟨fun h => by simp at h, fun h => absurd h.2.2.1 H3.out⟩, HB2.out⟩
    · have e2 : decide (0 ≤ a ∧ a < 24) = false := by simpa using h2
      have H2 := Lib.hid h2
      rw [e2]
      clear h2 e2
      go_wp2
      go_ret
      exact ⟨fin.out _ ⟨fun h => by simp at h, fun h => absurd h.2.1 H2.out⟩, HB2.out⟩
  · have e1 : decide (Rgt y m d) = false := by simpa using h1
    have H1 := Lib.hid h1
    rw [e1]
    clear h1 e1
    go_wp2
    go_ret
    exact ⟨fin.out _ ⟨fun h => by simp at h, fun h => absurd h.1 H1.out⟩, HB2.out⟩

set_option maxHeartbeats 1600000 in
theorem dtSecondNo (y m d a b c : Int) (w : World) (hy : I64 y) (hm : I64 m) (hd : I64 d) (hR : ¬ RgtC y m d a b c) :
    Calls Tryz.prog 42 #[cv y m d a b c] w fun e w' => e = .returned (.tuple #[.int .i64 0, .int .i64 1]) ∧ Below w.heap.size w w' := by
  have hC := Lib.hid (fun (h : ¬ Rgt y m d) W => dtNumberNo y m d W hy hm hd h)
  have hC2 := Lib.hid (fun (h : Rgt y m d) W => dtNumberYes y m d W h)
  have hCl := Lib.hid (fun W => dtRightClock y m d a b c W hy hm hd)
  have hF : decide (RgtC y m d a b c) = false := by simpa using hR
  unfold cv at *
  have hb := Blk.new w [.int .i64 y, .int .i64 m, .int .i64 d, .int .i64 a, .int .i64 b, .int .i64 c] 87
  obtain ⟨c0, c1, c2, c3, c4, c5⟩ := hb.six
  have hB := below_alloc1 w (.cells #[.int .i64 y, .int .i64 m, .int .i64 d, .int .i64 a, .int .i64 b, .int .i64 c] 87)
  have HB := Lib.hid hB
  have Hb := Lib.hid hb
  clear hB hb hR
  go_enter Tryz.func42, Tryz.ntmps42
  go_wp2_with fail
  by_cases h1 : Rgt y m d
  · have hr := num_range h1
    refine (hC2.out h1 _).mono ?_
    rintro e w2 ⟨rfl, hB2⟩
    generalize num y m d = N at *
    have Hb2 := Lib.hid (Hb.out.below hB2)
    have HB2 := Lib.hid (HB.out.trans (hB2.mono HB.out.size))
    clear c0 c1 c2 c3 c4 c5 hB2 h1
    obtain ⟨c0, c1, c2, c3, c4, c5⟩ := Hb2.out.six
    go_wp2_with fail
    refine (hCl.out _).mono ?_
    rintro e w3 ⟨rfl, hB3⟩
    rw [hF]
    have HB3 := Lib.hid (HB2.out.trans (hB3.mono HB2.out.size))
    clear c0 c1 c2 c3 c4 c5 hB3
    go_wp2
    go_ret2
    exact ⟨rfl, HB3.out⟩
  · refine (hC.out h1 _).mono ?_
    rintro e w2 ⟨rfl, hB2⟩
    have HB2 := Lib.hid (HB.out.trans (hB2.mono HB.out.size))
    clear c0 c1 c2 c3 c4 c5 hB2 h1
    go_wp2
    go_ret2
    exact ⟨rfl, HB2.out⟩

set_option maxHeartbeats 1600000 in
theorem dtSecondYes (y m d a b c : Int) (w : World) (hR : RgtC y m d a b c) :
    Calls Tryz.prog 42 #[cv y m d a b c] w fun e w' => e = .returned (.tuple #[.int .i64 (sec y m d a b c), .int .i64 0]) ∧ Below w.heap.size w w' := by
  obtain ⟨h1, h2, h3, h4⟩ := id hR
  have hr := num_range h1
  obtain ⟨g1, g2, g3, g4⟩ := id h1
  have g5 := (dys_le y m).2
  have g6 := h1.month
  have hC2 := Lib.hid (fun W => dtNumberYes y m d W h1)
  have hCl := Lib.hid (fun W => dtRightClock y m d a b c W (by unfold I64; omega) (by unfold I64; omega) (by unfold I64; omega))
  have hF : decide (RgtC y m d a b c) = true := by simpa using hR
  have fin : Hid (∀ q, q = sec y m d a b c → Ending.returned (.tuple #[.int .i64 q, .int .i64 0]) = .returned (.tuple #[.int .i64 (sec y m d a b c), .int .i64 0])) := by rintro q rfl; rfl
  unfold cv at *
  have hb := Blk.new w [.int .i64 y, .int .i64 m, .int .i64 d, .int .i64 a, .int .i64 b, .int .i64 c] 87
  obtain ⟨c0, c1, c2, c3, c4, c5⟩ := hb.six
  have hB := below_alloc1 w (.cells #[.int .i64 y, .int .i64 m, .int .i64 d, .int .i64 a, .int .i64 b, .int .i64 c] 87)
  have HB := Lib.hid hB
  have Hb := Lib.hid hb
  clear hB hb hR h1 g1 g2 g3 g4 g5 g6
  go_enter Tryz.func42, Tryz.ntmps42
  go_wp2_with fail
  refine (hC2.out _).mono ?_
  rintro e w2 ⟨rfl, hB2⟩
  have Hb2 := Lib.hid (Hb.out.below hB2)
  have HB2 := Lib.hid (HB.out.trans (hB2.mono HB.out.size))
  clear c0 c1 c2 c3 c4 c5 hB2
  obtain ⟨c0, c1, c2, c3, c4, c5⟩ := Hb2.out.six
  go_wp2_with fail
  refine (hCl.out _).mono ?_
  rintro e w3 ⟨rfl, hB3⟩
  rw [hF]
  have HB3 := Lib.hid (HB2.out.trans (hB3.mono HB2.out.size))
  have Hb3 := Lib.hid (Hb2.out.below hB3)
  clear c0 c1 c2 c3 c4 c5 hB3
  obtain ⟨c0, c1, c2, c3, c4, c5⟩ := Hb3.out.six
  go_wp2
  go_ret2
  exact ⟨fin.out _ (by unfold sec; omega), HB3.out⟩
end Go.Proofs.YtepbjjhidemaiaaGreat
