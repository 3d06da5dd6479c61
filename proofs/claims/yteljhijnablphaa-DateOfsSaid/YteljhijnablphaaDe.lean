/-
  The project's date: Compare; below, RightClock.
-/
import Derived.Test.YteljhijnablphaaDd
namespace Go.Proofs.Yteljhijnablphaa
open Go.RowKit
set_option linter.unusedVariables false
set_option linter.unusedSimpArgs false
set_option maxRecDepth 4000

def cmpI (x y : Int) : Int := if x < y then -1 else if y < x then 1 else 0
instance (y m d y' m' d' : Int) : Decidable (Lt3 y m d y' m' d') := by unfold Lt3; infer_instance
/-- Which date is ahead. -/
def cmp3 (y m d y' m' d' : Int) : Int := if Lt3 y m d y' m' d' then -1 else if Lt3 y' m' d' y m d then 1 else 0
def or3 (a b c : Int) : Int := if a = 0 then (if b = 0 then c else b) else a
theorem cmp3_or (y m d y' m' d' : Int) : or3 (cmpI y y') (cmpI m m') (cmpI d d') = cmp3 y m d y' m' d' := by
  have h1 : ∀ a b : Int, (a < b ∧ cmpI a b = -1) ∨ (b < a ∧ cmpI a b = 1) ∨ (a = b ∧ cmpI a b = 0) := by
    intro a b; unfold cmpI; split
    · left; omega
    · split
      · right; left; omega
      · right; right; omega
  have h2 : (Lt3 y m d y' m' d' ∧ cmp3 y m d y' m' d' = -1) ∨ (Lt3 y' m' d' y m d ∧ ¬ Lt3 y m d y' m' d' ∧ cmp3 y m d y' m' d' = 1) ∨ (¬ Lt3 y m d y' m' d' ∧ ¬ Lt3 y' m' d' y m d ∧ cmp3 y m d y' m' d' = 0) := by
    unfold cmp3; split
    · left; exact ⟨by assumption, rfl⟩
    · split
      · right; left; exact ⟨by assumption, by assumption, rfl⟩
      · right; right; exact ⟨by assumption, by assumption, rfl⟩
  unfold or3
  rcases h1 y y' with ⟨a1, a2⟩ | ⟨a1, a2⟩ | ⟨a1, a2⟩ <;> rcases h1 m m' with ⟨b1, b2⟩ | ⟨b1, b2⟩ | ⟨b1, b2⟩ <;> rcases h1 d d' with ⟨c1, c2⟩ | ⟨c1, c2⟩ | ⟨c1, c2⟩ <;>
    rw [a2, b2, c2] <;> simp only [Int.reduceNeg, Int.neg_eq_zero, if_neg, if_true, reduceCtorEq, Int.one_ne_zero, not_false_eq_true, if_false] <;>
    rcases h2 with ⟨e1, e2⟩ | ⟨e1, e0, e2⟩ | ⟨e1, e0, e2⟩ <;> rw [e2] <;> unfold Lt3 at * <;> omega

set_option maxHeartbeats 800000 in
theorem cmpNaN (x : Int) (w : World) : Calls Try.prog 45 #[.int .i64 x] w fun e w' => e = .returned (.bool false) ∧ w' = w := by
  go_enter Try.func45, Try.ntmps45
  go_wp2
  go_ret
  exact ⟨rfl, rfl⟩

set_option maxHeartbeats 800000 in
theorem cmpInt (x y : Int) (w : World) : Calls Try.prog 40 #[.int .i64 x, .int .i64 y] w fun e w' => e = .returned (.int .i64 (cmpI x y)) ∧ w' = w := by
  go_enter Try.func40, Try.ntmps40
  go_wp2_with fail
  refine (cmpNaN _ _).mono ?_
  rintro e w' ⟨rfl, rfl⟩
  go_wp2_with fail
  refine (cmpNaN _ _).mono ?_
  rintro e w'' ⟨rfl, rfl⟩
  by_cases h1 : x < y
  · have hF : Hid (cmpI x y = -1) := by unfold Hid cmpI; rw [if_pos h1]
    go_wp2
    go_ret
    exact ⟨by rw [hF.out]; rfl, rfl⟩
  · by_cases h2 : y < x
    · have hF : Hid (cmpI x y = 1) := by unfold Hid cmpI; rw [if_neg h1, if_pos h2]
      go_wp2
      go_ret
      exact ⟨by rw [hF.out]; rfl, rfl⟩
    · have hF : Hid (cmpI x y = 0) := by unfold Hid cmpI; rw [if_neg h1, if_neg h2]
      go_wp2
      go_ret
      exact ⟨by rw [hF.out]; rfl, rfl⟩

set_option maxHeartbeats 800000 in
theorem cmpOr (a b c : Int) (g : Nat) (w : World) (h : Blk w g 3 [.int .i64 a, .int .i64 b, .int .i64 c]) :
    Calls Try.prog 39 #[.slice (some ⟨g, 0, none⟩) 3 3] w fun e w' => e = .returned (.int .i64 (or3 a b c)) ∧ w' = w := by
  obtain ⟨c0, c1, c2⟩ := h.three
  clear h
  go_enter Try.func39, Try.ntmps39
  go_wp2
  go_loopw [8] (fun i wr => ∃ k : Nat, k ≤ 3 ∧ i = .int .i64 (k : Int) ∧ (1 ≤ k → a = 0) ∧ (2 ≤ k → b = 0) ∧ (3 ≤ k → c = 0) ∧ wr = w) (fun i _ => (3 - intOf i).toNat)
  case atStart => exact ⟨0, by omega, rfl, by omega, by omega, by omega, rfl⟩
  case round =>
    obtain ⟨k, hk, rfl, ha, hb, hc, rfl⟩ := hrel
    have h4 : k = 0 ∨ k = 1 ∨ k = 2 ∨ k = 3 := by omega
    rcases h4 with rfl | rfl | rfl | rfl
    · have ha' : Hid (True) := by unfold Hid; first | trivial | exact ⟨ha (by omega), hb (by omega)⟩ | exact ha (by omega)
      clear ha hb hc
      by_cases hz : a = 0
      · have HZ := Lib.hid hz
        have hzb : (a != 0) = false := by simp [hz]
        clear hz
        go_wp2
        go_roundw
        case rel => exact ⟨1, by omega, by go_num, by first | (intro _; exact HZ.out) | (intro _; exact ha'.out) | (intro _; exact ha'.out.1), by first | omega | (intro _; exact HZ.out) | (intro _; exact ha'.out.2), by first | omega | (intro _; exact HZ.out), by trivial⟩
        case measure => simp [intOf]
      · have hF : Hid (or3 a b c = a) := by
          have := ha'.out
          unfold Hid or3; simp_all
        go_wp2
        go_ret
        exact ⟨by rw [hF.out]; rfl, rfl⟩
    · have ha' : Hid (a = 0) := by unfold Hid; first | trivial | exact ⟨ha (by omega), hb (by omega)⟩ | exact ha (by omega)
      clear ha hb hc
      by_cases hz : b = 0
      · have HZ := Lib.hid hz
        have hzb : (b != 0) = false := by simp [hz]
        clear hz
        go_wp2
        go_roundw
        case rel => exact ⟨2, by omega, by go_num, by first | (intro _; exact HZ.out) | (intro _; exact ha'.out) | (intro _; exact ha'.out.1), by first | omega | (intro _; exact HZ.out) | (intro _; exact ha'.out.2), by first | omega | (intro _; exact HZ.out), by trivial⟩
        case measure => simp [intOf]
      · have hF : Hid (or3 a b c = b) := by
          have := ha'.out
          unfold Hid or3; simp_all
        go_wp2
        go_ret
        exact ⟨by rw [hF.out]; rfl, rfl⟩
    · have ha' : Hid (a = 0 ∧ b = 0) := by unfold Hid; first | trivial | exact ⟨ha (by omega), hb (by omega)⟩ | exact ha (by omega)
      clear ha hb hc
      by_cases hz : c = 0
      · have HZ := Lib.hid hz
        have hzb : (c != 0) = false := by simp [hz]
        clear hz
        go_wp2
        go_roundw
        case rel => exact ⟨3, by omega, by go_num, by first | (intro _; exact HZ.out) | (intro _; exact ha'.out) | (intro _; exact ha'.out.1), by first | omega | (intro _; exact HZ.out) | (intro _; exact ha'.out.2), by first | omega | (intro _; exact HZ.out), by trivial⟩
        case measure => simp [intOf]
      · have hF : Hid (or3 a b c = c) := by
          have := ha'.out
          unfold Hid or3; simp_all
        go_wp2
        go_ret
        exact ⟨by rw [hF.out]; rfl, rfl⟩
    · have hF : Hid (or3 a b c = 0) := by
        have h1 := ha (by omega); have h2 := hb (by omega); have h3 := hc (by omega)
        unfold Hid or3; simp_all
      clear ha hb hc
      go_wp2
      go_ret
      exact ⟨by rw [hF.out]; rfl, rfl⟩

set_option maxHeartbeats 1600000 in
theorem dtCompare (y m d y' m' d' : Int) (w : World) :
    Calls Try.prog 22 #[dv y m d, dv y' m' d'] w fun e w' => e = .returned (.int .i64 (cmp3 y m d y' m' d')) ∧ Below w.heap.size w w' := by
  unfold dv
  rw [← cmp3_or]
  have hb1 := (Blk.new w [.int .i64 y, .int .i64 m, .int .i64 d] 27).alloc (.cells #[.int .i64 y', .int .i64 m', .int .i64 d'] 27)
  have hb2 := Blk.new (w.alloc (.cells #[.int .i64 y, .int .i64 m, .int .i64 d] 27)) [.int .i64 y', .int .i64 m', .int .i64 d'] 27
  have hsz : (w.alloc (.cells #[.int .i64 y, .int .i64 m, .int .i64 d] 27)).heap.size = w.heap.size + 1 := by simp
  rw [hsz] at hb2
  have hB := below_alloc2 w (.cells #[.int .i64 y, .int .i64 m, .int .i64 d] 27) (.cells #[.int .i64 y', .int .i64 m', .int .i64 d'] 27)
  obtain ⟨a0, a1, a2⟩ := hb1.three
  obtain ⟨b0, b1, b2⟩ := hb2.three
  have hCI := Lib.hid cmpInt
  have hOr := Lib.hid (fun g W h => cmpOr (cmpI y y') (cmpI m m') (cmpI d d') g W h)
  clear hb1 hb2 hsz
  have HB := Lib.hid hB
  clear hB
  go_enter Try.func22, Try.ntmps22
  go_upto_region 1 with fail
  generalize (w.alloc (.cells #[.int .i64 y, .int .i64 m, .int .i64 d] 27)).alloc (.cells #[.int .i64 y', .int .i64 m', .int .i64 d'] 27) = w1 at *
  refine wp_region_still_tail 15 (by kernel_rfl) (by kernel_rfl) ?_
  simp only [List.take_succ_cons, List.take_zero, List.drop_succ_cons, List.drop_zero]

  still_step
  still_step
  still_step
  still_step
  still_call (hCI.out _ _ _)
  still_step
  still_step
  still_step
  still_step
  still_call (hCI.out _ _ _)
  still_step
  still_step
  still_step
  still_step
  still_call (hCI.out _ _ _)
  refine wpStill_nil ?_
  have hs1 : Hid (Blk (w1.alloc (.cells #[.int .i64 (cmpI y y'), .int .i64 (cmpI m m'), .int .i64 (cmpI d d')] 3)).drew w1.heap.size 3 [.int .i64 (cmpI y y'), .int .i64 (cmpI m m'), .int .i64 (cmpI d d')]) := Blk.new w1 [.int .i64 (cmpI y y'), .int .i64 (cmpI m m'), .int .i64 (cmpI d d')] 3
  have hs2 : Hid (Below w.heap.size w (w1.alloc (.cells #[.int .i64 (cmpI y y'), .int .i64 (cmpI m m'), .int .i64 (cmpI d d')] 3)).drew) := below_drewN (HB.out.alloc HB.out.size _) 1
  go_wp2_with fail
  refine (hOr.out _ _ hs1.out).mono ?_
  rintro e w2 ⟨rfl, rfl⟩
  go_wp2
  go_ret
  exact ⟨rfl, hs2.out⟩

set_option maxHeartbeats 800000 in
theorem dtBelow (x b : Int) (w : World) :
    Calls Try.prog 41 #[.int .i64 x, .int .i64 b] w fun e w' => e = .returned (.bool (decide (0 ≤ x ∧ x < b))) ∧ w' = w := by
  go_enter Try.func41, Try.ntmps41
  by_cases h1 : 0 ≤ x
  · by_cases h2 : x < b
    · have hF : decide (0 ≤ x ∧ x < b) = true := by simp; omega
      go_wp2
      go_ret
      exact ⟨by rw [hF]; rfl, rfl⟩
    · have hF : decide (0 ≤ x ∧ x < b) = false := by simp; omega
      have h3 : decide (x < b) = false := by simp; omega
      go_wp2
      go_ret
      first | exact ⟨rfl, rfl⟩ | exact ⟨by rw [hF]; rfl, rfl⟩
  · have hF : decide (0 ≤ x ∧ x < b) = false := by simp; omega
    have h3 : decide (0 ≤ x) = false := by simp; omega
    go_wp2
    go_ret
    first | exact ⟨rfl, rfl⟩ | exact ⟨by rw [hF]; rfl, rfl⟩

end Go.Proofs.Yteljhijnablphaa
