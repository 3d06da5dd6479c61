/-
  Dates as numbers: plain facts, without a program.
-/
import Derived.Lib.Hide
namespace Go.Proofs.YtepbjjhidemaiaaGreat
set_option linter.unusedVariables false
set_option linter.unusedSimpArgs false
set_option maxRecDepth 4000

/-- A long year. -/
def lng (y : Int) : Prop := (y % 4 = 0 ∧ ¬ y % 100 = 0) ∨ y % 400 = 0
instance (y : Int) : Decidable (lng y) := by unfold lng; infer_instance
/-- 1 for a long year, else 0. -/
def lg (y : Int) : Int := if lng y then 1 else 0
theorem lg_cases (y : Int) : (lng y ∧ lg y = 1) ∨ (¬ lng y ∧ lg y = 0) := by
  unfold lg; by_cases h : lng y
  · simp [h]
  · simp [h]
/-- The days of a month. -/
def dys (y m : Int) : Int :=
  if m = 1 ∨ m = 3 ∨ m = 5 ∨ m = 7 ∨ m = 8 ∨ m = 10 ∨ m = 12 then 31 else if m = 4 ∨ m = 6 ∨ m = 9 ∨ m = 11 then 30 else if m = 2 then 28 + lg y else 0
theorem dys_in {y m : Int} (h : 0 < dys y m) : 1 ≤ m ∧ m ≤ 12 := by
  unfold dys at h; split at h
  · omega
  · split at h
    · omega
    · split at h
      · omega
      · omega
theorem dys_le (y m : Int) : 0 ≤ dys y m ∧ dys y m ≤ 31 := by
  have := lg_cases y
  unfold dys; split
  · omega
  · split
    · omega
    · split <;> omega
theorem dys_pos {y m : Int} (h1 : 1 ≤ m) (h2 : m ≤ 12) : 28 ≤ dys y m := by
  have := lg_cases y
  unfold dys; split
  · omega
  · split
    · omega
    · split <;> omega
/-- The days of a year. -/
def yr (y : Int) : Int := 365 + lg y
/-- The days ahead of a year. -/
def ahd (y : Int) : Int := 365 * y + (y + 3) / 4 - (y + 99) / 100 + (y + 399) / 400
theorem ahd_succ (y : Int) : ahd (y + 1) = ahd y + yr y := by
  unfold ahd yr
  rcases lg_cases y with ⟨h, e⟩ | ⟨h, e⟩ <;> rw [e] <;> unfold lng at h <;> omega
theorem ahd_400 (y : Int) : ahd (y + 400) = ahd y + 146097 := by unfold ahd; omega
theorem ahd_zero : ahd 0 = 0 := by decide
theorem ahd_q (q : Int) : ahd (q * 400) = q * 146097 := by unfold ahd; omega
theorem ahd_mono {a b : Int} (h : a ≤ b) : ahd a ≤ ahd b := by unfold ahd; omega
theorem lg_400 (y : Int) : lg (y + 400) = lg y := by
  rcases lg_cases y with ⟨h, e⟩ | ⟨h, e⟩ <;> rcases lg_cases (y + 400) with ⟨h', e'⟩ | ⟨h', e'⟩ <;> rw [e, e'] <;> unfold lng at h h' <;> omega
/-- The days of a year ahead of a month. -/
def mon (y m : Int) : Int :=
  if m ≤ 1 then 0 else if m = 2 then 31 else if m = 3 then 59 + lg y else if m = 4 then 90 + lg y else if m = 5 then 120 + lg y else if m = 6 then 151 + lg y
  else if m = 7 then 181 + lg y else if m = 8 then 212 + lg y else if m = 9 then 243 + lg y else if m = 10 then 273 + lg y else if m = 11 then 304 + lg y else if m = 12 then 334 + lg y else 365 + lg y
theorem months {m : Int} (h1 : 1 ≤ m) (h2 : m ≤ 12) : m = 1 ∨ m = 2 ∨ m = 3 ∨ m = 4 ∨ m = 5 ∨ m = 6 ∨ m = 7 ∨ m = 8 ∨ m = 9 ∨ m = 10 ∨ m = 11 ∨ m = 12 := by omega
theorem mon_succ {y m : Int} (h1 : 1 ≤ m) (h2 : m ≤ 12) : mon y (m + 1) = mon y m + dys y m := by
  rcases months h1 h2 with rfl | rfl | rfl | rfl | rfl | rfl | rfl | rfl | rfl | rfl | rfl | rfl <;> simp [mon, dys] <;> omega
theorem mon_one (y : Int) : mon y 1 = 0 := rfl
theorem mon_end (y : Int) : mon y 13 = yr y := by simp [mon, yr]
theorem mon_mono {y a b : Int} (h1 : 1 ≤ a) (h : a ≤ b) (h2 : b ≤ 13) : mon y a ≤ mon y b := by
  have := lg_cases y
  unfold mon
  repeat' split
  all_goals omega
theorem mon_ge {y a : Int} (h1 : 1 ≤ a) (h2 : a ≤ 13) : 0 ≤ mon y a ∧ mon y a ≤ yr y := by
  have h3 := mon_mono (y := y) (a := 1) (b := a) (by omega) h1 h2
  have h4 := mon_mono (y := y) (a := a) (b := 13) (by omega) h2 (by omega)
  rw [mon_one] at h3; rw [mon_end] at h4; exact ⟨h3, h4⟩

/-- A date with a year from 0 to 9999. -/
def Rgt (y m d : Int) : Prop := 0 ≤ y ∧ y ≤ 9999 ∧ 1 ≤ d ∧ d ≤ dys y m
instance (y m d : Int) : Decidable (Rgt y m d) := by unfold Rgt; infer_instance
theorem Rgt.month {y m d : Int} (h : Rgt y m d) : 1 ≤ m ∧ m ≤ 12 := dys_in (y := y) (by have := h.2.2; omega)
/-- Its number. -/
def num (y m d : Int) : Int := -719528 + ahd y + mon y m + d - 1
/-- a's date is ahead of b's. -/
def Lt3 (y m d y' m' d' : Int) : Prop := y < y' ∨ (y = y' ∧ (m < m' ∨ (m = m' ∧ d < d')))
theorem num_lt {y m d y' m' d' : Int} (h : Rgt y m d) (h' : Rgt y' m' d') (hl : Lt3 y m d y' m' d') : num y m d < num y' m' d' := by
  have a := h.month; have a' := h'.month
  obtain ⟨b1, b2, b3, b4⟩ := h; obtain ⟨c1, c2, c3, c4⟩ := h'
  unfold num
  rcases hl with hl | ⟨rfl, hl | ⟨rfl, hl⟩⟩
  · have h1 := mon_succ (y := y) a.1 a.2
    have h2 := (mon_ge (y := y) (a := m + 1) (by omega) (by omega)).2
    have h3 := (mon_ge (y := y') (a := m') (by omega) (by omega)).1
    have h4 := ahd_mono (a := y + 1) (b := y') (by omega)
    rw [ahd_succ] at h4
    omega
  · have h1 := mon_succ (y := y) a.1 a.2
    have h2 := mon_mono (y := y) (a := m + 1) (b := m') (by omega) (by omega) (by omega)
    omega
  · omega
theorem lt3_total (y m d y' m' d' : Int) : Lt3 y m d y' m' d' ∨ (y = y' ∧ m = m' ∧ d = d') ∨ Lt3 y' m' d' y m d := by unfold Lt3; omega
theorem num_inj {y m d y' m' d' : Int} (h : Rgt y m d) (h' : Rgt y' m' d') (e : num y m d = num y' m' d') : y = y' ∧ m = m' ∧ d = d' := by
  rcases lt3_total y m d y' m' d' with hl | hl | hl
  · have := num_lt h h' hl; omega
  · exact hl
  · have := num_lt h' h hl; omega
theorem num_range {y m d : Int} (h : Rgt y m d) : -719528 ≤ num y m d ∧ num y m d ≤ 2932896 := by
  have a := h.month
  obtain ⟨b1, b2, b3, b4⟩ := h
  have h1 := mon_succ (y := y) a.1 a.2
  have h2 := (mon_ge (y := y) (a := m + 1) (by omega) (by omega)).2
  have h3 := (mon_ge (y := y) (a := m) (by omega) (by omega)).1
  have h4 := ahd_mono b1
  have h5 := ahd_mono (a := y + 1) (b := 10000) (by omega)
  rw [ahd_succ] at h5
  rw [ahd_zero] at h4
  have h6 : ahd 10000 = 3652425 := by decide
  unfold num; omega
/-- The day behind. -/
theorem num_next {y m d y' m' d' : Int} (h : Rgt y m d) (h' : Rgt y' m' d') (e : num y' m' d' = num y m d + 1) :
    (d' = d + 1 ∧ m' = m ∧ y' = y) ∨ (d' = 1 ∧ d = dys y m ∧ ((m' = m + 1 ∧ y' = y) ∨ (m' = 1 ∧ m = 12 ∧ y' = y + 1))) := by
  have a := h.month
  by_cases hd : d < dys y m
  · left
    have hr : Rgt y m (d + 1) := ⟨h.1, h.2.1, by have := h.2.2; omega, by omega⟩
    have := num_inj h' hr (by rw [e]; unfold num; omega)
    omega
  · right
    have hdd : d = dys y m := by have := h.2.2.2; omega
    by_cases hm : m < 12
    · have hr : Rgt y (m + 1) 1 := ⟨h.1, h.2.1, by omega, by have := dys_pos (y := y) (m := m + 1) (by omega) (by omega); omega⟩
      have h1 := mon_succ (y := y) a.1 a.2
      have := num_inj h' hr (by rw [e]; unfold num; omega)
      omega
    · have hm12 : m = 12 := by omega
      subst hm12
      have h1 := mon_succ (y := y) (m := 12) (by omega) (by omega)
      have h2 : mon y (12 + 1) = yr y := mon_end y
      have h3 := ahd_succ y
      by_cases hy : y < 9999
      · have hr : Rgt (y + 1) 1 1 := ⟨by have := h.1; omega, by omega, by omega, by have := dys_pos (y := y + 1) (m := 1) (by omega) (by omega); omega⟩
        have := num_inj h' hr (by rw [e]; unfold num; rw [mon_one]; omega)
        omega
      · exfalso
        have hy2 : y = 9999 := by have := h.2.1; omega
        have h4 := (num_range h').2
        have h5 : ahd (9999 + 1) = 3652425 := by decide
        subst hy2
        unfold num at *
        omega
theorem rgt_400 {y m d : Int} (h : Rgt y m d) (hy : y ≤ 9599) : Rgt (y + 400) m d ∧ num (y + 400) m d = num y m d + 146097 := by
  have e : dys (y + 400) m = dys y m := by unfold dys; rw [lg_400]
  have e2 : mon (y + 400) m = mon y m := by unfold mon; rw [lg_400]
  refine ⟨⟨by have := h.1; omega, by omega, h.2.2.1, by rw [e]; exact h.2.2.2⟩, ?_⟩
  unfold num; rw [e2, ahd_400]; omega
/-- The day of the week. -/
def wkd (n : Int) : Int := (n + 4) % 7
/-- What a date's text is made of. -/
def Year.of (left y : Int) : Prop := 0 ≤ y ∧ ahd y ≤ left ∧ left < ahd (y + 1)
/-- The date, by its year and what is left. -/
theorem rgt_of {n y m left : Int} (hy0 : 0 ≤ y) (hy : y ≤ 9999) (h1 : 1 ≤ m) (h2 : m ≤ 12) (h0 : 0 ≤ left) (hl : left < dys y m) (e : n + 719528 = ahd y + mon y m + left) :
    Rgt y m (left + 1) ∧ num y m (left + 1) = n := by
  refine ⟨⟨hy0, hy, by omega, by omega⟩, ?_⟩
  unfold num; omega
theorem lng_iff_tmod (y : Int) : lng y ↔ ((y.tmod 4 = 0 ∧ ¬ y.tmod 100 = 0) ∨ y.tmod 400 = 0) := by
  unfold lng
  have h : ∀ k : Int, 0 < k → (y.tmod k = 0 ↔ y % k = 0) := fun k hk => by
    rw [← Int.dvd_iff_tmod_eq_zero, ← Int.dvd_iff_emod_eq_zero]
  rw [h 4 (by omega), h 100 (by omega), h 400 (by omega)]
end Go.Proofs.YtepbjjhidemaiaaGreat
