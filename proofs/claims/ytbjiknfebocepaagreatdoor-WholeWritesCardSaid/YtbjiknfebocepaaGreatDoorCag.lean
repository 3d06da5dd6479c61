/-
  The program's Contents and the reference's agree: no program.
-/
import Derived.Test.YtbjiknfebocepaaGreatDoorR3j
namespace Go.Proofs.YtbjiknfebocepaaGreatDoor
open Go.RowKit Go.Joins
set_option linter.unusedVariables false
set_option linter.unusedSimpArgs false

theorem cont_agree {x s : Nm} {m : Nat} {B : List UInt8} (hx : x.ok) (hs : s.ok) (hz : s.z = if x.z < 0 then -1 - x.z else x.z) (h1 : 1 ≤ m) (hg : Good x.below (val x.size) m)
    (hb : ∀ m', 1 ≤ m' → m' < m → ¬ Good x.below (val x.size) m') (hl : B.length = m) (hv : if x.below then val B + val x.size = 256 ^ m else val B = val x.size) :
    m = bitsL s.size / 8 + 1 ∧ B = contB (decide (x.z < 0)) s.size := by
  have hn := Nm.neg_iff hx
  have hns := Nm.neg_iff hs
  have hsz : s.below = false ∧ (val s.size : Int) = if x.z < 0 then -1 - x.z else x.z := by
    have h0 : ¬ s.z < 0 := by rw [hz]; split <;> omega
    have hb' : s.below = false := by
      cases h : s.below with
      | false => rfl
      | true => exact absurd (hns.1 h) h0
    refine ⟨hb', ?_⟩
    rw [← hz]; simp [Nm.z, hb']
  have hgood : ∀ k, Good x.below (val x.size) k ↔ val s.size < 128 * 256 ^ (k - 1) := by
    intro k
    have h2 := hsz.2
    unfold Good
    cases hp : x.below with
    | false =>
      have h3 : ¬ x.z < 0 := fun h => by have := hn.2 h; rw [hp] at this; cases this
      rw [if_neg h3] at h2
      have h4 : x.z = (val x.size : Int) := by simp [Nm.z, hp]
      simp only [Bool.false_eq_true, if_false]
      omega
    | true =>
      have h3 := hn.1 hp
      rw [if_pos h3] at h2
      have h4 : x.z = -(val x.size : Int) := by simp [Nm.z, hp]
      simp only [if_true]
      omega
  have hm : m = bitsL s.size / 8 + 1 := by
    rcases Nat.lt_trichotomy m (bitsL s.size / 8 + 1) with h | h | h
    · have h2 := con_least hs.1 h1 h
      have h3 := (hgood m).1 hg
      omega
    · exact h
    · exact absurd ((hgood _).2 (con_enough s.size)) (hb _ (by omega) h)
  refine ⟨hm, ?_⟩
  have hcv := contB_val hs.1
  refine val_inj (by rw [hl, contB_len hs.1, hm]) ?_
  have h2 := hsz.2
  cases hp : x.below with
  | false =>
    have h3 : ¬ x.z < 0 := fun h => by have := hn.2 h; rw [hp] at this; cases this
    have h4 : x.z = (val x.size : Int) := by simp [Nm.z, hp]
    rw [if_neg h3] at h2
    rw [hp] at hv
    simp only [Bool.false_eq_true, if_false] at hv
    rw [decide_eq_false h3, hcv.1]
    omega
  | true =>
    have h3 := hn.1 hp
    have h4 : x.z = -(val x.size : Int) := by simp [Nm.z, hp]
    rw [if_pos h3] at h2
    rw [hp] at hv
    simp only [if_true] at hv
    rw [decide_eq_true h3]
    have := hcv.2
    rw [← hm] at this
    omega
end Go.Proofs.YtbjiknfebocepaaGreatDoor
