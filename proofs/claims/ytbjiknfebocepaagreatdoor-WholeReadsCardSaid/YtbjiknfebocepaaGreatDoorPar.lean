/-
  Plain facts: which contents are given back by the number that they make.
-/
import Derived.Test.YtbjiknfebocepaaGreatDoorCag
import Derived.Test.YtbjiknfebocepaaGreatDoorWk
import Derived.Test.YtbjiknfebocepaaGreatDoorR3j
namespace Go.Proofs.YtbjiknfebocepaaGreatDoor
open Go.RowKit
set_option linter.unusedVariables false
set_option linter.unusedSimpArgs false
set_option maxRecDepth 4000

theorem val_le_two {X Y P R V : Nat} (hV : V = X * (P * 256) + (Y * P + R)) (hR : R < P) : V < 128 * P ↔ X = 0 ∧ Y < 128 := by
  constructor
  · intro h
    have h0 : X = 0 := by
      rcases Nat.eq_zero_or_pos X with h0 | h0
      · exact h0
      · have := Nat.mul_le_mul_right (P * 256) (show 1 ≤ X from h0); omega
    subst h0
    refine ⟨rfl, ?_⟩
    rcases Nat.lt_or_ge Y 128 with h1 | h1
    · exact h1
    · have := Nat.mul_le_mul_right P h1; omega
  · rintro ⟨rfl, h1⟩
    have := Nat.mul_le_mul_right P (show Y ≤ 127 by omega)
    omega
theorem val_ge_two {X Y P R V : Nat} (hV : V = X * (P * 256) + (Y * P + R)) (hR : R < P) (hX : X < 256) (hY : Y < 256) : P * 256 * 256 ≤ V + 128 * P ↔ X = 255 ∧ 128 ≤ Y := by
  constructor
  · intro h
    have h0 : X = 255 := by
      rcases Nat.lt_or_ge X 255 with h0 | h0
      · have h1 := Nat.mul_le_mul_right (P * 256) (show X ≤ 254 by omega)
        have h2 := Nat.mul_le_mul_right P (show Y ≤ 255 by omega)
        omega
      · omega
    subst h0
    refine ⟨rfl, ?_⟩
    rcases Nat.lt_or_ge Y 128 with h1 | h1
    · have := Nat.mul_le_mul_right P (show Y ≤ 127 by omega); omega
    · exact h1
  · rintro ⟨rfl, h1⟩
    have := Nat.mul_le_mul_right P h1
    omega
theorem pow_step (k : Nat) : 256 ^ (k + 1) = 256 ^ k * 256 := Nat.pow_succ _ _
theorem val_map_flip (l : List UInt8) : val (l.map fun x => 255 - x) + val l + 1 = 256 ^ l.length := val_flip l
/-- The number of contents: its sign and its size. -/
theorem par_sign {l : List UInt8} {x : Nm} (hl0 : l ≠ []) (hx : x.ok) (hz : x.z = parZ l) :
    (nth l 0 < 128 ∧ x.below = false ∧ val x.size = val l ∧ val l < 128 * 256 ^ (l.length - 1)) ∨
    (¬ nth l 0 < 128 ∧ x.below = true ∧ val x.size + val l = 256 ^ l.length ∧ 128 * 256 ^ (l.length - 1) ≤ val l) := by
  have hn := Nm.neg_iff hx
  have hh := head_lt hl0
  have hf := val_map_flip l
  unfold parZ at hz
  unfold Nm.z at hz hn
  by_cases h : nth l 0 < 128
  · left
    rw [if_pos h] at hz
    cases hb : x.below
    · rw [hb] at hz; simp at hz; exact ⟨h, rfl, by omega, hh.1 h⟩
    · have := hn.1 hb
      rw [hz] at this
      omega
  · right
    rw [if_neg h] at hz
    cases hb : x.below
    · rw [hb] at hz; simp at hz; omega
    · rw [hb] at hz; simp at hz
      refine ⟨h, rfl, by omega, ?_⟩
      rcases Nat.lt_or_ge (val l) (128 * 256 ^ (l.length - 1)) with h1 | h1
      · exact absurd (hh.2 h1) h
      · exact h1
theorem par_back {l B : List UInt8} {x : Nm} {m : Nat} (hl0 : l ≠ []) (hx : x.ok) (hz : x.z = parZ l) (h1 : 1 ≤ m) (hg : Good x.below (val x.size) m)
    (hb : ∀ m', 1 ≤ m' → m' < m → ¬ Good x.below (val x.size) m') (hB : B.length = m) (hv : if x.below then val B + val x.size = 256 ^ m else val B = val x.size) : (B == l) = !(idleL l) := by
  have hs := par_sign hl0 hx hz
  have hL : 1 ≤ l.length := by cases l with
    | nil => exact absurd rfl hl0
    | cons => simp
  -- the contents themselves are enough
  have hgL : Good x.below (val x.size) l.length := by
    rcases hs with ⟨_, e1, e2, e3⟩ | ⟨_, e1, e2, e3⟩
    · rw [e1]; unfold Good; rw [if_neg (by simp), e2]; exact e3
    · rw [e1]; unfold Good; rw [if_pos rfl]
      have : 256 ^ l.length = 256 * 256 ^ (l.length - 1) := by conv => lhs; rw [show l.length = (l.length - 1) + 1 by omega, pow_step, Nat.mul_comm]
      omega
  have hmL : m ≤ l.length := by
    rcases Nat.lt_or_ge l.length m with h | h
    · exact absurd hgL (hb _ hL h)
    · exact h
  have same : m = l.length → (B == l) = true := by
    intro e
    subst e
    have : B = l := by
      refine val_inj hB ?_
      rcases hs with ⟨_, e1, e2, e3⟩ | ⟨_, e1, e2, e3⟩
      · rw [e1] at hv; simp at hv; omega
      · rw [e1] at hv; simp at hv; omega
    rw [this]; simp
  have other : m ≠ l.length → (B == l) = false := by
    intro e
    rw [Bool.eq_false_iff]
    intro h
    have : B = l := eq_of_beq h
    rw [this] at hB
    exact e hB.symm
  rcases l with _ | ⟨X, _ | ⟨Y, r⟩⟩
  · exact absurd rfl hl0
  · rw [same (by simp at hmL ⊢; omega)]; rfl
  · clear hl0 hgL hL
    have hX := UInt8.toNat_lt X
    have hY := UInt8.toNat_lt Y
    have hR := val_lt r
    have hV : val (X :: Y :: r) = X.toNat * (256 ^ r.length * 256) + (Y.toNat * 256 ^ r.length + val r) := by rw [val_cons, val_cons, List.length_cons, pow_step]
    have hlen : (X :: Y :: r).length = r.length + 2 := rfl
    have hpw : 256 ^ (X :: Y :: r).length = 256 ^ r.length * 256 * 256 := by rw [hlen, pow_step, pow_step]
    have n0 : nth (X :: Y :: r) 0 = (X.toNat : Int) := rfl
    have hi : idleL (X :: Y :: r) = ((X.toNat == 0 && decide (Y.toNat < 128)) || (X.toNat == 255 && decide (128 ≤ Y.toNat))) := rfl
    have hmono : m < r.length + 2 → 256 ^ (m - 1) ≤ 256 ^ r.length := fun h => Nat.pow_le_pow_right (by omega) (by omega)
    rw [hlen] at hmL same other
    rw [n0] at hs
    -- the least is shorter just when the first nine bits are the same
    have key : (m < r.length + 2) ↔ idleL (X :: Y :: r) = true := by
      rw [hi]
      rcases hs with ⟨e0, e1, e2, e3⟩ | ⟨e0, e1, e2, e3⟩
      · have hk := val_le_two hV hR
        constructor
        · intro h
          have hm := hmono h
          rw [e1] at hg; unfold Good at hg; rw [if_neg (by simp), e2] at hg
          have := hk.1 (by omega)
          simp [this.1, this.2]
        · intro h
          have h2 : X.toNat = 0 ∧ Y.toNat < 128 := by
            simp at h
            rcases h with h | h
            · exact h
            · omega
          have h3 := hk.2 h2
          rcases Nat.lt_or_ge (r.length + 1) m with h4 | h4
          · exact absurd (show Good x.below (val x.size) (r.length + 1) by rw [e1]; unfold Good; rw [if_neg (by simp), e2]; exact h3) (hb _ (by omega) h4)
          · omega
      · have hk := val_ge_two hV hR hX hY
        rw [hpw] at e2
        constructor
        · intro h
          have hm := hmono h
          rw [e1] at hg; unfold Good at hg; rw [if_pos rfl] at hg
          have := hk.1 (by omega)
          simp [this.1, this.2]
        · intro h
          have h2 : X.toNat = 255 ∧ 128 ≤ Y.toNat := by
            simp at h
            rcases h with h | h
            · omega
            · exact h
          have h3 := hk.2 h2
          rcases Nat.lt_or_ge (r.length + 1) m with h4 | h4
          · exact absurd (show Good x.below (val x.size) (r.length + 1) by rw [e1]; unfold Good; rw [if_pos rfl]; show _ ≤ 128 * 256 ^ r.length; omega) (hb _ (by omega) h4)
          · omega
    cases hid : idleL (X :: Y :: r)
    · have : ¬ (m < r.length + 2) := fun h => by rw [key.1 h] at hid; cases hid
      rw [same (by omega)]; rfl
    · have := key.2 hid
      rw [other (by omega)]; rfl
end Go.Proofs.YtbjiknfebocepaaGreatDoor
