/-
  What needs no program: the value of bytes in base 256, leading zeros, order and signs.
-/
import Derived.Test.YtbjiknfebocepaaDoorBase
namespace Go.Proofs.YtbjiknfebocepaaDoor
open Go.RowKit
set_option linter.unusedVariables false
set_option linter.unusedSimpArgs false
set_option maxRecDepth 4000

/-- The value of bytes, the most significant first. -/
def val : List UInt8 → Nat
  | [] => 0
  | x :: l => x.toNat * 256 ^ l.length + val l
theorem val_nil : val [] = 0 := rfl
theorem val_cons (x : UInt8) (l : List UInt8) : val (x :: l) = x.toNat * 256 ^ l.length + val l := rfl
theorem val_append : ∀ a b : List UInt8, val (a ++ b) = val a * 256 ^ b.length + val b
  | [], b => by simp [val]
  | x :: a, b => by
    rw [List.cons_append, val_cons, val_cons, val_append a b, List.length_append, Nat.pow_add, Nat.add_mul, Nat.mul_assoc, Nat.add_assoc]
theorem val_snoc (l : List UInt8) (x : UInt8) : val (l ++ [x]) = 256 * val l + x.toNat := by
  rw [val_append]; simp [val]; omega
theorem val_lt : ∀ l : List UInt8, val l < 256 ^ l.length
  | [] => by simp [val]
  | x :: l => by
    have h := val_lt l
    have hx := UInt8.toNat_lt x
    rw [val_cons, List.length_cons, Nat.pow_succ]
    have : x.toNat * 256 ^ l.length ≤ 255 * 256 ^ l.length := Nat.mul_le_mul_right _ (by omega)
    omega
/-- Without leading zeros. -/
def dz : List UInt8 → List UInt8
  | [] => []
  | x :: l => if x.toNat = 0 then dz l else x :: l
theorem val_dz : ∀ l : List UInt8, val (dz l) = val l
  | [] => rfl
  | x :: l => by
    unfold dz
    split
    · rename_i h; rw [val_dz l, val_cons, h]; simp
    · rfl
theorem dz_len : ∀ l : List UInt8, (dz l).length ≤ l.length
  | [] => Nat.le_refl _
  | x :: l => by
    unfold dz
    have := dz_len l
    split <;> simp <;> omega
theorem dz_dz : ∀ l : List UInt8, dz (dz l) = dz l
  | [] => rfl
  | x :: l => by
    by_cases h : x.toNat = 0
    · have : dz (x :: l) = dz l := by simp [dz, h]
      rw [this, dz_dz l]
    · have : dz (x :: l) = x :: l := by simp [dz, h]
      rw [this, this]
theorem dz_head {l : List UInt8} {x : UInt8} {r : List UInt8} (h : dz l = x :: r) : x.toNat ≠ 0 := by
  induction l with
  | nil => simp [dz] at h
  | cons y l ih =>
    unfold dz at h
    split at h
    · exact ih h
    · rename_i hy; cases h; exact hy
theorem dz_drop {l : List UInt8} {k : Nat} (h : ∀ i, i < k → nth l i = 0) : dz l = dz (l.drop k) := by
  induction k generalizing l with
  | zero => simp
  | succ k ih =>
    cases l with
    | nil => simp
    | cons x l =>
      have h0 := h 0 (by omega)
      simp [nth] at h0
      have : dz (x :: l) = dz l := by simp [dz, h0]
      rw [this, List.drop_succ_cons]
      exact ih fun i hi => by
        have := h (i + 1) (by omega)
        simpa [nth] using this
theorem dz_nz {x : UInt8} {l : List UInt8} (h : x.toNat ≠ 0) : dz (x :: l) = x :: l := by simp [dz, h]
theorem dz_zero {x : UInt8} {l : List UInt8} (h : x.toNat = 0) : dz (x :: l) = dz l := by simp [dz, h]
/-- Bytes without a leading zero. -/
def Nz (l : List UInt8) : Prop := dz l = l
theorem Nz.dz (l : List UInt8) : Nz (dz l) := dz_dz l
theorem Nz.nil : Nz [] := rfl
theorem Nz.head {x : UInt8} {l : List UInt8} (h : Nz (x :: l)) : x.toNat ≠ 0 := dz_head h
theorem Nz.ge {l : List UInt8} (h : Nz l) (hl : l ≠ []) : 256 ^ (l.length - 1) ≤ val l := by
  cases l with
  | nil => exact absurd rfl hl
  | cons x l =>
    have hx := h.head
    rw [val_cons]
    have : 1 * 256 ^ l.length ≤ x.toNat * 256 ^ l.length := Nat.mul_le_mul_right _ (by omega)
    simp at *; omega
theorem Nz.lt_of_len {a b : List UInt8} (hb : Nz b) (h : a.length < b.length) : val a < val b := by
  have h1 := val_lt a
  have h2 := hb.ge (by intro e; simp [e] at h)
  have : 256 ^ a.length ≤ 256 ^ (b.length - 1) := Nat.pow_le_pow_right (by omega) (by omega)
  omega
theorem val_inj : ∀ {a b : List UInt8}, a.length = b.length → val a = val b → a = b
  | [], [], _, _ => rfl
  | [], _ :: _, h, _ => by simp at h
  | _ :: _, [], h, _ => by simp at h
  | x :: a, y :: b, h, hv => by
    simp at h
    rw [val_cons, val_cons, h] at hv
    have h1 := val_lt a
    have h2 := val_lt b
    rw [h] at h1
    have hp : 0 < 256 ^ b.length := Nat.pow_pos (by omega)
    have e1 : x.toNat = (x.toNat * 256 ^ b.length + val a) / 256 ^ b.length := by
      rw [Nat.add_comm, Nat.add_mul_div_right _ _ hp, Nat.div_eq_of_lt h1]; omega
    have e2 : y.toNat = (y.toNat * 256 ^ b.length + val b) / 256 ^ b.length := by
      rw [Nat.add_comm, Nat.add_mul_div_right _ _ hp, Nat.div_eq_of_lt h2]; omega
    have e : x.toNat = y.toNat := by rw [e1, e2, hv]
    have hxy : x = y := UInt8.toNat_inj.1 e
    subst hxy
    rw [val_inj h (by omega)]
theorem Nz.inj {a b : List UInt8} (ha : Nz a) (hb : Nz b) (h : val a = val b) : a = b := by
  have h1 : ¬ a.length < b.length := fun e => by have := Nz.lt_of_len hb e; omega
  have h2 : ¬ b.length < a.length := fun e => by have := Nz.lt_of_len ha e; omega
  exact val_inj (by omega) h
theorem dz_inj {a b : List UInt8} (h : val a = val b) : dz a = dz b := Nz.inj (Nz.dz a) (Nz.dz b) (by rw [val_dz, val_dz, h])
theorem val_zero {l : List UInt8} : val l = 0 ↔ dz l = [] := by
  constructor
  · intro h; exact dz_inj (b := []) h
  · intro h; rw [← val_dz, h]; rfl

/-- Sign of a difference. -/
def sg (a b : Int) : Int := if a < b then -1 else if b < a then 1 else 0
theorem sg_neg (a b : Int) : sg (-a) (-b) = sg b a := by unfold sg; split <;> split <;> (try split) <;> (try split) <;> omega
theorem cmp_val : ∀ {a b : List UInt8}, a.length = b.length → Lib.compareBytes a b = sg (val a) (val b)
  | [], [], _ => by simp [Lib.compareBytes, val, sg]
  | [], _ :: _, h => by simp at h
  | _ :: _, [], h => by simp at h
  | x :: a, y :: b, h => by
    simp at h
    have ih := cmp_val (a := a) (b := b) h
    have h1 := val_lt a
    have h2 := val_lt b
    simp only [Lib.compareBytes, UInt8.lt_iff_toNat_lt, val_cons]
    rw [h] at h1 ⊢
    generalize 256 ^ b.length = P at *
    by_cases c1 : x.toNat < y.toNat
    · have : (x.toNat + 1) * P ≤ y.toNat * P := Nat.mul_le_mul_right _ (by omega)
      rw [Nat.add_mul] at this
      rw [if_pos c1]; unfold sg; rw [if_pos (by omega)]
    · by_cases c2 : y.toNat < x.toNat
      · have : (y.toNat + 1) * P ≤ x.toNat * P := Nat.mul_le_mul_right _ (by omega)
        rw [Nat.add_mul] at this
        rw [if_neg c1, if_pos c2]; unfold sg; rw [if_neg (by omega), if_pos (by omega)]
      · have e : x.toNat = y.toNat := by omega
        rw [if_neg c1, if_neg c2, ih, e]
        unfold sg
        split <;> split <;> (try split) <;> (try split) <;> omega
theorem cmp_sizes {a b : List UInt8} (ha : Nz a) (hb : Nz b) : (if a.length < b.length then -1 else if b.length < a.length then 1 else Lib.compareBytes a b) = sg (val a) (val b) := by
  split
  · have := Nz.lt_of_len hb ‹_›
    unfold sg; rw [if_pos (by omega)]
  · split
    · have := Nz.lt_of_len ha ‹_›
      unfold sg; rw [if_neg (by omega), if_pos (by omega)]
    · exact cmp_val (by omega)

/-- A whole number: its sign and its size. -/
structure Nm where
  below : Bool
  size : List UInt8
/-- Its value. -/
def Nm.z (n : Nm) : Int := if n.below then -(val n.size : Int) else (val n.size : Int)
/-- As it must be. -/
def Nm.mk0 (n : Nm) : Nm := ⟨n.below && !(dz n.size).isEmpty, dz n.size⟩
/-- It is as it must be. -/
def Nm.ok (n : Nm) : Prop := Nz n.size ∧ (n.size = [] → n.below = false)
/-- The same, reckoned. -/
def Nm.okb : Nm → Bool
  | ⟨b, []⟩ => !b
  | ⟨_, x :: _⟩ => x.toNat != 0
theorem Nm.okb_iff (n : Nm) : n.okb = true ↔ n.ok := by
  obtain ⟨b, l⟩ := n
  cases l with
  | nil => simp [Nm.okb, Nm.ok, Nz.nil]
  | cons x r =>
    simp [Nm.okb, Nm.ok]
    exact ⟨fun h => dz_nz h, fun h => Nz.head h⟩
theorem Nm.mk0_ok (n : Nm) : n.mk0.ok := ⟨Nz.dz _, fun h => by simp [Nm.mk0] at *; simp [h]⟩
theorem Nm.mk0_z (n : Nm) : n.mk0.z = n.z := by
  unfold Nm.mk0 Nm.z
  simp only [val_dz]
  by_cases h : dz n.size = []
  · have := val_zero.2 h
    simp [h, this]
  · have : (dz n.size).isEmpty = false := by simpa using h
    simp [this]
theorem Nm.inj {a b : Nm} (ha : a.ok) (hb : b.ok) (h : a.z = b.z) : a = b := by
  obtain ⟨ab, as⟩ := a
  obtain ⟨bb, bs⟩ := b
  have hs : as = bs := Nz.inj ha.1 hb.1 (by unfold Nm.z at h; simp at h; split at h <;> split at h <;> omega)
  subst hs
  by_cases h0 : as = []
  · have h1 := ha.2 h0
    have h2 := hb.2 h0
    simp at h1 h2; simp [h1, h2]
  · have hp : 0 < val as := by
      rcases Nat.eq_zero_or_pos (val as) with h' | h'
      · exact absurd ((show dz as = as from ha.1).symm.trans (val_zero.1 h')) h0
      · exact h'
    unfold Nm.z at h
    simp at h
    congr
    cases ab <;> cases bb <;> simp at h ⊢ <;> omega
theorem Nm.same {a b : Nm} : a.mk0 = b.mk0 ↔ a.z = b.z :=
  ⟨fun h => by rw [← a.mk0_z, ← b.mk0_z, h], fun h => Nm.inj a.mk0_ok b.mk0_ok (by rw [a.mk0_z, b.mk0_z, h])⟩
theorem Nm.mk0_of_ok {n : Nm} (h : n.ok) : n.mk0 = n := Nm.inj n.mk0_ok h n.mk0_z
theorem Nm.neg_iff {n : Nm} (h : n.ok) : n.below = true ↔ n.z < 0 := by
  obtain ⟨b, s⟩ := n
  unfold Nm.z
  cases b
  · simp
  · simp
    rcases Nat.eq_zero_or_pos (val s) with h' | h'
    · have := h.2 ((show dz s = s from h.1).symm.trans (val_zero.1 h')); simp at this
    · omega
theorem Nm.mk0_len (n : Nm) : n.mk0.size.length ≤ n.size.length := dz_len _
end Go.Proofs.YtbjiknfebocepaaDoor
