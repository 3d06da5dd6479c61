/-
  The fewest bytes of two's complement: no program.
-/
import Derived.Test.YtbjiknfebocepaaGreatDoorWh
namespace Go.Proofs.YtbjiknfebocepaaGreatDoor
open Go.RowKit Go.Joins
set_option linter.unusedVariables false
set_option linter.unusedSimpArgs false

theorem pow256 (k : Nat) : 256 ^ k = 2 ^ (8 * k) := by rw [show (256 : Nat) = 2 ^ 8 by decide, ← Nat.pow_mul]
theorem half256 {k : Nat} (h : 1 ≤ k) : 128 * 256 ^ (k - 1) = 2 ^ (8 * k - 1) := by
  rw [pow256, show (128 : Nat) = 2 ^ 7 by decide, ← Nat.pow_add]
  congr 1; omega
theorem bitLen_bounds (y : UInt8) : y.toNat < 2 ^ Lib.bitLen y.toNat ∧ (y.toNat ≠ 0 → 2 ^ (Lib.bitLen y.toNat - 1) ≤ y.toNat) := by
  have h : ∀ n : Fin 256, n.val < 2 ^ Lib.bitLen n.val ∧ (n.val ≠ 0 → 2 ^ (Lib.bitLen n.val - 1) ≤ n.val) := by decide +kernel
  exact h ⟨y.toNat, UInt8.toNat_lt y⟩
theorem bits_lt (s : List UInt8) : val s < 2 ^ bitsL s := by
  cases s with
  | nil => simp [val, bitsL]
  | cons y r =>
    have h1 := (bitLen_bounds y).1
    have h2 := val_lt r
    simp only [bitsL, val_cons]
    rw [Nat.pow_add, ← pow256]
    have h3 : (y.toNat + 1) * 256 ^ r.length ≤ 2 ^ Lib.bitLen y.toNat * 256 ^ r.length := Nat.mul_le_mul_right _ h1
    rw [Nat.add_mul] at h3
    rw [Nat.mul_comm (256 ^ r.length)]
    omega
theorem bits_ge {s : List UInt8} (h : Nz s) (hs : s ≠ []) : 2 ^ (bitsL s - 1) ≤ val s := by
  cases s with
  | nil => exact absurd rfl hs
  | cons y r =>
    have h0 := h.head
    have h1 := (bitLen_bounds y).2 h0
    have h2 := bitLen_pos y h0
    simp only [bitsL, val_cons]
    rw [show 8 * r.length + Lib.bitLen y.toNat - 1 = 8 * r.length + (Lib.bitLen y.toNat - 1) by omega, Nat.pow_add, ← pow256]
    have h3 := Nat.mul_le_mul_right (256 ^ r.length) h1
    rw [Nat.mul_comm (256 ^ r.length)]
    omega
/-- So many bytes hold it. -/
theorem con_enough (s : List UInt8) : val s < 128 * 256 ^ (bitsL s / 8 + 1 - 1) := by
  rw [half256 (by omega)]
  exact Nat.lt_of_lt_of_le (bits_lt s) (Nat.pow_le_pow_right (by omega) (by omega))
/-- Fewer do not. -/
theorem con_least {s : List UInt8} (h : Nz s) {m : Nat} (h1 : 1 ≤ m) (h2 : m < bitsL s / 8 + 1) : 128 * 256 ^ (m - 1) ≤ val s := by
  have hs : s ≠ [] := by
    intro e
    subst e
    simp [bitsL] at h2
    omega
  rw [half256 h1]
  exact Nat.le_trans (Nat.pow_le_pow_right (by omega) (by omega)) (bits_ge h hs)
/-- The first byte is below 128. -/
theorem head_lt {l : List UInt8} (h : l ≠ []) : nth l 0 < 128 ↔ val l < 128 * 256 ^ (l.length - 1) := by
  cases l with
  | nil => exact absurd rfl h
  | cons y r =>
    have h2 := val_lt r
    have hn : nth (y :: r) 0 = (y.toNat : Int) := rfl
    rw [hn, val_cons, List.length_cons, Nat.add_sub_cancel]
    generalize 256 ^ r.length = P at *
    generalize y.toNat = Y at *
    constructor
    · intro h
      have : (Y + 1) * P ≤ 128 * P := Nat.mul_le_mul_right _ (by omega)
      rw [Nat.add_mul] at this
      omega
    · intro h
      by_cases hy : Y < 128
      · omega
      · have : 128 * P ≤ Y * P := Nat.mul_le_mul_right _ (by omega)
        omega
/-- Each bit flipped. -/
theorem val_flip : ∀ l : List UInt8, val (l.map fun x => 255 - x) + val l + 1 = 256 ^ l.length
  | [] => rfl
  | x :: r => by
    have ih := val_flip r
    have hx : (255 - x).toNat = 255 - x.toNat := by
      have h : ∀ n : Fin 256, (255 - UInt8.ofNat n.val : UInt8).toNat = 255 - n.val := by decide +kernel
      have := h ⟨x.toNat, UInt8.toNat_lt x⟩
      simpa using this
    have hb : x.toNat < 256 := UInt8.toNat_lt x
    rw [List.map_cons, val_cons, val_cons, hx, List.length_map, List.length_cons, Nat.pow_succ]
    generalize 256 ^ r.length = P at *
    have h1 : (255 - x.toNat) * P + x.toNat * P = 255 * P := by rw [← Nat.add_mul]; congr 1; omega
    omega
theorem val_pad (k : Nat) (s : List UInt8) : val (List.replicate k 0 ++ s) = val s := by
  induction k with
  | zero => rfl
  | succ k ih => rw [List.replicate_succ, List.cons_append, val_cons, ih]; simp
/-- What Contents writes, as a number. -/
theorem contB_val {s : List UInt8} (h : Nz s) : val (contB false s) = val s ∧ val (contB true s) + val s + 1 = 256 ^ (bitsL s / 8 + 1) := by
  have hl := bits_len h
  refine ⟨by simp only [contB, Bool.false_eq_true, if_false]; exact val_pad _ _, ?_⟩
  have := val_flip (List.replicate (bitsL s / 8 + 1 - s.length) 0 ++ s)
  rw [val_pad] at this
  simp only [contB, if_true]
  rw [this]
  congr 1
  simp; omega
end Go.Proofs.YtbjiknfebocepaaGreatDoor
