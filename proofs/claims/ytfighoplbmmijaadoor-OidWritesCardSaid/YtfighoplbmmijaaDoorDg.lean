/-
  What needs no program: decimal digits, the lowest first.
-/
import Derived.Test.YtfighoplbmmijaaDoorTxt
import Derived.Test.YtfighoplbmmijaaDoorNum
namespace Go.Proofs.YtfighoplbmmijaaDoor
open Go.RowKit
set_option linter.unusedVariables false
set_option linter.unusedSimpArgs false
set_option maxRecDepth 4000

/-- The value of decimal digits, the lowest first. -/
def dvL : List Nat → Nat
  | [] => 0
  | d :: r => d + 10 * dvL r
theorem dvL_append : ∀ a b : List Nat, dvL (a ++ b) = dvL a + 10 ^ a.length * dvL b
  | [], b => by simp [dvL]
  | d :: a, b => by
    rw [List.cons_append, dvL, dvL, dvL_append a b, List.length_cons, Nat.pow_succ, Nat.mul_add, Nat.mul_comm (10 ^ a.length) 10, Nat.mul_assoc]
    omega
theorem dvL_lt : ∀ {D : List Nat}, (∀ d ∈ D, d < 10) → dvL D < 10 ^ D.length
  | [], _ => by simp [dvL]
  | d :: r, h => by
    have h1 := h d (by simp)
    have h2 := dvL_lt (D := r) (fun x hx => h x (by simp [hx]))
    rw [dvL, List.length_cons, Nat.pow_succ]
    omega
/-- A digit as a sign. -/
def byteD (d : Nat) : UInt8 := UInt8.ofNat (48 + d)
theorem byteD_val {d : Nat} (h : d < 10) : (byteD d).toNat = 48 + d := u8n _ (by omega)
/-- The text of digits. -/
def strD (D : List Nat) : List UInt8 := (D.map byteD).reverse
theorem strD_cons (d : Nat) (r : List Nat) : strD (d :: r) = strD r ++ [byteD d] := by simp [strD]
theorem strD_snoc (r : List Nat) (d : Nat) : strD (r ++ [d]) = byteD d :: strD r := by simp [strD]
theorem dvN_str : ∀ {D : List Nat}, (∀ d ∈ D, d < 10) → dvN (strD D) = dvL D
  | [], _ => by simp [strD, dvN, dvL]
  | d :: r, h => by
    have h1 := h d (by simp)
    rw [strD_cons, dvN_snoc, dvN_str (fun x hx => h x (by simp [hx])), byteD_val h1, dvL]
    omega
theorem strD_dec {D : List Nat} (h0 : D ≠ []) (h : ∀ d ∈ D, d < 10) (hc : D.length = 1 ∨ 10 ^ (D.length - 1) ≤ dvL D) : strD D = Lib.decDigits (dvL D) := by
  rw [← dvN_str h]
  refine (dec_dvN ?_ ?_ ?_).symm
  · have := List.length_pos_iff.2 h0; simp [strD]; omega
  · intro c hc'
    simp only [strD, List.mem_reverse, List.mem_map] at hc'
    obtain ⟨d, hd, rfl⟩ := hc'
    have := h d hd
    rw [byteD_val this]; omega
  · rcases hc with hc | hc
    · left; simp [strD]; omega
    · right
      have e := (List.dropLast_concat_getLast h0)
      generalize D.getLast h0 = t at e
      rw [← e] at h hc ⊢
      rw [strD_snoc]
      have ht := h t (by simp)
      have hlt := dvL_lt (D := D.dropLast) (fun x hx => h x (by simp [hx]))
      rw [dvL_append] at hc
      simp only [List.length_append, List.length_cons, List.length_nil, Nat.add_sub_cancel, dvL] at hc
      show ((byteD t).toNat : Int) ≠ 48
      rw [byteD_val ht]
      intro e2
      have : t = 0 := by omega
      subst this
      simp only [Nat.mul_zero, Nat.add_zero] at hc
      omega
/-- One digit of 256 times and a carry. -/
theorem dvL_step {pre r : List Nat} {d c T : Nat} (h : dvL pre + 10 ^ pre.length * (c + 256 * dvL (d :: r)) = T) :
    dvL (pre ++ [(256 * d + c) % 10]) + 10 ^ (pre.length + 1) * ((256 * d + c) / 10 + 256 * dvL r) = T := by
  rw [dvL_append, ← h, dvL, dvL, dvL, Nat.pow_succ]
  generalize 10 ^ pre.length = P
  have h1 : 256 * d + c = 10 * ((256 * d + c) / 10) + (256 * d + c) % 10 := by omega
  generalize (256 * d + c) / 10 = q at *
  generalize (256 * d + c) % 10 = m at *
  have h2 : c + 256 * (d + 10 * dvL r) = 10 * q + m + 2560 * dvL r := by omega
  rw [h2, Nat.mul_zero, Nat.add_zero, Nat.mul_assoc, Nat.mul_add P, Nat.mul_add P, Nat.mul_left_comm P 10 q]
  have h3 : P * (10 * (q + 256 * dvL r)) = 10 * (P * q) + P * (2560 * dvL r) := by
    rw [show 10 * (q + 256 * dvL r) = 10 * q + 2560 * dvL r by omega, Nat.mul_add, Nat.mul_left_comm]
  rw [h3]
  omega
theorem dvL_push {D : List Nat} {c T : Nat} (h : dvL D + 10 ^ D.length * c = T) : dvL (D ++ [c % 10]) + 10 ^ (D.length + 1) * (c / 10) = T := by
  rw [dvL_append, ← h, dvL, dvL, Nat.pow_succ]
  generalize 10 ^ D.length = P
  have h1 : P * c = P * (10 * (c / 10)) + P * (c % 10) := by rw [← Nat.mul_add]; congr 1; omega
  rw [h1, Nat.mul_assoc, Nat.mul_zero, Nat.add_zero]
  omega
/-- How many digits a carry has. -/
def cdN (c : Nat) : Nat := if c = 0 then 0 else if c < 10 then 1 else if c < 100 then 2 else 3
theorem cdN_step {c : Nat} (h0 : c ≠ 0) (h1 : c ≤ 256) : cdN (c / 10) + 1 = cdN c := by
  unfold cdN
  split <;> split <;> (try split) <;> (try split) <;> (try split) <;> (try split) <;> omega
theorem cdN_le {c : Nat} : cdN c ≤ 3 := by unfold cdN; split <;> (try split) <;> (try split) <;> omega
theorem val_take {l : List UInt8} {k : Nat} (h : k < l.length) : val (l.take (k + 1)) = 256 * val (l.take k) + (l.getD k 0).toNat := by
  rw [List.take_succ_eq_append_getElem h, val_snoc]; simp [List.getD, List.getElem?_eq_getElem h]
/-- A digit in memory. -/
def natV (d : Nat) : Value := .int .i64 (d : Int)
end Go.Proofs.YtfighoplbmmijaaDoor
