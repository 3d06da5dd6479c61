/-
  Plain facts: sums by digits that have signs.
-/
import Derived.Test.YtbjiknfebocepaaDoorMem
namespace Go.Proofs.YtbjiknfebocepaaDoor
open Go.RowKit
set_option linter.unusedVariables false
set_option linter.unusedSimpArgs false
set_option maxRecDepth 4000

/-- A digit with its number's sign. -/
def sd (x : Nm) (i : Nat) : Int := if x.below then -(pl x.size i) else pl x.size i
theorem sd_bound (x : Nm) (i : Nat) : -256 < sd x i ∧ sd x i < 256 ∧ (x.below = false → 0 ≤ sd x i) ∧ (x.below = true → sd x i ≤ 0) := by
  have := pl_bound x.size i
  unfold sd
  cases x.below <;> simp <;> omega
theorem sd_far {x : Nm} {i : Nat} (h : x.size.length ≤ i) : sd x i = 0 := by
  unfold sd pl; rw [if_pos h]; simp
/-- The value of the lowest i digits of f. -/
def fv (f : Nat → Int) : Nat → Int
  | 0 => 0
  | i + 1 => fv f i + f i * 256 ^ i
theorem fv_congr {f g : Nat → Int} {n : Nat} (h : ∀ i, i < n → f i = g i) : fv f n = fv g n := by
  induction n with
  | zero => rfl
  | succ n ih => rw [fv, fv, ih (fun i hi => h i (by omega)), h n (by omega)]
theorem fv_add (f g : Nat → Int) (n : Nat) : fv (fun i => f i + g i) n = fv f n + fv g n := by
  induction n with
  | zero => rfl
  | succ n ih => rw [fv, fv, fv, ih, Int.add_mul]; omega
theorem fv_neg (f : Nat → Int) (n : Nat) : fv (fun i => -f i) n = -fv f n := by
  induction n with
  | zero => rfl
  | succ n ih => rw [fv, fv, ih, Int.neg_mul]; omega
theorem fv_zero {f : Nat → Int} {n : Nat} (h : ∀ i, i < n → f i = 0) : fv f n = 0 := by
  induction n with
  | zero => rfl
  | succ n ih => rw [fv, ih (fun i hi => h i (by omega)), h n (by omega)]; simp
theorem fv_sd (x : Nm) (n : Nat) (h : x.size.length ≤ n) : fv (sd x) n = x.z := by
  have e : ∀ k, fv (sd x) k = if x.below then -(vp x.size k) else vp x.size k := by
    intro k
    induction k with
    | zero => unfold fv vp; simp
    | succ k ih =>
      rw [fv, vp, ih]
      unfold sd
      cases x.below
      · simp
      · simp [Int.neg_mul]; omega
  rw [e, vp_all h]
  unfold Nm.z
  cases x.below <;> simp
/-- Beyond the highest digit that isn't 0 nothing is added. -/
theorem fv_top {f : Nat → Int} {n t : Nat} (ht : t ≤ n) (h : ∀ i, t ≤ i → i < n → f i = 0) : fv f n = fv f t := by
  induction n with
  | zero => have : t = 0 := by omega
            subst this; rfl
  | succ n ih =>
    by_cases e : t = n + 1
    · subst e; rfl
    · rw [fv, ih (by omega) (fun i a b => h i a (by omega)), h n (by omega) (by omega)]; simp
theorem fv_nonneg {f : Nat → Int} {n : Nat} (h : ∀ i, i < n → 0 ≤ f i) : 0 ≤ fv f n := by
  induction n with
  | zero => exact Int.le_refl _
  | succ n ih =>
    rw [fv]
    have h1 := ih (fun i hi => h i (by omega))
    have h2 := Int.mul_nonneg (h n (by omega)) (show (0 : Int) ≤ 256 ^ n from Int.pow_nonneg (by decide))
    omega
theorem pow_pos256 (n : Nat) : (0 : Int) < 256 ^ n := Int.pow_pos (by decide)
/-- Digits below 256 stay below the next place. -/
theorem fv_small {f : Nat → Int} {n : Nat} (h : ∀ i, i < n → -256 < f i ∧ f i < 256) : -(256 ^ n) < fv f n ∧ fv f n < 256 ^ n := by
  induction n with
  | zero => simp [fv]
  | succ n ih =>
    obtain ⟨h1, h2⟩ := ih (fun i hi => h i (by omega))
    obtain ⟨h3, h4⟩ := h n (by omega)
    have hp := pow_pos256 n
    rw [fv, Int.pow_succ]
    have a1 := Int.mul_le_mul_of_nonneg_right (show f n ≤ 255 by omega) (Int.le_of_lt hp)
    have a2 := Int.mul_le_mul_of_nonneg_right (show -255 ≤ f n by omega) (Int.le_of_lt hp)
    omega
/-- The sum's digits. -/
def dd (x y : Nm) (i : Nat) : Int := sd x i + sd y i
theorem dd_bound (x y : Nm) (i : Nat) : -511 ≤ dd x y i ∧ dd x y i ≤ 511 := by
  have h1 := sd_bound x i
  have h2 := sd_bound y i
  unfold dd; omega
theorem fv_dd (x y : Nm) (n : Nat) (h1 : x.size.length ≤ n) (h2 : y.size.length ≤ n) : fv (dd x y) n = x.z + y.z := by
  have := fv_add (sd x) (sd y) n
  rw [fv_sd x n h1, fv_sd y n h2] at this
  exact this
/-- The highest digit that isn't 0 has the sum's sign. -/
theorem dd_sign (x y : Nm) {n t : Nat} (h1 : x.size.length ≤ n) (h2 : y.size.length ≤ n) (ht : t < n) (hz : ∀ i, t < i → i < n → dd x y i = 0) (hne : dd x y t ≠ 0) :
    (dd x y t < 0 → x.z + y.z < 0) ∧ (¬ dd x y t < 0 → 0 ≤ x.z + y.z) := by
  have e : x.z + y.z = fv (dd x y) t + dd x y t * 256 ^ t := by
    rw [← fv_dd x y n h1 h2, fv_top (t := t + 1) (by omega) (fun i a b => hz i (by omega) b)]; rfl
  have hp := pow_pos256 t
  have hb := fun i => sd_bound x i
  have hc := fun i => sd_bound y i
  have key : ∀ f : Nat → Int, (f = fun i => dd x y i) → True := fun _ _ => trivial
  cases hx : x.below <;> cases hy : y.below
  · have hnn : ∀ i, 0 ≤ dd x y i := fun i => by have a := (hb i).2.2.1 hx; have b := (hc i).2.2.1 hy; unfold dd; omega
    have h0 := fv_nonneg (n := t) (fun i _ => hnn i)
    have h3 := Int.mul_nonneg (hnn t) (Int.le_of_lt hp)
    exact ⟨fun h => absurd (hnn t) (by omega), fun _ => by omega⟩
  · have hs := fv_small (f := dd x y) (n := t) (fun i _ => by have a := (hb i).2.2.1 hx; have b := (hc i).2.2.2 hy; have a1 := hb i; have b1 := hc i; unfold dd; omega)
    refine ⟨fun h => ?_, fun h => ?_⟩
    · have := Int.mul_le_mul_of_nonneg_right (show dd x y t ≤ -1 by omega) (Int.le_of_lt hp); omega
    · have := Int.mul_le_mul_of_nonneg_right (show 1 ≤ dd x y t by omega) (Int.le_of_lt hp); omega
  · have hs := fv_small (f := dd x y) (n := t) (fun i _ => by have a := (hb i).2.2.2 hx; have b := (hc i).2.2.1 hy; have a1 := hb i; have b1 := hc i; unfold dd; omega)
    refine ⟨fun h => ?_, fun h => ?_⟩
    · have := Int.mul_le_mul_of_nonneg_right (show dd x y t ≤ -1 by omega) (Int.le_of_lt hp); omega
    · have := Int.mul_le_mul_of_nonneg_right (show 1 ≤ dd x y t by omega) (Int.le_of_lt hp); omega
  · have hnn : ∀ i, 0 ≤ -dd x y i := fun i => by have a := (hb i).2.2.2 hx; have b := (hc i).2.2.2 hy; unfold dd; omega
    have h0 := fv_nonneg (f := fun i => -dd x y i) (n := t) (fun i _ => hnn i)
    rw [fv_neg] at h0
    refine ⟨fun h => ?_, fun h => absurd (hnn t) (by omega)⟩
    have := Int.mul_le_mul_of_nonneg_right (show dd x y t ≤ -1 by omega) (Int.le_of_lt hp)
    omega
/-- The sum is below what its digits hold. -/
theorem sum_lt (x y : Nm) {n : Nat} (h1 : x.size.length + 1 ≤ n) (h2 : y.size.length + 1 ≤ n) : -(256 ^ n) < x.z + y.z ∧ x.z + y.z < 256 ^ n := by
  have a := fv_small (f := sd x) (n := n - 1) (fun i _ => ⟨(sd_bound x i).1, (sd_bound x i).2.1⟩)
  have b := fv_small (f := sd y) (n := n - 1) (fun i _ => ⟨(sd_bound y i).1, (sd_bound y i).2.1⟩)
  rw [fv_sd x (n - 1) (by omega)] at a
  rw [fv_sd y (n - 1) (by omega)] at b
  have hp := pow_pos256 (n - 1)
  have e : (256 : Int) ^ n = 256 ^ (n - 1) * 256 := by conv => lhs; rw [show n = (n - 1) + 1 by omega, Int.pow_succ]
  omega
/-- A row of ints by a function. -/
def rowF (n : Nat) (f : Nat → Int) : List Value := (List.range n).map fun j => .int .i64 (f j)
theorem rowF_len (n : Nat) (f : Nat → Int) : (rowF n f).length = n := by simp [rowF]
theorem rowF_get {n i : Nat} (f : Nat → Int) (h : i < n) : (rowF n f)[i]? = some (.int .i64 (f i)) := by simp [rowF, h]
theorem rowF_set {n i : Nat} (f : Nat → Int) (v : Int) (h : i < n) : (rowF n f).set i (.int .i64 v) = rowF n (fun j => if j = i then v else f j) := by
  apply List.ext_getElem?
  intro j
  rw [List.getElem?_set, rowF_len]
  by_cases hj : j < n
  · rw [rowF_get _ hj]
    by_cases e : i = j
    · subst e; rw [rowF_get _ h]; simp [h]
    · rw [if_neg e, rowF_get _ hj, if_neg (fun q => e q.symm)]
  · have h1 : (rowF n f)[j]? = none := List.getElem?_eq_none (by rw [rowF_len]; omega)
    have h2 : (rowF n (fun j => if j = i then v else f j))[j]? = none := List.getElem?_eq_none (by rw [rowF_len]; omega)
    rw [h1, h2, if_neg (by omega)]
theorem rowF_zero (n : Nat) : rowF n (fun _ => 0) = List.replicate n (.int .i64 0) := by
  apply List.ext_getElem?
  intro j
  by_cases hj : j < n
  · rw [rowF_get _ hj, List.getElem?_replicate, if_pos hj]
  · rw [List.getElem?_eq_none (by rw [rowF_len]; omega), List.getElem?_eq_none (by simp; omega)]
/-- One more digit of the result. -/
theorem out_step {C : List UInt8} {b : UInt8} {i : Nat} {c c' X V e : Int} (hC : C.length = i) (h : (val C : Int) + c * 256 ^ i = V) (hX : X = e + c) (hb : (b.toNat : Int) + 256 * c' = X) :
    (val (b :: C) : Int) + c' * 256 ^ (i + 1) = V + e * 256 ^ i := by
  rw [val_cons, hC, Int.pow_succ]
  push_cast
  have h1 : (b.toNat : Int) * 256 ^ i + c' * (256 ^ i * 256) = X * 256 ^ i := by rw [← hb, Int.add_mul, Int.mul_comm 256 c', Int.mul_assoc, Int.mul_comm 256 (256 ^ i)]
  rw [hX, Int.add_mul] at h1
  omega
theorem out_end {C : List UInt8} {n : Nat} {c V : Int} (hC : C.length = n) (h : (val C : Int) + c * 256 ^ n = V) (h0 : 0 ≤ V) (h1 : V < 256 ^ n) : (val C : Int) = V := by
  have hl := val_lt C
  rw [hC] at hl
  have hl' : (val C : Int) < 256 ^ n := by exact_mod_cast hl
  have hp := pow_pos256 n
  have hc : c = 0 := by
    rcases Int.lt_trichotomy c 0 with h2 | h2 | h2
    · have := Int.mul_le_mul_of_nonneg_right (show c ≤ -1 by omega) (Int.le_of_lt hp); omega
    · exact h2
    · have := Int.mul_le_mul_of_nonneg_right (show 1 ≤ c by omega) (Int.le_of_lt hp); omega
  rw [hc] at h
  omega
theorem row_step {N i : Nat} {C : List UInt8} {b : UInt8} (hC : C.length = i) (h : i < N) : ((List.replicate (N - i) (0 : UInt8) ++ C).map byteV).set (N - 1 - i) (byteV b) = (List.replicate (N - (i + 1)) (0 : UInt8) ++ (b :: C)).map byteV := by
  rw [← List.map_set, show N - i = (N - (i + 1)) + 1 by omega, List.replicate_succ', List.append_assoc, List.set_append_right _ _ (by simp; omega)]
  simp
  rw [show N - 1 - i - (N - (i + 1)) = 0 by omega]
  rfl
end Go.Proofs.YtbjiknfebocepaaDoor
