/-
  The contracts of package octet, of the library's functions that it calls, and of quittanceref01's Compare and Same.
-/
import Derived.Test.YtepbjjhidemaiaaGreatRows
import Derived.Test.YtepbjjhidemaiaaGreatBase
namespace Go.Proofs.YtepbjjhidemaiaaGreat
open Go.RowKit
set_option linter.unusedVariables false
set_option linter.unusedSimpArgs false
set_option maxRecDepth 4000

theorem u8_info : (Tryz.prog.info? 5).map (fun i => (i.zero, i.size, i.bytes)) = some (some (.int .u8 0), 1, 1) := by kernel_rfl

theorem ret_int {k : IntKind} {a b : Int} (h : a = b) : Ending.returned (.int k a) = .returned (.int k b) := by rw [h]
theorem drop_cons {l : List UInt8} {k : Nat} (h : k < l.length) : l.drop k = l.getD k 0 :: l.drop (k+1) := by
  rw [List.drop_eq_getElem_cons h]; simp [List.getD, List.getElem?_eq_getElem h]
theorem drop_end {l : List UInt8} {k : Nat} (h : l.length ≤ k) : l.drop k = [] := List.drop_eq_nil_of_le h

theorem cmp_cons (x y : UInt8) (a b : List UInt8) : Lib.compareBytes (x :: a) (y :: b) = if x.toNat < y.toNat then -1 else if y.toNat < x.toNat then 1 else Lib.compareBytes a b := by
  simp only [Lib.compareBytes, UInt8.lt_iff_toNat_lt]
theorem cmp_nil_cons (y : UInt8) (b : List UInt8) : Lib.compareBytes [] (y :: b) = -1 := by simp [Lib.compareBytes]
theorem cmp_cons_nil (y : UInt8) (b : List UInt8) : Lib.compareBytes (y :: b) [] = 1 := by simp [Lib.compareBytes]
theorem cmp_nil : Lib.compareBytes [] [] = 0 := by simp [Lib.compareBytes]

/-! ### quittanceref01.Compare, Same -/

theorem cmp_zero_iff : ∀ a b : List UInt8, Lib.compareBytes a b = 0 ↔ a = b
  | [], [] => by simp [cmp_nil]
  | [], y :: b => by simp [cmp_nil_cons]
  | x :: a, [] => by simp [cmp_cons_nil]
  | x :: a, y :: b => by
    rw [cmp_cons]
    have ih := cmp_zero_iff a b
    by_cases h1 : x.toNat < y.toNat
    · rw [if_pos h1]; constructor
      · intro h; cases h
      · intro h; injection h with h _; subst h; omega
    · rw [if_neg h1]
      by_cases h2 : y.toNat < x.toNat
      · rw [if_pos h2]; constructor
        · intro h; cases h
        · intro h; injection h with h _; subst h; omega
      · rw [if_neg h2, ih]
        have : x = y := UInt8.toNat_inj.1 (by omega)
        simp [this]

/-! ### octet.Compare, Equal -/

end Go.Proofs.YtepbjjhidemaiaaGreat
