/-
  What needs no program: the order of lists of numbers.
-/
import Derived.Test.YtjcddbcokiaehaaVal
namespace Go.Proofs.Ytjcddbcokiaehaa
open Go.RowKit
set_option linter.unusedVariables false
set_option linter.unusedSimpArgs false
set_option maxRecDepth 4000

/-- Which of two lists is less. -/
def cmpZ : List Int → List Int → Int
  | [], [] => 0
  | [], _ :: _ => -1
  | _ :: _, [] => 1
  | x :: a, y :: b => if x < y then -1 else if y < x then 1 else cmpZ a b
theorem cmpZ_neg : ∀ a b : List Int, cmpZ b a = -cmpZ a b
  | [], [] => rfl
  | [], _ :: _ => rfl
  | _ :: _, [] => rfl
  | x :: a, y :: b => by
    unfold cmpZ
    have := cmpZ_neg a b
    split <;> split <;> (try split) <;> omega
theorem cmpZ_mem : ∀ a b : List Int, cmpZ a b = -1 ∨ cmpZ a b = 0 ∨ cmpZ a b = 1
  | [], [] => by simp [cmpZ]
  | [], _ :: _ => by simp [cmpZ]
  | _ :: _, [] => by simp [cmpZ]
  | x :: a, y :: b => by
    unfold cmpZ
    have := cmpZ_mem a b
    split
    · simp
    · split
      · simp
      · exact this
theorem cmpZ_zero : ∀ {a b : List Int}, cmpZ a b = 0 ↔ a = b
  | [], [] => by simp [cmpZ]
  | [], _ :: _ => by simp [cmpZ]
  | _ :: _, [] => by simp [cmpZ]
  | x :: a, y :: b => by
    unfold cmpZ
    have := @cmpZ_zero a b
    simp only [List.cons.injEq]
    split
    · constructor
      · intro h; omega
      · intro ⟨h, _⟩; omega
    · split
      · constructor
        · intro h; omega
        · intro ⟨h, _⟩; omega
      · rw [this]
        exact ⟨fun h => ⟨by omega, h⟩, fun h => h.2⟩
theorem drop_z {l : List Int} {k : Nat} (h : k < l.length) : l.drop k = zth l k :: l.drop (k + 1) := by
  rw [List.drop_eq_getElem_cons h]; simp [zth, List.getD, List.getElem?_eq_getElem h]
/-- One step: both have a number at k. -/
theorem cmpZ_step {a b : List Int} {k : Nat} (ha : k < a.length) (hb : k < b.length) :
    cmpZ (a.drop k) (b.drop k) = if zth a k < zth b k then -1 else if zth b k < zth a k then 1 else cmpZ (a.drop (k + 1)) (b.drop (k + 1)) := by
  rw [drop_z ha, drop_z hb, cmpZ]
theorem cmpZ_short {a b : List Int} {k : Nat} (ha : a.length ≤ k) (hb : k < b.length) : cmpZ (a.drop k) (b.drop k) = -1 := by
  rw [List.drop_eq_nil_of_le ha, drop_z hb, cmpZ]
theorem cmpZ_long {a b : List Int} {k : Nat} (ha : k < a.length) (hb : b.length ≤ k) : cmpZ (a.drop k) (b.drop k) = 1 := by
  rw [List.drop_eq_nil_of_le hb, drop_z ha, cmpZ]
theorem cmpZ_end {a b : List Int} {k : Nat} (ha : a.length ≤ k) (hb : b.length ≤ k) : cmpZ (a.drop k) (b.drop k) = 0 := by
  rw [List.drop_eq_nil_of_le hb, List.drop_eq_nil_of_le ha, cmpZ]

/-- a begins with b. -/
def undB (a b : List Int) : Bool := decide (b.length ≤ a.length) && decide (a.take b.length = b)
theorem undB_iff (a b : List Int) : undB a b = true ↔ b <+: a := by
  unfold undB
  simp only [Bool.and_eq_true, decide_eq_true_eq]
  constructor
  · intro ⟨h1, h2⟩; rw [← h2]; exact List.take_prefix _ _
  · intro h; exact ⟨h.length_le, (List.prefix_iff_eq_take.1 h).symm⟩
theorem undB_self (a : List Int) : undB a a = true := (undB_iff _ _).2 (List.prefix_refl a)
theorem undB_nil (a : List Int) : undB a [] = true := (undB_iff _ _).2 (List.nil_prefix)
/-- The first k numbers of b are a's. -/
theorem undB_at {a b : List Int} (h : b.length ≤ a.length) : undB a b = true ↔ ∀ k, k < b.length → zth a k = zth b k := by
  unfold undB
  simp only [Bool.and_eq_true, decide_eq_true_eq, h, true_and]
  constructor
  · intro e k hk
    have h2 : zth (a.take b.length) k = zth a k := by unfold zth; rw [List.getD, List.getD, List.getElem?_take, if_pos hk]
    rw [← h2, e]
  · intro e
    apply List.ext_getElem
    · simp; omega
    · intro i h1 h2
      have := e i h2
      unfold zth at this
      rw [List.getD, List.getD, List.getElem?_eq_getElem (by omega), List.getElem?_eq_getElem h2] at this
      simpa using this
end Go.Proofs.Ytjcddbcokiaehaa
