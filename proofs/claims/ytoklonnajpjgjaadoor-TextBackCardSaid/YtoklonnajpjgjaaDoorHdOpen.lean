/-
  The contracts of the project's head: Open, Is, Alone.
-/
import Derived.Test.YtoklonnajpjgjaaDoorHdReadB
import Derived.Test.YtoklonnajpjgjaaDoorOpn
namespace Go.Proofs.YtoklonnajpjgjaaDoor
open Go.RowKit
set_option linter.unusedVariables false
set_option linter.unusedSimpArgs false
set_option maxRecDepth 4000

theorem rOpen_no (l : List UInt8) (k : Nat) (t : Tg) (h : (rOpen l k t).2.2 ≠ 0) : rOpen l k t = ([], k, (rOpen l k t).2.2) := by
  unfold rOpen at *
  split
  · rename_i h1
    rw [if_pos h1] at h
    split
    · rename_i h2
      rw [if_pos h2] at h
      split
      · rfl
      · rename_i h3; rw [if_neg h3] at h; simp at h
    · rfl
  · rfl
theorem rHead_ge (l : List UInt8) (k : Nat) : k ≤ (rHead l k).2.2.1 := by
  unfold rHead
  split
  · split
    · have h1 := rTag_ge l k; have h2 := rLen_ge l (rTag l k).2.1; show k ≤ (rLen l (rTag l k).2.1).2.1; omega
    · exact Nat.le_refl _
  · exact Nat.le_refl _

/-- What Open hands back: a cursor over the contents, or none. -/
def OpenRaw (w : World) (g : Nat) (s : Value) (l : List UInt8) (k : Nat) (t : Tg) (e : Ending) (w' : World) : Prop :=
  ∃ (p : Option Addr) (E : Int) (k' : Nat), e = .returned (.tuple #[.pointer p, .int .i64 E]) ∧ Cur w' g s l k' ∧ k ≤ k' ∧ Only g w w' ∧ (rOpen l k t).2.2 = E ∧
    (E = 0 → (rOpen l k t).2.1 = k' ∧ ∃ g2 s2, p = some ⟨g2, 0, none⟩ ∧ w.heap.size ≤ g2 ∧ Cur w' g2 s2 (rOpen l k t).1 0)

/-- What Open hands back. -/
def OpenOk (w : World) (g : Nat) (s : Value) (l : List UInt8) (k : Nat) (t : Tg) (e : Ending) (w' : World) : Prop :=
  ∃ (p : Option Addr), e = .returned (.tuple #[.pointer p, .int .i64 (rOpen l k t).2.2]) ∧ Cur w' g s l (rOpen l k t).2.1 ∧ Only g w w' ∧
    ((rOpen l k t).2.2 = 0 → ∃ g2 s2, p = some ⟨g2, 0, none⟩ ∧ w.heap.size ≤ g2 ∧ Cur w' g2 s2 (rOpen l k t).1 0) ∧ ((rOpen l k t).2.2 ≠ 0 → p = none ∧ (rOpen l k t).1 = [])

end Go.Proofs.YtoklonnajpjgjaaDoor
