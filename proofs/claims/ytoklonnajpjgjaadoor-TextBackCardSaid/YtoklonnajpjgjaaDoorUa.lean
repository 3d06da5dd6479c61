/-
  What the next text of any bytes is; facts without a program.
-/
import Derived.Test.YtoklonnajpjgjaaDoorTe
import Derived.Test.YtoklonnajpjgjaaDoorHdReadB
import Derived.Test.YtoklonnajpjgjaaDoorHdOpen
namespace Go.Proofs.YtoklonnajpjgjaaDoor
open Go.RowKit Go.Shelf
set_option linter.unusedVariables false
set_option linter.unusedSimpArgs false
set_option maxRecDepth 4000

/-- The next text: its kind and bytes, the place behind it, and what is wrong. -/
def rdT (l : List UInt8) (p : Nat) (ks : List Int) : (Int × List UInt8) × Nat × Int :=
  if (rHead l p).2.2.2 = 0 then
    (if (rHead l p).1.cls = 0 ∧ (rHead l p).1.made = false ∧ ks.contains (rHead l p).1.num = true then
      (if (l.length : Int) - (rHead l p).2.2.1 < (rHead l p).2.1 then ((0, []), p, 3)
       else (if rightT (rHead l p).1.num ((l.drop (rHead l p).2.2.1).take (rHead l p).2.1.toNat) = true then (((rHead l p).1.num, (l.drop (rHead l p).2.2.1).take (rHead l p).2.1.toNat), (rHead l p).2.2.1 + (rHead l p).2.1.toNat, 0)
         else ((0, []), p, 6)))
     else ((0, []), p, 4))
  else ((0, []), p, (rHead l p).2.2.2)
/-- The kinds that are meant. -/
def effK (ks : List Int) : List Int := if ks.length = 0 then [12, 19, 20, 22, 26, 30] else ks
theorem effK_nil : effK [] = [12, 19, 20, 22, 26, 30] := rfl

theorem rdT_no (l : List UInt8) (p : Nat) (ks : List Int) (h : (rdT l p ks).2.2 ≠ 0) : rdT l p ks = ((0, []), p, (rdT l p ks).2.2) := by
  unfold rdT at h ⊢
  repeat' split
  all_goals simp_all
theorem Zs.onlyNe {w w' : World} {G o n g : Nat} {l : List Int} (h : Zs w (some ⟨G, o, none⟩) n l) (hb : Only g w w') (hne : G ≠ g) : Zs w' (some ⟨G, o, none⟩) n l :=
  ⟨h.1, fun i x hx => by
    obtain ⟨b, o', e, hc⟩ := h.2 i x hx
    cases e
    exact ⟨_, _, rfl, hb.cell hc (by simpa using hne)⟩⟩
theorem Tb.only {g : Nat} {w w' : World} (h : Tb w) (hg : 2 < g) (hb : Only g w w') : Tb w' :=
  h.belowN (n₀ := 3) (by omega) (hb.below (Below.refl 3 w) (by omega) (by have := h.lt; omega))

/-- What next hands back. -/
def RawT (w : World) (g : Nat) (s : Value) (l : List UInt8) (p : Nat) (ks : List Int) (e : Ending) (w' : World) : Prop :=
  ∃ (u : Int) (A : Option Addr) (n c : Nat) (E : Int) (k' : Nat), e = .returned (.tuple #[.agg #[.int .i64 u, .slice A n c], .int .i64 E]) ∧ Cur w' g s l k' ∧ p ≤ k' ∧ Only g w w' ∧
    (rdT l p ks).2.2 = E ∧ (E = 0 → ∃ b, rdT l p ks = ((u, b), k', 0) ∧ Ob w' w.heap.size 5 (.slice A n c) b)
/-- What Read hands back. -/
def ReadT (w : World) (g : Nat) (s : Value) (l : List UInt8) (p : Nat) (ks : List Int) (e : Ending) (w' : World) : Prop :=
  ∃ (A : Option Addr) (n c : Nat), e = .returned (.tuple #[.agg #[.int .i64 (rdT l p ks).1.1, .slice A n c], .int .i64 (rdT l p ks).2.2]) ∧ Ob w' w.heap.size 5 (.slice A n c) (rdT l p ks).1.2 ∧ Cur w' g s l (rdT l p ks).2.1 ∧ Only g w w'
end Go.Proofs.YtoklonnajpjgjaaDoor
