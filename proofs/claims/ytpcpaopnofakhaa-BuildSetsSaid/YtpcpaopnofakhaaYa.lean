/-
  The wholes of wholes that stand behind one another.
-/
import Derived.Test.YtpcpaopnofakhaaXc
import Derived.Test.YtpcpaopnofakhaaWs
namespace Go.Proofs.Ytpcpaopnofakhaa
open Go.RowKit
set_option linter.unusedVariables false
set_option linter.unusedSimpArgs false
set_option maxRecDepth 4000

theorem nx_wrapB (p r l : List UInt8) (t : Tg) (h : t.right) (hl : l.length ≤ 16777216) : nx (p ++ (wrapB t l ++ r)) p.length = (wrapB t l, p.length + (wrapB t l).length, 0) := by
  have h1 := rHead_wrapB p r l t h hl
  have hw : (wrapB t l).length = (tagB t).length + (lenB l.length).length + l.length := by simp [wrapB, Nat.add_assoc]
  unfold nx
  rw [h1]
  simp
  rw [if_neg (by omega)]
  have e : p.length + (tagB t).length + (lenB l.length).length + l.length - p.length = (wrapB t l).length := by omega
  rw [e, List.take_left]
  simp; omega
theorem whs_flat : ∀ (xs : List (List UInt8)) (p : List UInt8), (∀ x ∈ xs, ∃ t l, x = wrapB t l ∧ t.right ∧ l.length ≤ 16777216) → whs (p ++ xs.flatten) p.length = (xs, 0)
  | [], p, _ => by simp; exact whs_end _ _ (by simp)
  | x :: xs, p, h => by
    obtain ⟨t, l, rfl, hr, hl⟩ := h x (by simp)
    have hn := nx_wrapB p xs.flatten l t hr hl
    have hpos : 0 < (wrapB t l).length := by
      have := tagB_pos t
      rcases ht : tagB t with _ | ⟨a, b⟩
      · exact absurd ht this
      · simp [wrapB, ht]
    have ih := whs_flat xs (p ++ wrapB t l) (fun y hy => h y (List.mem_cons_of_mem _ hy))
    rw [List.append_assoc, List.length_append] at ih
    rw [List.flatten_cons, whs_step _ _ (by simp; omega) (by rw [hn]), hn]
    simp only
    rw [ih]; simp
theorem whs_flat0 (xs : List (List UInt8)) (h : ∀ x ∈ xs, ∃ t l, x = wrapB t l ∧ t.right ∧ l.length ≤ 16777216) : whs xs.flatten 0 = (xs, 0) := by
  have := whs_flat xs [] h
  simpa using this
theorem rises_ord (l : List (List UInt8)) : risesB (ordO l) := by
  intro i hi
  have h := List.pairwise_iff_getElem.1 (ordO_sorted l) i (i + 1) (by omega) hi (by omega)
  unfold rowL
  rw [List.getD_eq_getElem?_getD, List.getD_eq_getElem?_getD, List.getElem?_eq_getElem (by omega), List.getElem?_eq_getElem hi]
  exact h
/-- How many of the first k are x. -/
def cntK (xs : List (List UInt8)) (x : List UInt8) (k : Nat) : Nat := (xs.take k).countP (fun y => decide (x = y))
theorem cntK_succ {xs : List (List UInt8)} {x y : List UInt8} {k : Nat} (h : xs[k]? = some y) : cntK xs x (k + 1) = cntK xs x k + (if x = y then 1 else 0) := by
  unfold cntK
  rw [List.take_add_one, h, List.countP_append]
  by_cases hx : x = y <;> simp [hx]
theorem cntK_le (xs : List (List UInt8)) (x : List UInt8) (k : Nat) : cntK xs x k ≤ k := by
  unfold cntK
  exact Nat.le_trans List.countP_le_length (by simp; omega)
theorem cntK_perm {xs ys : List (List UInt8)} (h : xs.Perm ys) (x : List UInt8) : cntK xs x xs.length = cntK ys x xs.length := by
  unfold cntK
  rw [List.take_length, h.length_eq, List.take_length]
  exact h.countP_eq _
end Go.Proofs.Ytpcpaopnofakhaa
