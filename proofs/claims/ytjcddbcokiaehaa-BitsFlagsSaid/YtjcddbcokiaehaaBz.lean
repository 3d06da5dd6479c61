/-
  The project's Of and Flags, each as one contract.
-/
import Derived.Test.YtjcddbcokiaehaaBy
namespace Go.Proofs.Ytjcddbcokiaehaa
open Go.RowKit
set_option linter.unusedVariables false
set_option linter.unusedSimpArgs false
set_option maxRecDepth 4000

/-- What the project's Of hands back. -/
def OfP (w : World) (r : Int × List UInt8) (q : Int) (e : Ending) (w' : World) : Prop := ∃ A' c', e = .returned (.tuple #[.agg #[.int .i64 r.1, .slice A' r.2.length c'], .int .i64 q]) ∧ Bs w' A' r.2.length r.2 ∧ r.2.length ≤ c' ∧ Below w.heap.size w w'

theorem btOfAll (A : Option Addr) (n c : Nat) (l : List Int) (w : World) (h : Zs w A n l) (hn : n ≤ 1099511627776) :
    Calls Try.prog 24 #[.slice A n c] w (OfP w (ofR l) (if isFl 0 l = true then 0 else 1)) := by
  have hl := h.len
  cases hf : isFl 0 l
  · refine (btOfNo A n c l w h hn hf).mono ?_
    rintro e w' ⟨rfl, hB⟩
    rw [ofR_no hf]
    exact ⟨none, 0, rfl, Bs.nil _ _, Nat.le_refl _, hB⟩
  · rw [ofR_yes hf]
    by_cases h0 : n = 0
    · subst h0
      have : l = [] := List.eq_nil_of_length_eq_zero hl
      subst this
      refine (btOfNil A c w).mono ?_
      rintro e w' ⟨rfl, hB⟩
      exact ⟨none, 0, rfl, Bs.nil _ _, Nat.le_refl _, hB⟩
    · have hb := isFl_mem hf _ (zth_last_mem (l := l) (by omega))
      rw [hl] at hb
      refine (btOfYes A n c l w h hn hf h0 (zth l (n - 1)).toNat (by omega)).mono ?_
      rintro e w' ⟨A', c', rfl, hs, hc, hB⟩
      have e1 : (ofS l).1 = 7 - ((zth l (n - 1)).toNat : Int) % 8 := by
        unfold ofS; rw [if_neg (by omega), hl]; show 7 - zth l (n - 1) % 8 = _; omega
      have e2 : (ofS l).2 = ofB l ((zth l (n - 1)).toNat / 8 + 1) := by
        unfold ofS; rw [if_neg (by omega), hl]
      unfold OfP
      rw [e1, e2, ofB_len]
      exact ⟨A', c', rfl, hs, hc, hB⟩

theorem btFlagsAll (u : Int) (A : Option Addr) (m c : Nat) (l : List UInt8) (w : World) (h : Bs w A m l) (hm : m ≤ 1099511) :
    Calls Try.prog 26 #[.agg #[.int .i64 u, .slice A m c]] w (FlgV w (flgS u l)) := by
  cases hr : rightS u l
  · refine (btFlagsArg u A m c l w h hm hr).mono ?_
    rintro e w' ⟨rfl, hB⟩
    rw [show flgS u l = ([], 1) by unfold flgS; rw [if_pos hr]]
    exact ⟨_, rfl, Ov.nil _ _ _, hB⟩
  · cases hf : notFl l (lenS u l)
    · refine (btFlagsYes u A m c l w h hm hr hf).mono ?_
      rintro e w' ⟨v, rfl, ho, hB⟩
      rw [show flgS u l = (flagsS l (lenS u l), 0) by unfold flgS; rw [if_neg (by rw [hr]; simp), if_neg (by rw [hf]; simp)]]
      exact ⟨v, rfl, ho, hB⟩
    · refine (btFlagsForm u A m c l w h hm hr hf).mono ?_
      rintro e w' ⟨rfl, hB⟩
      rw [show flgS u l = ([], 6) by unfold flgS; rw [if_neg (by rw [hr]; simp), if_pos hf]]
      exact ⟨_, rfl, Ov.nil _ _ _, hB⟩

end Go.Proofs.Ytjcddbcokiaehaa
