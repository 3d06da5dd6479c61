/-
  The contracts of the project's head: Is, Alone.
-/
import Derived.Test.YtbhfaakhcnkegaaHdOpen
namespace Go.Proofs.Ytbhfaakhcnkegaa
open Go.RowKit
set_option linter.unusedVariables false
set_option linter.unusedSimpArgs false
set_option maxRecDepth 4000

/-- What Alone hands back. -/
def AloneOk (w : World) (l : List UInt8) (t : Tg) (e : Ending) (w' : World) : Prop :=
  ∃ (p : Option Addr), e = .returned (.tuple #[.pointer p, .int .i64 (rAlone l t).2]) ∧ Below w.heap.size w w' ∧
    ((rAlone l t).2 = 0 → ∃ g2 s2, p = some ⟨g2, 0, none⟩ ∧ w.heap.size ≤ g2 ∧ Cur w' g2 s2 (rAlone l t).1 0) ∧ ((rAlone l t).2 ≠ 0 → p = none ∧ (rAlone l t).1 = [])

set_option maxHeartbeats 1600000 in
theorem hdAlone (A : Option Addr) (n c : Nat) (l : List UInt8) (t : Tg) (w : World) (h : Bs w A n l) (hn : n ≤ 1099511627776) :
    Calls Try.prog 41 #[.slice A n c, t.v] w (AloneOk w l t) := by
  have hR : Hid (rAlone l t = if (rOpen l 0 t).2.2 = 0 then (if (rOpen l 0 t).2.1 < l.length then ([], 7) else ((rOpen l 0 t).1, 0)) else ([], (rOpen l 0 t).2.2)) := rfl
  have hOp := Lib.hid (fun (W : World) g s (hW : Cur W g s l 0) => hdOpen g 0 l t W hW)
  obtain ⟨tc, tn, tm⟩ := t
  have o1 := Own3.new w (.int .i64 tc) (.int .i64 tn) (.bool tm) 36
  have b1 := below_alloc1 w (blk3 tc tn tm)
  unfold Tg.v at *
  go_enter Try.func41, Try.ntmps41
  go_wp2_with fail
  refine (octNew A n c l _ (h.below b1) hn).mono ?_
  rintro e w1 ⟨g, s, rfl, hg, hc1, hB1⟩
  have hgw : w.heap.size ≤ g := by simp at hg; omega
  have hBw : Below w.heap.size w w1 := b1.trans (Below.mono hB1 (by simp))
  obtain ⟨r0, r1, r2, _, _, _⟩ := o1.below hB1
  clear o1 b1 hB1 hg
  go_wp2_with fail
  refine (hOp.out _ g s hc1).mono ?_
  rintro e w2 ⟨p, rfl, hc2, hO2, h1, h2⟩
  have hB2 := Only.below hO2 hBw hgw hBw.size
  have hsz := hBw.size
  generalize rOpen l 0 ⟨tc, tn, tm⟩ = T at *
  obtain ⟨r, k1, E⟩ := T
  simp only at hc2 hR h1 h2
  clear r0 r1 r2 hO2 hOp hc1
  by_cases q : E = 0
  · subst q
    rw [if_pos rfl] at hR
    obtain ⟨g2, s2, rfl, hg2, hcs⟩ := h1 rfl
    have hkl : k1 ≤ l.length := by obtain ⟨_, _, _, _, _, _, hb, _, hk, _⟩ := hc2; have := hb.len; omega
    go_wp2_with fail
    refine (curLeft g k1 l _ hc2).mono ?_
    rintro e w3 ⟨rfl, hq⟩
    have hB3 := hB2.trans hq.below
    by_cases h3 : k1 < l.length
    · rw [if_pos h3] at hR
      have h4 : (0 : Int) < (l.length : Int) - k1 := by omega
      go_wp2
      go_ret2
      exact ⟨none, by rw [hR.out]; rfl, hB3, fun e => by rw [hR.out] at e; simp at e, fun _ => ⟨rfl, by rw [hR.out]⟩⟩
    · rw [if_neg h3] at hR
      have h4 : ¬ (0 : Int) < (l.length : Int) - k1 := by omega
      go_wp2
      go_ret2
      exact ⟨_, by rw [hR.out]; rfl, hB3, fun e => ⟨g2, s2, rfl, Nat.le_trans hsz hg2, by rw [hR.out]; exact hcs.qt hq⟩, fun e => absurd (by rw [hR.out]) e⟩
  · rw [if_neg q] at hR
    have e1 : (E != 0) = true := by simp; exact q
    have e2 : (E == 0) = false := by simp; exact q
    clear h1 h2
    go_wp2
    go_ret2
    exact ⟨none, by rw [hR.out]; rfl, hB2, fun e => by rw [hR.out] at e; exact absurd e q, fun _ => ⟨rfl, by rw [hR.out]⟩⟩

end Go.Proofs.Ytbhfaakhcnkegaa
