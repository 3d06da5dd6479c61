/-
  The contracts of the project's head: Is, Alone.
-/
import Derived.Test.YtolcfoaffjnibaaHdOpen
namespace Go.Proofs.Ytolcfoaffjnibaa
open Go.RowKit
set_option linter.unusedVariables false
set_option linter.unusedSimpArgs false
set_option maxRecDepth 4000

/-- Whether the tag t comes next. -/
def rIs (l : List UInt8) (k : Nat) (t : Tg) : Bool := decide ((rHead l k).2.2.2 = 0) && decide ((rHead l k).1 = t)

set_option maxHeartbeats 1600000 in
theorem hdIs (g k : Nat) (l : List UInt8) (t : Tg) (w : World) {s : Value} (h : Cur w g s l k) :
    Calls Try.prog 33 #[.pointer (some ⟨g, 0, none⟩), t.v] w fun e w' => e = .returned (.bool (rIs l k t)) ∧ Cur w' g s l k ∧ Only g w w' := by
  have hg := h.lt
  have hge := rHead_ge l k
  obtain ⟨tc, tn, tm⟩ := t
  have h1 := h.below (below_alloc1 w (blk3 tc tn tm))
  have o1 := Own3.new w (.int .i64 tc) (.int .i64 tn) (.bool tm) 29
  have b1 : Only g w (w.alloc (blk3 tc tn tm)) := Only.of_below (below_alloc1 _ _)
  have hI : Hid (rIs l k ⟨tc, tn, tm⟩ = (decide ((rHead l k).2.2.2 = 0) && decide ((rHead l k).1 = ⟨tc, tn, tm⟩))) := rfl
  unfold Tg.v
  go_enter Try.func33, Try.ntmps33
  go_wp2_with fail
  refine (curAt g k l _ h1).mono ?_
  rintro e w1 ⟨rfl, rfl⟩
  go_wp2_with fail
  refine (hdRead g k l _ h1).mono ?_
  rintro e w1 ⟨rfl, hc1, hO1⟩
  generalize rHead l k = T at *
  obtain ⟨⟨uc, un, um⟩, y, k1, E⟩ := T
  simp only at hc1 hI hge
  have hsz : w.heap.size < w1.heap.size := by have := hO1.size; simp at this; omega
  have o2 := (o1.only hO1 (by omega)).below (below_alloc1 w1 (blk3 uc un um))
  have hO2 := (b1.trans hO1).trans (Only.of_below (below_alloc1 w1 (blk3 uc un um)))
  have hc2 := hc1.below (below_alloc1 w1 (blk3 uc un um))
  have ot := Own3.new w1 (.int .i64 uc) (.int .i64 un) (.bool um) 29
  clear hc1 hO1 o1 h1 b1
  unfold Tg.v
  go_wp2_with fail
  refine (curBack g k1 k _ l _ hc2 hge rfl).mono ?_
  rintro e w3 ⟨rfl, hc3, hO3⟩
  obtain ⟨r0, r1, r2, f0, f1, f2⟩ := o2.only hO3 (by omega)
  obtain ⟨t0, t1, t2, _, _, _⟩ := ot.only hO3 (by omega)
  have hO4 := hO2.trans hO3
  clear hc2 hO2 hO3 o2 ot hsz
  by_cases q : E = 0
  · subst q
    by_cases ht : (⟨uc, un, um⟩ : Tg) = ⟨tc, tn, tm⟩
    · have hb : Hid (rIs l k ⟨tc, tn, tm⟩ = true) := by unfold Hid; rw [hI.out]; simp [ht]
      cases ht
      go_wp2
      go_ret
      rw [hb.out]
      exact ⟨rfl, hc3, hO4⟩
    · have hb : Hid (rIs l k ⟨tc, tn, tm⟩ = false) := by unfold Hid; rw [hI.out, decide_eq_false ht]; simp
      by_cases a1 : uc = tc
      · by_cases a2 : un = tn
        · have a3 : ¬ um = tm := fun a3 => ht (by rw [a1, a2, a3])
          subst a1 a2
          clear ht
          go_wp2
          go_ret
          rw [hb.out]
          exact ⟨rfl, hc3, hO4⟩
        · clear ht
          subst a1
          go_wp2
          go_ret
          rw [hb.out]
          exact ⟨rfl, hc3, hO4⟩
      · clear ht
        go_wp2
        go_ret
        rw [hb.out]
        exact ⟨rfl, hc3, hO4⟩
  · have hb : Hid (rIs l k ⟨tc, tn, tm⟩ = false) := by unfold Hid; rw [hI.out, decide_eq_false q]; simp
    have e1 : (E != 0) = true := by simp; exact q
    have e2 : (E == 0) = false := by simp; exact q
    go_wp2
    go_ret
    rw [hb.out]
    exact ⟨rfl, hc3, hO4⟩

/-- What Alone hands back. -/
def AloneOk (w : World) (l : List UInt8) (t : Tg) (e : Ending) (w' : World) : Prop :=
  ∃ (p : Option Addr), e = .returned (.tuple #[.pointer p, .int .i64 (rAlone l t).2]) ∧ Below w.heap.size w w' ∧
    ((rAlone l t).2 = 0 → ∃ g2 s2, p = some ⟨g2, 0, none⟩ ∧ w.heap.size ≤ g2 ∧ Cur w' g2 s2 (rAlone l t).1 0) ∧ ((rAlone l t).2 ≠ 0 → p = none ∧ (rAlone l t).1 = [])

set_option maxHeartbeats 1600000 in
theorem hdAlone (A : Option Addr) (n c : Nat) (l : List UInt8) (t : Tg) (w : World) (h : Bs w A n l) (hn : n ≤ 1099511627776) :
    Calls Try.prog 36 #[.slice A n c, t.v] w (AloneOk w l t) := by
  have hR : Hid (rAlone l t = if (rOpen l 0 t).2.2 = 0 then (if (rOpen l 0 t).2.1 < l.length then ([], 7) else ((rOpen l 0 t).1, 0)) else ([], (rOpen l 0 t).2.2)) := rfl
  have hOp := Lib.hid (fun (W : World) g s (hW : Cur W g s l 0) => hdOpen g 0 l t W hW)
  obtain ⟨tc, tn, tm⟩ := t
  have o1 := Own3.new w (.int .i64 tc) (.int .i64 tn) (.bool tm) 29
  have b1 := below_alloc1 w (blk3 tc tn tm)
  unfold Tg.v at *
  go_enter Try.func36, Try.ntmps36
  go_wp2_with fail
  refine (octNew A n c l _ (h.below b1) hn).mono ?_
  rintro e w1 ⟨g, s, rfl, hg, hc1, hB1⟩
  have hgw : w.heap.size ≤ g := by simp at hg; omega
  have hBw : Below w.heap.size w w1 := b1.trans (Below.mono hB1 (by simp))
  obtain ⟨r0, r1, r2, _, _, _⟩ := o1.below hB1
  clear o1 b1 hB1 hg
  go_wp2_with fail
  refine (hOp.out _ g s hc1).mono ?_
  rintro e w2 ⟨p, rfl, hc2, hO2, h1, h2⟩
  have hB2 := Only.below hO2 hBw hgw hBw.size
  have hsz := hBw.size
  generalize rOpen l 0 ⟨tc, tn, tm⟩ = T at *
  obtain ⟨r, k1, E⟩ := T
  simp only at hc2 hR h1 h2
  clear r0 r1 r2 hO2 hOp hc1
  by_cases q : E = 0
  · subst q
    rw [if_pos rfl] at hR
    obtain ⟨g2, s2, rfl, hg2, hcs⟩ := h1 rfl
    have hkl : k1 ≤ l.length := by obtain ⟨_, _, _, _, _, _, hb, _, hk, _⟩ := hc2; have := hb.len; omega
    go_wp2_with fail
    refine (curLeft g k1 l _ hc2).mono ?_
    rintro e w3 ⟨rfl, hq⟩
    have hB3 := hB2.trans hq.below
    by_cases h3 : k1 < l.length
    · rw [if_pos h3] at hR
      have h4 : (0 : Int) < (l.length : Int) - k1 := by omega
      go_wp2
      go_ret2
      exact ⟨none, by rw [hR.out]; rfl, hB3, fun e => by rw [hR.out] at e; simp at e, fun _ => ⟨rfl, by rw [hR.out]⟩⟩
    · rw [if_neg h3] at hR
      have h4 : ¬ (0 : Int) < (l.length : Int) - k1 := by omega
      go_wp2
      go_ret2
      exact ⟨_, by rw [hR.out]; rfl, hB3, fun e => ⟨g2, s2, rfl, Nat.le_trans hsz hg2, by rw [hR.out]; exact hcs.qt hq⟩, fun e => absurd (by rw [hR.out]) e⟩
  · rw [if_neg q] at hR
    have e1 : (E != 0) = true := by simp; exact q
    have e2 : (E == 0) = false := by simp; exact q
    clear h1 h2
    go_wp2
    go_ret2
    exact ⟨none, by rw [hR.out]; rfl, hB2, fun e => by rw [hR.out] at e; exact absurd e q, fun _ => ⟨rfl, by rw [hR.out]⟩⟩

end Go.Proofs.Ytolcfoaffjnibaa
