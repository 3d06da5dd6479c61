/-
  The law OidTexts, walked.
-/
import Derived.Test.YtfighoplbmmijaaDoorKn
import Derived.Test.YtfighoplbmmijaaDoorRf
namespace Go.Proofs.YtfighoplbmmijaaDoor
open Go.RowKit Go.Joins
set_option linter.unusedVariables false
set_option linter.unusedSimpArgs false
set_option maxRecDepth 4000

theorem fromO_cases (p : List UInt8) : (∃ l, fromO p = (l, 0) ∧ RightO l ∧ textO l = p) ∨ fromO p = ([], 1) ∨ fromO p = ([], 6) := by
  unfold fromO
  split
  · split
    · left
      refine ⟨_, rfl, ?_⟩
      exact text_from (s := p) (by unfold fromO; rw [if_pos ‹_›, if_pos ‹_›])
    · right; left; rfl
  · right; right; rfl
theorem str_back (t : ByteArray) : (⟨t.data.toList.toArray⟩ : ByteArray) = t := by cases t; simp

/-- What Parse or FromText hands back, as a slice of ints. -/
theorem PrsOk.open_ {w w' : World} {r : List Int × Int} {e : Ending} (h : PrsOk w r e w') : ∃ A c, e = .returned (.tuple #[.slice A r.1.length c, .int .i64 r.2]) ∧ Zs w' A r.1.length r.1 ∧ r.1.length ≤ c ∧ Below w.heap.size w w' := by
  obtain ⟨v, rfl, hov, hB⟩ := h
  obtain ⟨A, c, rfl, hc, hvs⟩ := hov.slice
  rw [List.length_map] at hc hvs ⊢
  exact ⟨A, c, rfl, hvs, hc, hB⟩

set_option maxHeartbeats 3200000 in
theorem lawTexts0 (s0 : ByteArray) (w : World) (ht : Tab w) (hm : Mx w) :
    Calls Tryd.prog 5 #[.string s0] w fun e w' => e = .returned (.bool true) ∧ Below w.heap.size w w' := by
  go_enter Tryd.func5, Tryd.ntmps5
  go_wp2_with fail
  have hsz : (s0.extract 0 (min (s0.size : Int) 500).toNat).size ≤ 500 := by
    rw [ByteArray.size_extract]; omega
  generalize s0.extract 0 (min (s0.size : Int) 500).toNat = t at *
  refine (oidFromText t w (by omega) hm).mono ?_
  intro e w1 hP1
  obtain ⟨A1, c1, rfl, z1, k1, b1⟩ := hP1.open_
  clear hP1
  go_wp2_with fail
  refine (refFromText4 t t.data.toList w1 rfl (by omega)).mono ?_
  intro e w2 hP2
  obtain ⟨A2, c2, rfl, z2, k2, b2⟩ := hP2.open_
  clear hP2
  have q2 : Below w.heap.size w w2 := b1.trans (Below.mono b2 b1.size)
  have z1' := z1.below b2
  clear z1 b2 b1
  rcases fromO_cases t.data.toList with ⟨l, hF, hR, hT⟩ | hF | hF
  · rw [hF] at z1' z2 k1 k2 ⊢
    simp only at z1' z2 k1 k2 ⊢
    have hlen : l.length ≤ 32 := hR.max
    have T1 := oidText A1 l.length c1 l w2 z1' (by omega) hR (ht.below q2)
    rw [hT, str_back] at T1
    clear hF hT
    generalize hL : l.length = L at *
    have HL := Lib.hid hL
    clear hL
    go_wp2_with fail
    refine T1.mono ?_
    rintro e w3 ⟨rfl, b3⟩
    have q3 : Below w.heap.size w w3 := q2.trans (Below.mono b3 q2.size)
    have y1 := z1'.below b3
    have y2 := z2.below b3
    clear z1' z2 b3 T1
    go_wp2_with fail
    refine (oidKnown w3 (ht.below q3)).mono ?_
    rintro e w4 ⟨rfl, b4⟩
    have q4 : Below w.heap.size w w4 := q3.trans (Below.mono b4 q3.size)
    have x1 := y1.below b4
    have x2 := y2.below b4
    clear y1 y2 b4
    have S1 := ref4Same A1 A2 L L c1 c2 l l w4 x1 x2 (by omega) (by omega)
    rw [show decide (l = l) = true by simp] at S1
    go_wp2_with fail
    refine S1.mono ?_
    rintro e w5 ⟨rfl, q⟩
    have q5 : Below w.heap.size w w5 := q4.trans q.below
    go_wp2
    go_ret
    exact ⟨rfl, q5⟩
  all_goals
    rw [hF] at z1' z2 k1 k2 ⊢
    simp only [List.length_nil] at z1' z2 k1 k2 ⊢
    have T1 := oidTextNo A1 0 c1 [] w2 z1' (by omega) rfl
    clear hF
    go_wp2_with fail
    refine T1.mono ?_
    rintro e w3 ⟨rfl, b3⟩
    have q3 : Below w.heap.size w w3 := q2.trans (Below.mono b3 q2.size)
    clear z1' z2 b3 T1
    go_wp2_with fail
    refine (oidKnown w3 (ht.below q3)).mono ?_
    rintro e w4 ⟨rfl, b4⟩
    have q4 : Below w.heap.size w w4 := q3.trans (Below.mono b4 q3.size)
    have S1 := ref4Same A1 A2 0 0 c1 c2 [] [] w4 (Zs.nil _ _) (Zs.nil _ _) (by omega) (by omega)
    rw [show decide (([] : List Int) = []) = true by simp] at S1
    go_wp2_with fail
    refine S1.mono ?_
    rintro e w5 ⟨rfl, q⟩
    have q5 : Below w.heap.size w w5 := q4.trans q.below
    go_wp2
    go_ret
    exact ⟨rfl, q5⟩
end Go.Proofs.YtfighoplbmmijaaDoor
