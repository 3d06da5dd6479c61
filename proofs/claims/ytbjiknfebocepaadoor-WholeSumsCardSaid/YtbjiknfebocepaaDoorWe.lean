/-
  The contracts of the project's whole: which of two is less.
-/
import Derived.Test.YtbjiknfebocepaaDoorWd
namespace Go.Proofs.YtbjiknfebocepaaDoor
open Go.RowKit Go.Joins
set_option linter.unusedVariables false
set_option linter.unusedSimpArgs false
set_option maxRecDepth 4000

set_option maxHeartbeats 1600000 in
theorem whCompare (x y : Nm) (u v : Value) (w : World) (hx : NumV w x u) (hy : NumV w y v) (hn : x.size.length ≤ 900000) (hm : y.size.length ≤ 900000) :
    Calls Tryd.prog 28 #[u, v] w fun e w' => e = .returned (.int .i64 (sg x.z y.z)) ∧ Below w.heap.size w w' := by
  obtain ⟨A, c, rfl, hb, hc⟩ := hx
  obtain ⟨A', c', rfl, hb', hc'⟩ := hy
  obtain ⟨xb, a⟩ := x
  obtain ⟨yb, b⟩ := y
  simp only at hb hc hn hb' hc' hm ⊢
  generalize hma : a.length = na at *
  generalize hmb : b.length = nb at *
  have HA := Lib.hid hma; clear hma
  have HB := Lib.hid hmb; clear hmb
  have hX : NumV w ⟨xb, a⟩ (.agg #[.bool xb, .slice A na c]) := NumV.mk' xb hb hc
  have hY : NumV w ⟨yb, b⟩ (.agg #[.bool yb, .slice A' nb c']) := NumV.mk' yb hb' hc'
  have hT := Two.start w 30 (.bool xb) (.slice A na c) (.bool yb) (.slice A' nb c')
  go_enter Tryd.func28, Tryd.ntmps28
  go_wp2
  generalize ((w.alloc (Obj.cells #[Value.bool xb, Value.slice A na c] 30)).alloc (Obj.cells #[Value.bool yb, Value.slice A' nb c'] 30)) = W0 at *
  generalize hR : w.heap.size = R at *
  have HR := Lib.hid hR; clear hR
  have KX : Hid (∀ W, Two w 30 R [.bool xb, .slice A na c] [.bool yb, .slice A' nb c'] W → NumV W ⟨xb, a⟩ (.agg #[.bool xb, .slice A na c]) ∧ NumV W ⟨yb, b⟩ (.agg #[.bool yb, .slice A' nb c'])) :=
    fun W h => ⟨hX.frame h.2.2.1, hY.frame h.2.2.1⟩
  have CEL : Hid (∀ W, Two w 30 R [.bool xb, .slice A na c] [.bool yb, .slice A' nb c'] W → W.cell? ⟨R, 0, none⟩ = some (.bool xb) ∧ W.cell? ⟨R, 1, none⟩ = some (.slice A na c) ∧ W.cell? ⟨R + 1, 0, none⟩ = some (.bool yb) ∧ W.cell? ⟨R + 1, 1, none⟩ = some (.slice A' nb c') ∧ W.frozen? ⟨R, 0, none⟩ = false ∧ W.frozen? ⟨R, 1, none⟩ = false ∧ W.frozen? ⟨R + 1, 0, none⟩ = false ∧ W.frozen? ⟨R + 1, 1, none⟩ = false) :=
    fun W h => ⟨h.1.cell 0, h.1.cell 1, h.2.1.cell 0, h.2.1.cell 1, h.1.free 0, h.1.free 1, h.2.1.free 0, h.2.1.free 1⟩
  obtain ⟨x0, hx0⟩ : ∃ x0, Nm.mk0 ⟨xb, a⟩ = x0 := ⟨_, rfl⟩
  obtain ⟨y0, hy0⟩ : ∃ y0, Nm.mk0 ⟨yb, b⟩ = y0 := ⟨_, rfl⟩
  have PX : Hid (∀ W, Two w 30 R [.bool xb, .slice A na c] [.bool yb, .slice A' nb c'] W → Calls Tryd.prog 36 #[.agg #[.bool xb, .slice A na c]] W fun e w' => ∃ A1 c1, e = .returned (.agg #[.bool x0.below, .slice A1 x0.size.length c1]) ∧ Bs w' A1 x0.size.length x0.size ∧ x0.size.length ≤ c1 ∧ Two w 30 R [.bool xb, .slice A na c] [.bool yb, .slice A' nb c'] w' ∧ Below W.heap.size W w') := by
    intro W h
    refine (whPlain ⟨xb, a⟩ _ W (KX.out W h).1 (by have := HA.out; simp; omega)).mono ?_
    rintro e w' ⟨v1, rfl, ⟨A1, c1, rfl, hs, hc⟩, hb⟩
    rw [hx0] at hs hc ⊢
    exact ⟨A1, c1, rfl, hs, hc, h.frame hb, hb⟩
  have PY : Hid (∀ W, Two w 30 R [.bool xb, .slice A na c] [.bool yb, .slice A' nb c'] W → Calls Tryd.prog 36 #[.agg #[.bool yb, .slice A' nb c']] W fun e w' => ∃ A1 c1, e = .returned (.agg #[.bool y0.below, .slice A1 y0.size.length c1]) ∧ Bs w' A1 y0.size.length y0.size ∧ y0.size.length ≤ c1 ∧ Two w 30 R [.bool xb, .slice A na c] [.bool yb, .slice A' nb c'] w' ∧ Below W.heap.size W w') := by
    intro W h
    refine (whPlain ⟨yb, b⟩ _ W (KX.out W h).2 (by have := HB.out; simp; omega)).mono ?_
    rintro e w' ⟨v1, rfl, ⟨A1, c1, rfl, hs, hc⟩, hb⟩
    rw [hy0] at hs hc ⊢
    exact ⟨A1, c1, rfl, hs, hc, h.frame hb, hb⟩
  have hT' : Two w 30 R [.bool xb, .slice A na c] [.bool yb, .slice A' nb c'] W0.drew := ⟨hT.1, hT.2.1, hT.2.2.1.drew, hT.2.2.2⟩
  obtain ⟨c00, c01, c10, c11, f00, f01, f10, f11⟩ := CEL.out _ hT
  go_cut [] from 5 (fun wc => ∃ A1 c1 A2 c2, Bs wc A1 x0.size.length x0.size ∧ x0.size.length ≤ c1 ∧ Bs wc A2 y0.size.length y0.size ∧ y0.size.length ≤ c2 ∧ Two w 30 R [.bool x0.below, .slice A1 x0.size.length c1] [.bool y0.below, .slice A2 y0.size.length c2] wc)
  case first =>
    go_region_with (first
      | (go_at_call_of 36 (Value.agg #[Value.bool xb, Value.slice A na c]); refine (PX.out _ ?_).mono ?_; assumption; rintro e w1 ⟨A1, c1, rfl, hs1, hc1, hT1, hb1⟩; obtain ⟨c00, c01, c10, c11, f00, f01, f10, f11⟩ := CEL.out _ hT1)
      | (go_at_call_of 36 (Value.agg #[Value.bool yb, Value.slice A' nb c']); refine (PY.out _ ?_).mono ?_; assumption; rintro e w2 ⟨A2, c2, rfl, hs2, hc2, hT2, hb2⟩; obtain ⟨c00, c01, c10, c11, f00, f01, f10, f11⟩ := CEL.out _ hT2))

    all_goals
      go_wp2_with fail
      go_meet
      first
        | exact ⟨A1, c1, A2, c2, Two.putBs hT2 (by simp) (by simp) (by simp) (by simp) (hs1.below hb2), hc1, Two.putBs hT2 (by simp) (by simp) (by simp) (by simp) hs2, hc2, hT2.put2 rfl rfl⟩
        | exact ⟨A1, c1, A2, c2, Two.putBs hT1 (by simp) (by simp) (by simp) (by simp) hs1, hc1, Two.putBs hT1 (by simp) (by simp) (by simp) (by simp) (hs2.below hb1), hc2, hT1.put2 rfl rfl⟩
  case rest =>
  obtain ⟨A1, c1, A2, c2, hs1, hc1, hs2, hc2, hT2⟩ := hcut
  have hok1 : x0.ok := by rw [← hx0]; exact Nm.mk0_ok _
  have hok2 : y0.ok := by rw [← hy0]; exact Nm.mk0_ok _
  have hz1 : Hid (x0.z = Nm.z ⟨xb, a⟩) := by rw [← hx0]; exact Nm.mk0_z _
  have hz2 : Hid (y0.z = Nm.z ⟨yb, b⟩) := by rw [← hy0]; exact Nm.mk0_z _
  have hl1 : x0.size.length ≤ na := by rw [← hx0, ← HA.out]; exact Nm.mk0_len _
  have hl2 : y0.size.length ≤ nb := by rw [← hy0, ← HB.out]; exact Nm.mk0_len _
  clear KX CEL PX PY hT hT' hX hY c00 c01 c10 c11 f00 f01 f10 f11 hx0 hy0 W0 hb hb' hc hc'
  obtain ⟨c00, c01, c10, c11, f00, f01, f10, f11⟩ : wc.cell? ⟨R, 0, none⟩ = some (.bool x0.below) ∧ wc.cell? ⟨R, 1, none⟩ = some (.slice A1 x0.size.length c1) ∧ wc.cell? ⟨R + 1, 0, none⟩ = some (.bool y0.below) ∧ wc.cell? ⟨R + 1, 1, none⟩ = some (.slice A2 y0.size.length c2) ∧ wc.frozen? ⟨R, 0, none⟩ = false ∧ wc.frozen? ⟨R, 1, none⟩ = false ∧ wc.frozen? ⟨R + 1, 0, none⟩ = false ∧ wc.frozen? ⟨R + 1, 1, none⟩ = false :=
    ⟨hT2.1.cell 0, hT2.1.cell 1, hT2.2.1.cell 0, hT2.2.1.cell 1, hT2.1.free 0, hT2.1.free 1, hT2.2.1.free 0, hT2.2.1.free 1⟩
  have hB : Below w.heap.size w wc := hT2.2.2.1
  have hw1 := Nm.neg_iff hok1
  have hw2 := Nm.neg_iff hok2
  have e1 : Hid (sg (Nm.z ⟨xb, a⟩) (Nm.z ⟨yb, b⟩) = sg x0.z y0.z) := by unfold Hid; rw [hz1.out, hz2.out]
  obtain ⟨p, la⟩ := x0
  obtain ⟨q, lb⟩ := y0
  have hv1 := Nat.zero_le (val la)
  have hv2 := Nat.zero_le (val lb)
  simp only at *
  cases p <;> cases q
  · go_wp2_with fail
    refine (whCompareSizes A1 A2 _ _ c1 c2 la lb _ hs1 hs2 hok1.1 hok2.1).mono ?_
    rintro e w' ⟨rfl, rfl⟩
    go_wp2
    go_ret
    exact ⟨ret_int (by rw [e1.out]; rfl), hB⟩
  · have h2 := hw2.1 rfl
    have h1 : ¬ Nm.z ⟨false, la⟩ < 0 := fun e => by have := hw1.2 e; simp at this
    have e2 : Hid (sg (Nm.z ⟨false, la⟩) (Nm.z ⟨true, lb⟩) = 1) := by unfold sg Hid; rw [if_neg (by omega), if_pos (by omega)]
    clear h1 h2 hw1 hw2
    go_wp2
    go_ret
    exact ⟨ret_int (by rw [e1.out, e2.out]), hB⟩
  · have h1 := hw1.1 rfl
    have h2 : ¬ Nm.z ⟨false, lb⟩ < 0 := fun e => by have := hw2.2 e; simp at this
    have e2 : Hid (sg (Nm.z ⟨true, la⟩) (Nm.z ⟨false, lb⟩) = -1) := by unfold sg Hid; rw [if_pos (by omega)]
    clear h1 h2 hw1 hw2
    go_wp2
    go_ret
    exact ⟨ret_int (by rw [e1.out, e2.out]), hB⟩
  · go_wp2_with fail
    refine (whCompareSizes A2 A1 _ _ c2 c1 lb la _ hs2 hs1 hok2.1 hok1.1).mono ?_
    rintro e w' ⟨rfl, rfl⟩
    go_wp2
    go_ret
    exact ⟨ret_int (by rw [e1.out]; exact (sg_neg _ _).symm), hB⟩

end Go.Proofs.YtbjiknfebocepaaDoor
