/-
  The contracts of the project's whole: opposites, order, bits.
-/
import Derived.Test.YtbjiknfebocepaaDoorWc
import Derived.Test.YtbjiknfebocepaaDoorShelf
namespace Go.Proofs.YtbjiknfebocepaaDoor
open Go.RowKit Go.Joins
set_option linter.unusedVariables false
set_option linter.unusedSimpArgs false
set_option maxRecDepth 4000

set_option maxHeartbeats 1600000 in
theorem whNeg (x : Nm) (u : Value) (w : World) (hx : NumV w x u) (hn : x.size.length ≤ 900000) :
    Calls Tryd.prog 27 #[u] w fun e w' => ∃ (s : Nm) (u' : Value), e = .returned u' ∧ NumV w' s u' ∧ s.ok ∧ s.z = -x.z ∧ s.size.length ≤ x.size.length ∧ Below w.heap.size w w' := by
  obtain ⟨A, c, rfl, hb, hc⟩ := hx
  obtain ⟨xb, a⟩ := x
  simp only at hb hc hn ⊢
  generalize hma : a.length = na at *
  have HA := Lib.hid hma; clear hma
  have hX : NumV w ⟨xb, a⟩ (.agg #[.bool xb, .slice A na c]) := NumV.mk' xb hb hc
  have hT := Two.start w 30 (.bool xb) (.slice A na c) (.bool false) (.slice none 0 0)
  go_enter Tryd.func27, Tryd.ntmps27
  go_wp2_with fail
  generalize ((w.alloc (Obj.cells #[Value.bool xb, Value.slice A na c] 30)).alloc (Obj.cells #[Value.bool false, Value.slice none 0 0] 30)) = W0 at *
  generalize hR : w.heap.size = R at *
  have HR := Lib.hid hR; clear hR
  refine (whPlain ⟨xb, a⟩ _ W0 (hX.frame hT.2.2.1) (by have := HA.out; simp; omega)).mono ?_
  rintro e w1 ⟨v1, rfl, ⟨A1, c1, rfl, hs1, hc1⟩, hb1⟩
  obtain ⟨x0, hx0⟩ : ∃ x0, Nm.mk0 ⟨xb, a⟩ = x0 := ⟨_, rfl⟩
  have hok1 : x0.ok := by rw [← hx0]; exact Nm.mk0_ok _
  have hz1 : Hid (x0.z = Nm.z ⟨xb, a⟩) := by rw [← hx0]; exact Nm.mk0_z _
  have hl1 : x0.size.length ≤ na := by rw [← hx0, ← HA.out]; exact Nm.mk0_len _
  rw [hx0] at hs1 hc1 ⊢
  have hT1 := hT.frame hb1
  clear hx0 hb1 hT hX hb hc
  have hs2 := hs1.set2 hT1.1 (.bool x0.below) (.slice A1 x0.size.length c1)
  have hT2 := hT1.put (a0 := .bool x0.below) (a1 := .slice A1 x0.size.length c1) rfl
  have c0 := hT1.1.cell 0
  have c1' := hT1.1.cell 1
  have f0 := hT1.1.free 0
  have f1 := hT1.1.free 1
  simp at c0 c1'
  go_wp2
  generalize ((w1.setCell ⟨R, 0, none⟩ (.bool x0.below)).setCell ⟨R, 1, none⟩ (.slice A1 x0.size.length c1)) = W2 at *
  clear hs1 hT1 c0 c1' f0 f1
  have CLN : Hid (∀ W, Below W2.heap.size W2 W → Calls Tryd.prog 40 #[.slice A1 x0.size.length c1] W fun e w' => ∃ A3 c3, e = .returned (.slice A3 x0.size.length c3) ∧ Bs w' A3 x0.size.length x0.size ∧ x0.size.length ≤ c3 ∧ Two w 30 R [.bool x0.below, .slice A1 x0.size.length c1] [.bool false, .slice none 0 0] w' ∧
      w'.cell? ⟨R, 0, none⟩ = some (.bool x0.below) ∧ w'.cell? ⟨R, 1, none⟩ = some (.slice A1 x0.size.length c1) ∧ w'.cell? ⟨R + 1, 0, none⟩ = some (.bool false) ∧ w'.cell? ⟨R + 1, 1, none⟩ = some (.slice none 0 0) ∧ w'.frozen? ⟨R + 1, 0, none⟩ = false ∧ w'.frozen? ⟨R + 1, 1, none⟩ = false) := by
    intro W hW
    refine (bytesClone A1 _ c1 x0.size W (hs2.below hW) (by omega)).mono ?_
    rintro e w' ⟨A3, n3, c3, rfl, hob, hb3⟩
    obtain ⟨h1, h2⟩ := hob.bs
    have := h1.len
    subst this
    have hT3 := (hT2.frame hW).frame hb3
    exact ⟨A3, c3, rfl, h1, h2, hT3, hT3.1.cell 0, hT3.1.cell 1, hT3.2.1.cell 0, hT3.2.1.cell 1, hT3.2.1.free 0, hT3.2.1.free 1⟩
  have c0 := hT2.1.cell 0
  have c1' := hT2.1.cell 1
  simp at c0 c1'
  obtain ⟨p, l⟩ := x0
  simp only at *
  generalize hN : l.length = N at *
  have HN := Lib.hid hN; clear hN
  cases p
  · have FIN : Hid ((Nm.ok ⟨decide (0 < N), l⟩) ∧ Nm.z ⟨decide (0 < N), l⟩ = -Nm.z ⟨xb, a⟩) := by
      refine ⟨⟨hok1.1, fun h => ?_⟩, ?_⟩
      · have := HN.out; simp at h; subst h; simp at this; subst this; rfl
      · rw [← hz1.out]
        unfold Nm.z
        have := HN.out
        cases l with
        | nil => simp [val]
        | cons y r => simp at this; subst this; simp
    go_region_held3 (fun w' => w'.cell? ⟨R, 0, none⟩ = some (.bool false) ∧ w'.cell? ⟨R, 1, none⟩ = some (.slice A1 N c1)) (first | exact ⟨d0, d1⟩ | exact ⟨c0, c1'⟩ | exact ⟨(cell_set2 (by omega) 0).trans d0, (cell_set2 (by omega) 1).trans d1⟩) (first
      | (go_at_call 40; refine (CLN.out _ ?_).mono ?_; exact (Below.refl _ _).drew; rintro e w3 ⟨A3, c3, rfl, hs3, hc3, hT3, d0, d1, r0, r1, g0, g1⟩))
    all_goals
      go_wp2
      refine bodyPost_ret (v := .agg #[.bool (decide (0 < N)), .slice A3 N c3]) (by simp [results, Tryd.results27, go_sem, r0, r1]) rfl ?_
      have hlt := hT3.2.1.lt
      have hwR := hT3.2.2.2
      refine ⟨⟨(decide (0 < N)), l⟩, _, rfl, NumV.mk' _ (hs3.set2 hT3.2.1 _ _) hc3, ?_, ?_, ?_, below_set2 hT3.2.2.1 (by omega) (by omega) _ _⟩
      · exact FIN.out.1
      · exact FIN.out.2
      · have := HN.out; simp only; omega
  · have FIN : Hid ((Nm.ok ⟨false, l⟩) ∧ Nm.z ⟨false, l⟩ = -Nm.z ⟨xb, a⟩) := by
      refine ⟨⟨hok1.1, fun h => rfl⟩, ?_⟩
      rw [← hz1.out]
      unfold Nm.z
      simp
    refine wp_region_held_drew (S := fun w' => w'.cell? ⟨R, 0, none⟩ = some (.bool true) ∧ w'.cell? ⟨R, 1, none⟩ = some (.slice A1 N c1)) (by kernel_rfl) ?hb0 (fun hHeld => ?_)
    case hb0 => (try dsimp only); exact ⟨c0, c1'⟩
    refine wpAnyH_take (i := 0) (v := ?qv0) rfl (by kernel_rfl) (by kernel_rfl) (by kernel_rfl) (fun _ _ _ h => h) (Or.inl ⟨by rfl, ?qy0⟩) (by assumption) ?_
    case qy0 => (intro w hSw; (try dsimp only at hSw); go_simp) <;> (try with_reducible rfl)
    try simp only [Act.put, List.setIfInBounds_toArray, List.set_cons_zero, List.set_cons_succ]
    refine wpAnyH_take (i := 1) (v := ?qv1) rfl (by kernel_rfl) (by kernel_rfl) (by kernel_rfl) (fun _ _ _ h => h) (Or.inl ⟨by rfl, ?qy1⟩) (by assumption) ?_
    case qy1 => (intro w hSw; (try dsimp only at hSw); go_simp) <;> (try with_reducible rfl)
    try simp only [Act.put, List.setIfInBounds_toArray, List.set_cons_zero, List.set_cons_succ]
    refine wpAnyH_take (i := 2) (v := ?qv2) rfl (by kernel_rfl) (by kernel_rfl) (by kernel_rfl) (fun _ _ _ h => h) (Or.inl ⟨by rfl, ?qy2⟩) (by assumption) ?_
    case qy2 => (intro w hSw; (try dsimp only at hSw); go_simp) <;> (try with_reducible rfl)
    try simp only [Act.put, List.setIfInBounds_toArray, List.set_cons_zero, List.set_cons_succ]
    refine wpAnyH_take (i := 3) (v := ?qv3) rfl (by kernel_rfl) (by kernel_rfl) (by kernel_rfl) (fun _ _ _ h => h) (Or.inl ⟨by rfl, ?qy3⟩) (by assumption) ?_
    case qy3 => (intro w hSw; (try dsimp only at hSw); go_simp) <;> (try with_reducible rfl)
    try simp only [Act.put, List.setIfInBounds_toArray, List.set_cons_zero, List.set_cons_succ]
    refine wpAnyH_take (i := 4) (v := undef) rfl (by kernel_rfl) (by kernel_rfl) (by kernel_rfl) (fun _ _ _ h => h) (Or.inr ⟨by rfl, rfl⟩) (by assumption) ?_
    try simp only [Act.put, List.setIfInBounds_toArray, List.set_cons_zero, List.set_cons_succ]
    refine wpAnyH_take (i := 5) (v := undef) rfl (by kernel_rfl) (by kernel_rfl) (by kernel_rfl) (fun _ _ _ h => h) (Or.inr ⟨by rfl, rfl⟩) (by assumption) ?_
    try simp only [Act.put, List.setIfInBounds_toArray, List.set_cons_zero, List.set_cons_succ]
    refine wpAnyH_take (i := 6) (v := undef) rfl (by kernel_rfl) (by kernel_rfl) (by kernel_rfl) (fun _ _ _ h => h) (Or.inr ⟨by rfl, rfl⟩) (by assumption) ?_
    try simp only [Act.put, List.setIfInBounds_toArray, List.set_cons_zero, List.set_cons_succ]
    refine wpAnyH_take (i := 7) (v := undef) rfl (by kernel_rfl) (by kernel_rfl) (by kernel_rfl) (fun _ _ _ h => h) (Or.inr ⟨by rfl, rfl⟩) (by assumption) ?_
    try simp only [Act.put, List.setIfInBounds_toArray, List.set_cons_zero, List.set_cons_succ]
    refine wpAnyH_take (i := 8) (v := ?qv8) rfl (by kernel_rfl) (by kernel_rfl) (by kernel_rfl) (fun _ _ _ h => h) (Or.inl ⟨by rfl, ?qy8⟩) (by assumption) ?_
    case qy8 => (intro w hSw; (try dsimp only at hSw); go_simp) <;> (try with_reducible rfl)
    try simp only [Act.put, List.setIfInBounds_toArray, List.set_cons_zero, List.set_cons_succ]
    refine wpAnyH_take (i := 9) (v := ?qv9) rfl (by kernel_rfl) (by kernel_rfl) (by kernel_rfl) (fun _ _ _ h => h) (Or.inl ⟨by rfl, ?qy9⟩) (by assumption) ?_
    case qy9 => (intro w hSw; (try dsimp only at hSw); go_simp) <;> (try with_reducible rfl)
    try simp only [Act.put, List.setIfInBounds_toArray, List.set_cons_zero, List.set_cons_succ]
    refine wpAnyH_take (i := 10) (v := ?qv10) rfl (by kernel_rfl) (by kernel_rfl) (by kernel_rfl) (fun _ _ _ h => h) (Or.inl ⟨by rfl, ?qy10⟩) (by assumption) ?_
    case qy10 => (intro w hSw; (try dsimp only at hSw); go_simp) <;> (try with_reducible rfl)
    try simp only [Act.put, List.setIfInBounds_toArray, List.set_cons_zero, List.set_cons_succ]
    refine wpAnyH_ready (rs := [11]) (by kernel_rfl) (by simp) ?_
    refine AllReadyH.cons rfl (fun K hK => ?_) AllReadyH.nil
    go_simp
    refine (CLN.out _ ?_).mono ?_
    exact (Below.refl _ _).drew
    rintro e w3 ⟨A3, c3, rfl, hs3, hc3, hT3, d0, d1, r0, r1, g0, g1⟩
    go_wp2_with fail
    refine hK.out _ _ ?hs11a (fun hHeld => ?_)
    case hs11a => (try dsimp only); exact ⟨d0, d1⟩
    clear hK K
    try simp only [Act.put, List.setIfInBounds_toArray, List.set_cons_zero, List.set_cons_succ]
    refine wpAnyH_take (i := 12) (v := ?qv12) rfl (by kernel_rfl) (by kernel_rfl) (by kernel_rfl) (fun _ _ _ h => h) (Or.inl ⟨by rfl, ?qy12⟩) (by assumption) ?_
    case qy12 => (intro w hSw; (try dsimp only at hSw); go_simp) <;> (try with_reducible rfl)
    try simp only [Act.put, List.setIfInBounds_toArray, List.set_cons_zero, List.set_cons_succ]
    refine wpAnyH_ready (rs := [13]) (by kernel_rfl) (by simp) ?_
    refine AllReadyH.cons rfl (fun K hK => ?_) AllReadyH.nil
    go_simp
    refine hK.out _ _ ?hs13a (fun hHeld => ?_)
    case hs13a => (try dsimp only); exact ⟨(cell_set2 (by omega) 0).trans d0, (cell_set2 (by omega) 1).trans d1⟩
    clear hK K
    try simp only [Act.put, List.setIfInBounds_toArray, List.set_cons_zero, List.set_cons_succ]
    refine wpAnyH_done (by kernel_rfl) ?_ _
    go_wp2
    refine bodyPost_ret (v := .agg #[.bool false, .slice A3 N c3]) (by simp [results, Tryd.results27, go_sem, r0, r1]) rfl ?_
    have hlt := hT3.2.1.lt
    have hwR := hT3.2.2.2
    refine ⟨⟨false, l⟩, _, rfl, NumV.mk' _ (hs3.set2 hT3.2.1 _ _) hc3, ?_, ?_, ?_, below_set2 hT3.2.2.1 (by omega) (by omega) _ _⟩
    · exact FIN.out.1
    · exact FIN.out.2
    · have := HN.out; simp only; omega

end Go.Proofs.YtbjiknfebocepaaDoor
