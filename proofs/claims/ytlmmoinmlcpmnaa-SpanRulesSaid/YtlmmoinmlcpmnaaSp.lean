/-
  The law SpanRules.
-/
import Derived.Test.YtlmmoinmlcpmnaaSm
namespace Go.Proofs.Ytlmmoinmlcpmnaa
open Go.RowKit
set_option linter.unusedVariables false
set_option linter.unusedSimpArgs false
set_option maxRecDepth 20000

theorem Blk.one2 (w : World) (o : Obj) (x : Value) (t : TypeId) : Blk ((w.alloc o).alloc (.cells #[x] t)) (w.heap.size + 1) t [x] := by
  have := Blk.new (w.alloc o) [x] t
  simpa using this
set_option maxHeartbeats 12800000 in
theorem lawRules (a b c x y : Int) (w : World) (ha : I64 a) (hb : I64 b) (hc : I64 c) (hx : I64 x) (hy : I64 y) :
    Calls Try.prog 8 #[.int .i64 a, .int .i64 b, .int .i64 c, .agg #[.int .i64 x, .int .i64 y]] w fun e w' => e = .returned (.bool true) ∧ Below w.heap.size w w' := by
  have HA := Lib.hid ha
  have HB := Lib.hid hb
  have HC := Lib.hid hc
  have KK := Lib.hid (fun W => known11 W)
  have K1 := Lib.hid (fun R W => spAdd1 a b R W ha hb)
  have K2 := Lib.hid (fun R W => spAdd1 a c R W ha hc)
  have K3 := Lib.hid (fun R W => spAdd1 b a R W hb ha)
  have K4 : Hid (∀ W, Calls Try.prog 11 #[.int .i64 a, .slice none 0 0] W fun e w' => e = .returned (.int .i64 a) ∧ w' = W) := fun W => spAdd a none 0 0 [] W ha (Zs.nil _ _) (by simp) (by omega)
  have KE : Hid (∀ q W, Calls Try.prog 15 #[.int .i64 q] W fun e w' => e = .returned (.bool (decide (q = -9223372036854775808 ∨ q = 9223372036854775807))) ∧ w' = W) := fun q W => spEnds q W
  have KS : Hid (∀ W, Calls Try.prog 12 #[.int .i64 (pls a b), .int .i64 b] W fun e w' => e = .returned (.int .i64 (mns (pls a b) b)) ∧ Below W.heap.size W w') := fun W => spSub _ b W (pls_i64 _ _) hb
  have KT := Lib.hid (fun W => lwTo x y W)
  have KM := Lib.hid (fun W => spMove x y b W hx hy hb)
  have KY := Lib.hid (fun W => spEmpty x y W)
  have KL1 : Hid (∀ W, Calls Try.prog 22 #[.agg #[.int .i64 (moveS (x, y) b).1, .int .i64 (moveS (x, y) b).2]] W fun e w' => e = .returned (.int .i64 (lenS (moveS (x, y) b))) ∧ Below W.heap.size W w') := by
    intro W
    refine spLength _ _ W ?_ ?_
    · unfold moveS; split
      · exact i64_lit rfl
      · exact pls_i64 _ _
    · unfold moveS; split
      · exact i64_lit rfl
      · exact pls_i64 _ _
  have KL2 := Lib.hid (fun W => spLength x y W hx hy)
  have KN1 := Lib.hid (fun W => spNeg a W ha)
  have KN2 := Lib.hid (fun W => spNeg (mns 0 a) W (mns_i64 _ _))
  have FC : Hid (pls b a = pls a b) := by unfold Hid pls; rw [Int.add_comm]
  rw [FC.out] at K3
  have FX : Hid ((b ≤ c ↔ pls a b ≤ pls a c) ∨ pls a b = pls a c) := by
    unfold Hid pls sat
    (repeat' split) <;> omega
  have FS : Hid (¬ (pls a b = -9223372036854775808 ∨ pls a b = 9223372036854775807) → mns (pls a b) b = a) := by
    obtain ⟨a1, a2⟩ := ha
    obtain ⟨b1, b2⟩ := hb
    unfold Hid mns pls sat
    (repeat' split) <;> omega
  have FL : Hid (¬ y < x → ¬ ((moveS (x, y) b).1 = -9223372036854775808 ∨ (moveS (x, y) b).1 = 9223372036854775807) → ¬ ((moveS (x, y) b).2 = -9223372036854775808 ∨ (moveS (x, y) b).2 = 9223372036854775807) → lenS (moveS (x, y) b) = lenS (x, y)) := by
    intro h1 h2 h3
    have e1 : moveS (x, y) b = (pls x b, pls y b) := by unfold moveS; rw [if_neg h1]
    rw [e1] at h2 h3 ⊢
    dsimp only at h2 h3
    have q1 : pls x b = x + b := by
      unfold pls sat at h2 ⊢
      (repeat' split) <;> (try rfl) <;> (exfalso; apply h2; (repeat' split) <;> omega)
    have q2 : pls y b = y + b := by
      unfold pls sat at h3 ⊢
      (repeat' split) <;> (try rfl) <;> (exfalso; apply h3; (repeat' split) <;> omega)
    rw [q1, q2]
    unfold lenS
    dsimp only
    rw [if_neg h1, if_neg (by omega)]
    unfold mns
    rw [show y + b - (x + b) = y - x by omega]
  have FN : Hid ((a = -9223372036854775808 ∧ mns 0 (mns 0 a) = -9223372036854775807) ∨ (-9223372036854775807 ≤ a ∧ mns 0 (mns 0 a) = a)) := by
    obtain ⟨a1, a2⟩ := ha
    unfold Hid mns sat
    (repeat' split) <;> omega
  generalize pls a b = p at *
  generalize pls a c = q at *
  generalize mns p b = u at *
  generalize mns 0 a = na at *
  generalize mns 0 na = nna at *
  generalize moveS (x, y) b = mm at *
  obtain ⟨m1, m2⟩ := mm
  dsimp only at KM FL KL1
  generalize lenS (m1, m2) = lm at *
  generalize lenS (x, y) = lx at *
  have G0 := Lib.hid (Late.fst w (.int .i64 x) (.int .i64 y) 30)
  clear ha hb hc hx hy FC
  obtain ⟨W0, hW0⟩ : ∃ W0, w.alloc (.cells #[.int .i64 x, .int .i64 y] 30) = W0 := ⟨_, rfl⟩
  rw [hW0] at G0
  go_enter Try.func8, Try.ntmps8
  go_wp2_with fail
  clear hW0
  refine (K1.out _ _ (Blk.one W0 (.int .i64 b) 3)).mono ?_
  rintro e x1 ⟨rfl, rfl⟩
  have G1 := Lib.hid (G0.out.alloc (.cells #[.int .i64 b] 3))
  go_wp2_with fail
  refine (K2.out _ _ (Blk.one2 W0 (.cells #[.int .i64 b] 3) (.int .i64 c) 3)).mono ?_
  rintro e x2 ⟨rfl, rfl⟩
  have G2 := Lib.hid (G1.out.alloc (.cells #[.int .i64 c] 3))
  clear G0 G1
  obtain ⟨W2, hW2⟩ : ∃ W2, (W0.alloc (.cells #[.int .i64 b] 3)).alloc (.cells #[.int .i64 c] 3) = W2 := ⟨_, rfl⟩
  rw [hW2] at G2
  go_upto_region 2 with (fail)
  try rw [hW2]
  clear hW2
  go_cut [31] from 32 (fun v wc => v = .bool false ∧ wc = W2)
  case first =>
    rcases FX.out with g | g
    · by_cases g1 : b ≤ c
      · have g2 := g.1 g1
        go_wp2_with fail
        go_meet
        exact ⟨rfl, rfl⟩
      · have g2 : ¬ p ≤ q := fun h => g1 (g.2 h)
        have g1' : decide (b ≤ c) = false := by simpa using g1
        have g2' : decide (p ≤ q) = false := by simpa using g2
        go_wp2_with fail
        go_meet
        exact ⟨rfl, rfl⟩
    · subst g
      have g2 : p ≤ p := Int.le_refl _
      by_cases g1 : b ≤ c
      · go_wp2_with fail
        go_meet
        exact ⟨rfl, rfl⟩
      · have g1' : decide (b ≤ c) = false := by simpa using g1
        have g3 : (p != p) = false := by simp
        go_wp2_with fail
        go_meet
        exact ⟨rfl, rfl⟩
  case rest =>
    obtain ⟨rfl, hw⟩ := hcut
    rw [hw]
    clear hw FX
    go_upto_region 4 with (fail)
    go_cut [41] from 42 (fun v wc => v = .bool false ∧ Late w wc w.heap.size 30 (.int .i64 x) (.int .i64 y))
    case first =>
      go_wp2_with fail
      refine (KE.out _ _).mono ?_
      rintro e x3 ⟨rfl, rfl⟩
      by_cases g : p = -9223372036854775808 ∨ p = 9223372036854775807
      · rw [decide_eq_true g]
        clear g
        go_wp2_with fail
        go_meet
        exact ⟨rfl, G2.out⟩
      · have g2 := FS.out g
        rw [decide_eq_false g]
        subst g2
        clear g
        go_wp2_with fail
        refine (KS.out _).mono ?_
        rintro e x4 ⟨rfl, hb⟩
        have G3 := Lib.hid (G2.out.call hb)
        clear hb
        have g3 : (u != u) = false := by simp
        go_wp2_with fail
        go_meet
        exact ⟨rfl, G3.out⟩
    case rest =>
      obtain ⟨rfl, hgw⟩ := hcut
      have G4 := Lib.hid hgw
      clear hgw FS G2
      obtain ⟨⟨p0, p1⟩, _, _⟩ := G4.out.blk.two
      go_wp2_with fail
      refine (KT.out _).mono ?_
      rintro e x5 ⟨rfl, hb⟩
      have G5 := Lib.hid (G4.out.call hb)
      clear hb p0 p1
      go_wp2_with fail
      refine (KM.out _).mono ?_
      rintro e x6 ⟨rfl, hb⟩
      have G6 := Lib.hid (G5.out.call hb)
      have GM := Lib.hid (Late.made G6.out.bel (.int .i64 m1) (.int .i64 m2) 31)
      have G7 := Lib.hid (G6.out.alloc (.cells #[.int .i64 m1, .int .i64 m2] 31))
      clear hb G4 G5
      obtain ⟨W7, hW7⟩ : ∃ W7, x6.alloc (.cells #[.int .i64 m1, .int .i64 m2] 31) = W7 := ⟨_, rfl⟩
      rw [hW7] at GM G7
      go_upto_region 7 with (fail)
      try rw [hW7]
      clear hW7 G6
      generalize x6.heap.size = R at *
      have ST : Hid (∀ W, Below W7.heap.size W7 W → ((W.cell? ⟨w.heap.size, 0, none⟩ = some (.int .i64 x) ∧ W.cell? ⟨w.heap.size, 1, none⟩ = some (.int .i64 y)) ∧ (W.cell? ⟨R, 0, none⟩ = some (.int .i64 m1) ∧ W.cell? ⟨R, 1, none⟩ = some (.int .i64 m2)))) := fun W hW => ⟨(G7.out.blk.below hW).two.1, (GM.out.blk.below hW).two.1⟩
      go_cut [69] from 70 (fun v wc => v = .bool false ∧ Below W7.heap.size W7 wc)
      case first =>
        by_cases g : y < x
        · have gy := decide_eq_true g
          rw [gy] at KY
          clear g gy
          refine wp_region_held_drew (S := fun W => ((W.cell? ⟨w.heap.size, 0, none⟩ = some (.int .i64 x) ∧ W.cell? ⟨w.heap.size, 1, none⟩ = some (.int .i64 y)) ∧ (W.cell? ⟨R, 0, none⟩ = some (.int .i64 m1) ∧ W.cell? ⟨R, 1, none⟩ = some (.int .i64 m2)))) (by kernel_rfl) ?hb0 (fun hHeld => ?_)
          case hb0 => (try dsimp only); exact ST.out _ (Below.drew (Below.refl W7.heap.size W7))
          refine wpAnyH_take (i := 0) (v := ?qv0a) rfl (by kernel_rfl) (by kernel_rfl) (by kernel_rfl) (fun _ _ _ h => h) (Or.inl ⟨by kernel_rfl, ?qy0a⟩) (by assumption) ?_
          case qy0a => (intro w hSw; (try dsimp only at hSw); go_simp) <;> (try with_reducible rfl)
          try simp only [Act.put, List.setIfInBounds_toArray, List.set_cons_zero, List.set_cons_succ, List.getElem_toArray, List.getElem_cons_succ, List.getElem_cons_zero]
          refine wpAnyH_ready (rs := [1]) (by kernel_rfl) (by simp) ?_
          refine AllReadyH.cons rfl (fun K hK => ?_) AllReadyH.nil
          go_simp
          refine (KT.out _).mono ?_
          rintro e y1 ⟨rfl, hy⟩
          have Z1 := Lib.hid (bstep (Below.drew (Below.refl W7.heap.size W7)) hy (Below.size (Below.drew (Below.refl W7.heap.size W7))))
          clear hy
          go_wp2_with fail
          refine hK.out _ _ ?hs1aa (fun hHeld => ?_)
          case hs1aa => (try dsimp only); exact ST.out _ (Z1.out)
          clear hK K
          try simp only [Act.put, List.setIfInBounds_toArray, List.set_cons_zero, List.set_cons_succ, List.getElem_toArray, List.getElem_cons_succ, List.getElem_cons_zero]
          refine wpAnyH_ready (rs := [2]) (by kernel_rfl) (by simp) ?_
          refine AllReadyH.cons rfl (fun K hK => ?_) AllReadyH.nil
          go_simp
          refine (KY.out _).mono ?_
          rintro e y2 ⟨rfl, hy⟩
          have Z2 := Lib.hid (bstep (Z1.out) hy (Below.size (Z1.out)))
          clear hy
          go_wp2_with fail
          refine hK.out _ _ ?hs2aa (fun hHeld => ?_)
          case hs2aa => (try dsimp only); exact ST.out _ (Z2.out)
          clear hK K
          try simp only [Act.put, List.setIfInBounds_toArray, List.set_cons_zero, List.set_cons_succ, List.getElem_toArray, List.getElem_cons_succ, List.getElem_cons_zero]
          refine wpAnyH_take (i := 3) (v := ?qv3a) rfl (by kernel_rfl) (by kernel_rfl) (by kernel_rfl) (fun _ _ _ h => h) (Or.inl ⟨by kernel_rfl, ?qy3a⟩) (by assumption) ?_
          case qy3a => (intro w hSw; (try dsimp only at hSw); go_simp) <;> (try with_reducible rfl)
          try simp only [Act.put, List.setIfInBounds_toArray, List.set_cons_zero, List.set_cons_succ, List.getElem_toArray, List.getElem_cons_succ, List.getElem_cons_zero]
          refine wpAnyH_take (i := 4) (v := ?qv4a) rfl (by kernel_rfl) (by kernel_rfl) (by kernel_rfl) (fun _ _ _ h => h) (Or.inl ⟨by kernel_rfl, ?qy4a⟩) (by assumption) ?_
          case qy4a => (intro w hSw; (try dsimp only at hSw); go_simp) <;> (try with_reducible rfl)
          try simp only [Act.put, List.setIfInBounds_toArray, List.set_cons_zero, List.set_cons_succ, List.getElem_toArray, List.getElem_cons_succ, List.getElem_cons_zero]
          refine wpAnyH_take (i := 5) (v := undef) rfl (by kernel_rfl) (by kernel_rfl) (by kernel_rfl) (fun _ _ _ h => h) (Or.inr ⟨by kernel_rfl, rfl⟩) (by assumption) ?_
          try simp only [Act.put, List.setIfInBounds_toArray, List.set_cons_zero, List.set_cons_succ, List.getElem_toArray, List.getElem_cons_succ, List.getElem_cons_zero]
          refine wpAnyH_take (i := 6) (v := undef) rfl (by kernel_rfl) (by kernel_rfl) (by kernel_rfl) (fun _ _ _ h => h) (Or.inr ⟨by kernel_rfl, rfl⟩) (by assumption) ?_
          try simp only [Act.put, List.setIfInBounds_toArray, List.set_cons_zero, List.set_cons_succ, List.getElem_toArray, List.getElem_cons_succ, List.getElem_cons_zero]
          refine wpAnyH_take (i := 7) (v := undef) rfl (by kernel_rfl) (by kernel_rfl) (by kernel_rfl) (fun _ _ _ h => h) (Or.inr ⟨by kernel_rfl, rfl⟩) (by assumption) ?_
          try simp only [Act.put, List.setIfInBounds_toArray, List.set_cons_zero, List.set_cons_succ, List.getElem_toArray, List.getElem_cons_succ, List.getElem_cons_zero]
          refine wpAnyH_take (i := 8) (v := undef) rfl (by kernel_rfl) (by kernel_rfl) (by kernel_rfl) (fun _ _ _ h => h) (Or.inr ⟨by kernel_rfl, rfl⟩) (by assumption) ?_
          try simp only [Act.put, List.setIfInBounds_toArray, List.set_cons_zero, List.set_cons_succ, List.getElem_toArray, List.getElem_cons_succ, List.getElem_cons_zero]
          refine wpAnyH_take (i := 9) (v := ?qv9a) rfl (by kernel_rfl) (by kernel_rfl) (by kernel_rfl) (fun _ _ _ h => h) (Or.inl ⟨by kernel_rfl, ?qy9a⟩) (by assumption) ?_
          case qy9a => (intro w hSw; (try dsimp only at hSw); go_simp) <;> (try with_reducible rfl)
          try simp only [Act.put, List.setIfInBounds_toArray, List.set_cons_zero, List.set_cons_succ, List.getElem_toArray, List.getElem_cons_succ, List.getElem_cons_zero]
          refine wpAnyH_take (i := 10) (v := ?qv10a) rfl (by kernel_rfl) (by kernel_rfl) (by kernel_rfl) (fun _ _ _ h => h) (Or.inl ⟨by kernel_rfl, ?qy10a⟩) (by assumption) ?_
          case qy10a => (intro w hSw; (try dsimp only at hSw); go_simp) <;> (try with_reducible rfl)
          try simp only [Act.put, List.setIfInBounds_toArray, List.set_cons_zero, List.set_cons_succ, List.getElem_toArray, List.getElem_cons_succ, List.getElem_cons_zero]
          refine wpAnyH_take (i := 11) (v := undef) rfl (by kernel_rfl) (by kernel_rfl) (by kernel_rfl) (fun _ _ _ h => h) (Or.inr ⟨by kernel_rfl, rfl⟩) (by assumption) ?_
          try simp only [Act.put, List.setIfInBounds_toArray, List.set_cons_zero, List.set_cons_succ, List.getElem_toArray, List.getElem_cons_succ, List.getElem_cons_zero]
          refine wpAnyH_take (i := 12) (v := undef) rfl (by kernel_rfl) (by kernel_rfl) (by kernel_rfl) (fun _ _ _ h => h) (Or.inr ⟨by kernel_rfl, rfl⟩) (by assumption) ?_
          try simp only [Act.put, List.setIfInBounds_toArray, List.set_cons_zero, List.set_cons_succ, List.getElem_toArray, List.getElem_cons_succ, List.getElem_cons_zero]
          refine wpAnyH_take (i := 13) (v := undef) rfl (by kernel_rfl) (by kernel_rfl) (by kernel_rfl) (fun _ _ _ h => h) (Or.inr ⟨by kernel_rfl, rfl⟩) (by assumption) ?_
          try simp only [Act.put, List.setIfInBounds_toArray, List.set_cons_zero, List.set_cons_succ, List.getElem_toArray, List.getElem_cons_succ, List.getElem_cons_zero]
          refine wpAnyH_take (i := 14) (v := undef) rfl (by kernel_rfl) (by kernel_rfl) (by kernel_rfl) (fun _ _ _ h => h) (Or.inr ⟨by kernel_rfl, rfl⟩) (by assumption) ?_
          try simp only [Act.put, List.setIfInBounds_toArray, List.set_cons_zero, List.set_cons_succ, List.getElem_toArray, List.getElem_cons_succ, List.getElem_cons_zero]
          refine wpAnyH_take (i := 15) (v := ?qv15a) rfl (by kernel_rfl) (by kernel_rfl) (by kernel_rfl) (fun _ _ _ h => h) (Or.inl ⟨by kernel_rfl, ?qy15a⟩) (by assumption) ?_
          case qy15a => (intro w hSw; (try dsimp only at hSw); go_simp) <;> (try with_reducible rfl)
          try simp only [Act.put, List.setIfInBounds_toArray, List.set_cons_zero, List.set_cons_succ, List.getElem_toArray, List.getElem_cons_succ, List.getElem_cons_zero]
          refine wpAnyH_take (i := 16) (v := ?qv16a) rfl (by kernel_rfl) (by kernel_rfl) (by kernel_rfl) (fun _ _ _ h => h) (Or.inl ⟨by kernel_rfl, ?qy16a⟩) (by assumption) ?_
          case qy16a => (intro w hSw; (try dsimp only at hSw); go_simp) <;> (try with_reducible rfl)
          try simp only [Act.put, List.setIfInBounds_toArray, List.set_cons_zero, List.set_cons_succ, List.getElem_toArray, List.getElem_cons_succ, List.getElem_cons_zero]
          refine wpAnyH_take (i := 17) (v := undef) rfl (by kernel_rfl) (by kernel_rfl) (by kernel_rfl) (fun _ _ _ h => h) (Or.inr ⟨by kernel_rfl, rfl⟩) (by assumption) ?_
          try simp only [Act.put, List.setIfInBounds_toArray, List.set_cons_zero, List.set_cons_succ, List.getElem_toArray, List.getElem_cons_succ, List.getElem_cons_zero]
          refine wpAnyH_take (i := 18) (v := undef) rfl (by kernel_rfl) (by kernel_rfl) (by kernel_rfl) (fun _ _ _ h => h) (Or.inr ⟨by kernel_rfl, rfl⟩) (by assumption) ?_
          try simp only [Act.put, List.setIfInBounds_toArray, List.set_cons_zero, List.set_cons_succ, List.getElem_toArray, List.getElem_cons_succ, List.getElem_cons_zero]
          refine wpAnyH_take (i := 19) (v := undef) rfl (by kernel_rfl) (by kernel_rfl) (by kernel_rfl) (fun _ _ _ h => h) (Or.inr ⟨by kernel_rfl, rfl⟩) (by assumption) ?_
          try simp only [Act.put, List.setIfInBounds_toArray, List.set_cons_zero, List.set_cons_succ, List.getElem_toArray, List.getElem_cons_succ, List.getElem_cons_zero]
          refine wpAnyH_take (i := 20) (v := undef) rfl (by kernel_rfl) (by kernel_rfl) (by kernel_rfl) (fun _ _ _ h => h) (Or.inr ⟨by kernel_rfl, rfl⟩) (by assumption) ?_
          try simp only [Act.put, List.setIfInBounds_toArray, List.set_cons_zero, List.set_cons_succ, List.getElem_toArray, List.getElem_cons_succ, List.getElem_cons_zero]
          refine wpAnyH_take (i := 21) (v := undef) rfl (by kernel_rfl) (by kernel_rfl) (by kernel_rfl) (fun _ _ _ h => h) (Or.inr ⟨by kernel_rfl, rfl⟩) (by assumption) ?_
          try simp only [Act.put, List.setIfInBounds_toArray, List.set_cons_zero, List.set_cons_succ, List.getElem_toArray, List.getElem_cons_succ, List.getElem_cons_zero]
          refine wpAnyH_take (i := 22) (v := undef) rfl (by kernel_rfl) (by kernel_rfl) (by kernel_rfl) (fun _ _ _ h => h) (Or.inr ⟨by kernel_rfl, rfl⟩) (by assumption) ?_
          try simp only [Act.put, List.setIfInBounds_toArray, List.set_cons_zero, List.set_cons_succ, List.getElem_toArray, List.getElem_cons_succ, List.getElem_cons_zero]
          refine wpAnyH_take (i := 23) (v := ?qv23a) rfl (by kernel_rfl) (by kernel_rfl) (by kernel_rfl) (fun _ _ _ h => h) (Or.inl ⟨by kernel_rfl, ?qy23a⟩) (by assumption) ?_
          case qy23a => (intro w hSw; (try dsimp only at hSw); go_simp) <;> (try with_reducible rfl)
          try simp only [Act.put, List.setIfInBounds_toArray, List.set_cons_zero, List.set_cons_succ, List.getElem_toArray, List.getElem_cons_succ, List.getElem_cons_zero]
          refine wpAnyH_done (by kernel_rfl) ?_ _
          go_wp2_with fail
          go_meet
          exact ⟨rfl, Z2.out⟩
        · have gy := decide_eq_false g
          have GY := Lib.hid g
          rw [gy] at KY
          clear g gy
          by_cases g1 : m1 = -9223372036854775808 ∨ m1 = 9223372036854775807
          · have KE1 : Hid (∀ W, Calls Try.prog 15 #[.int .i64 m1] W fun e w' => e = .returned (.bool true) ∧ w' = W) := fun W => by have h := KE.out m1 W; rw [decide_eq_true g1] at h; exact h
            clear g1
            refine wp_region_held_drew (S := fun W => ((W.cell? ⟨w.heap.size, 0, none⟩ = some (.int .i64 x) ∧ W.cell? ⟨w.heap.size, 1, none⟩ = some (.int .i64 y)) ∧ (W.cell? ⟨R, 0, none⟩ = some (.int .i64 m1) ∧ W.cell? ⟨R, 1, none⟩ = some (.int .i64 m2)))) (by kernel_rfl) ?hb0 (fun hHeld => ?_)
            case hb0 => (try dsimp only); exact ST.out _ (Below.drew (Below.refl W7.heap.size W7))
            refine wpAnyH_take (i := 0) (v := ?qv0b) rfl (by kernel_rfl) (by kernel_rfl) (by kernel_rfl) (fun _ _ _ h => h) (Or.inl ⟨by kernel_rfl, ?qy0b⟩) (by assumption) ?_
            case qy0b => (intro w hSw; (try dsimp only at hSw); go_simp) <;> (try with_reducible rfl)
            try simp only [Act.put, List.setIfInBounds_toArray, List.set_cons_zero, List.set_cons_succ, List.getElem_toArray, List.getElem_cons_succ, List.getElem_cons_zero]
            refine wpAnyH_ready (rs := [1]) (by kernel_rfl) (by simp) ?_
            refine AllReadyH.cons rfl (fun K hK => ?_) AllReadyH.nil
            go_simp
            refine (KT.out _).mono ?_
            rintro e y1 ⟨rfl, hy⟩
            have Z1 := Lib.hid (bstep (Below.drew (Below.refl W7.heap.size W7)) hy (Below.size (Below.drew (Below.refl W7.heap.size W7))))
            clear hy
            go_wp2_with fail
            refine hK.out _ _ ?hs1ba (fun hHeld => ?_)
            case hs1ba => (try dsimp only); exact ST.out _ (Z1.out)
            clear hK K
            try simp only [Act.put, List.setIfInBounds_toArray, List.set_cons_zero, List.set_cons_succ, List.getElem_toArray, List.getElem_cons_succ, List.getElem_cons_zero]
            refine wpAnyH_ready (rs := [2]) (by kernel_rfl) (by simp) ?_
            refine AllReadyH.cons rfl (fun K hK => ?_) AllReadyH.nil
            go_simp
            refine (KY.out _).mono ?_
            rintro e y2 ⟨rfl, hy⟩
            have Z2 := Lib.hid (bstep (Z1.out) hy (Below.size (Z1.out)))
            clear hy
            go_wp2_with fail
            refine hK.out _ _ ?hs2ba (fun hHeld => ?_)
            case hs2ba => (try dsimp only); exact ST.out _ (Z2.out)
            clear hK K
            try simp only [Act.put, List.setIfInBounds_toArray, List.set_cons_zero, List.set_cons_succ, List.getElem_toArray, List.getElem_cons_succ, List.getElem_cons_zero]
            refine wpAnyH_take (i := 3) (v := ?qv3b) rfl (by kernel_rfl) (by kernel_rfl) (by kernel_rfl) (fun _ _ _ h => h) (Or.inl ⟨by kernel_rfl, ?qy3b⟩) (by assumption) ?_
            case qy3b => (intro w hSw; (try dsimp only at hSw); go_simp) <;> (try with_reducible rfl)
            try simp only [Act.put, List.setIfInBounds_toArray, List.set_cons_zero, List.set_cons_succ, List.getElem_toArray, List.getElem_cons_succ, List.getElem_cons_zero]
            refine wpAnyH_take (i := 4) (v := ?qv4b) rfl (by kernel_rfl) (by kernel_rfl) (by kernel_rfl) (fun _ _ _ h => h) (Or.inl ⟨by kernel_rfl, ?qy4b⟩) (by assumption) ?_
            case qy4b => (intro w hSw; (try dsimp only at hSw); go_simp) <;> (try with_reducible rfl)
            try simp only [Act.put, List.setIfInBounds_toArray, List.set_cons_zero, List.set_cons_succ, List.getElem_toArray, List.getElem_cons_succ, List.getElem_cons_zero]
            refine wpAnyH_take (i := 5) (v := ?qv5b) rfl (by kernel_rfl) (by kernel_rfl) (by kernel_rfl) (fun _ _ _ h => h) (Or.inl ⟨by kernel_rfl, ?qy5b⟩) (by assumption) ?_
            case qy5b => (intro w hSw; (try dsimp only at hSw); go_simp) <;> (try with_reducible rfl)
            try simp only [Act.put, List.setIfInBounds_toArray, List.set_cons_zero, List.set_cons_succ, List.getElem_toArray, List.getElem_cons_succ, List.getElem_cons_zero]
            refine wpAnyH_take (i := 6) (v := ?qv6b) rfl (by kernel_rfl) (by kernel_rfl) (by kernel_rfl) (fun _ _ _ h => h) (Or.inl ⟨by kernel_rfl, ?qy6b⟩) (by assumption) ?_
            case qy6b => (intro w hSw; (try dsimp only at hSw); go_simp) <;> (try with_reducible rfl)
            try simp only [Act.put, List.setIfInBounds_toArray, List.set_cons_zero, List.set_cons_succ, List.getElem_toArray, List.getElem_cons_succ, List.getElem_cons_zero]
            refine wpAnyH_ready (rs := [7]) (by kernel_rfl) (by simp) ?_
            refine AllReadyH.cons rfl (fun K hK => ?_) AllReadyH.nil
            go_simp
            refine (KE1.out _).mono ?_
            rintro e xx ⟨rfl, rfl⟩
            go_wp2_with fail
            refine hK.out _ _ ?hs7ba (fun hHeld => ?_)
            case hs7ba => (try dsimp only); exact ST.out _ (Z2.out)
            clear hK K
            try simp only [Act.put, List.setIfInBounds_toArray, List.set_cons_zero, List.set_cons_succ, List.getElem_toArray, List.getElem_cons_succ, List.getElem_cons_zero]
            refine wpAnyH_take (i := 8) (v := ?qv8b) rfl (by kernel_rfl) (by kernel_rfl) (by kernel_rfl) (fun _ _ _ h => h) (Or.inl ⟨by kernel_rfl, ?qy8b⟩) (by assumption) ?_
            case qy8b => (intro w hSw; (try dsimp only at hSw); go_simp) <;> (try with_reducible rfl)
            try simp only [Act.put, List.setIfInBounds_toArray, List.set_cons_zero, List.set_cons_succ, List.getElem_toArray, List.getElem_cons_succ, List.getElem_cons_zero]
            refine wpAnyH_take (i := 9) (v := ?qv9b) rfl (by kernel_rfl) (by kernel_rfl) (by kernel_rfl) (fun _ _ _ h => h) (Or.inl ⟨by kernel_rfl, ?qy9b⟩) (by assumption) ?_
            case qy9b => (intro w hSw; (try dsimp only at hSw); go_simp) <;> (try with_reducible rfl)
            try simp only [Act.put, List.setIfInBounds_toArray, List.set_cons_zero, List.set_cons_succ, List.getElem_toArray, List.getElem_cons_succ, List.getElem_cons_zero]
            refine wpAnyH_take (i := 10) (v := ?qv10b) rfl (by kernel_rfl) (by kernel_rfl) (by kernel_rfl) (fun _ _ _ h => h) (Or.inl ⟨by kernel_rfl, ?qy10b⟩) (by assumption) ?_
            case qy10b => (intro w hSw; (try dsimp only at hSw); go_simp) <;> (try with_reducible rfl)
            try simp only [Act.put, List.setIfInBounds_toArray, List.set_cons_zero, List.set_cons_succ, List.getElem_toArray, List.getElem_cons_succ, List.getElem_cons_zero]
            refine wpAnyH_take (i := 11) (v := undef) rfl (by kernel_rfl) (by kernel_rfl) (by kernel_rfl) (fun _ _ _ h => h) (Or.inr ⟨by kernel_rfl, rfl⟩) (by assumption) ?_
            try simp only [Act.put, List.setIfInBounds_toArray, List.set_cons_zero, List.set_cons_succ, List.getElem_toArray, List.getElem_cons_succ, List.getElem_cons_zero]
            refine wpAnyH_take (i := 12) (v := undef) rfl (by kernel_rfl) (by kernel_rfl) (by kernel_rfl) (fun _ _ _ h => h) (Or.inr ⟨by kernel_rfl, rfl⟩) (by assumption) ?_
            try simp only [Act.put, List.setIfInBounds_toArray, List.set_cons_zero, List.set_cons_succ, List.getElem_toArray, List.getElem_cons_succ, List.getElem_cons_zero]
            refine wpAnyH_take (i := 13) (v := undef) rfl (by kernel_rfl) (by kernel_rfl) (by kernel_rfl) (fun _ _ _ h => h) (Or.inr ⟨by kernel_rfl, rfl⟩) (by assumption) ?_
            try simp only [Act.put, List.setIfInBounds_toArray, List.set_cons_zero, List.set_cons_succ, List.getElem_toArray, List.getElem_cons_succ, List.getElem_cons_zero]
            refine wpAnyH_take (i := 14) (v := undef) rfl (by kernel_rfl) (by kernel_rfl) (by kernel_rfl) (fun _ _ _ h => h) (Or.inr ⟨by kernel_rfl, rfl⟩) (by assumption) ?_
            try simp only [Act.put, List.setIfInBounds_toArray, List.set_cons_zero, List.set_cons_succ, List.getElem_toArray, List.getElem_cons_succ, List.getElem_cons_zero]
            refine wpAnyH_take (i := 15) (v := ?qv15b) rfl (by kernel_rfl) (by kernel_rfl) (by kernel_rfl) (fun _ _ _ h => h) (Or.inl ⟨by kernel_rfl, ?qy15b⟩) (by assumption) ?_
            case qy15b => (intro w hSw; (try dsimp only at hSw); go_simp) <;> (try with_reducible rfl)
            try simp only [Act.put, List.setIfInBounds_toArray, List.set_cons_zero, List.set_cons_succ, List.getElem_toArray, List.getElem_cons_succ, List.getElem_cons_zero]
            refine wpAnyH_take (i := 16) (v := ?qv16b) rfl (by kernel_rfl) (by kernel_rfl) (by kernel_rfl) (fun _ _ _ h => h) (Or.inl ⟨by kernel_rfl, ?qy16b⟩) (by assumption) ?_
            case qy16b => (intro w hSw; (try dsimp only at hSw); go_simp) <;> (try with_reducible rfl)
            try simp only [Act.put, List.setIfInBounds_toArray, List.set_cons_zero, List.set_cons_succ, List.getElem_toArray, List.getElem_cons_succ, List.getElem_cons_zero]
            refine wpAnyH_take (i := 17) (v := undef) rfl (by kernel_rfl) (by kernel_rfl) (by kernel_rfl) (fun _ _ _ h => h) (Or.inr ⟨by kernel_rfl, rfl⟩) (by assumption) ?_
            try simp only [Act.put, List.setIfInBounds_toArray, List.set_cons_zero, List.set_cons_succ, List.getElem_toArray, List.getElem_cons_succ, List.getElem_cons_zero]
            refine wpAnyH_take (i := 18) (v := undef) rfl (by kernel_rfl) (by kernel_rfl) (by kernel_rfl) (fun _ _ _ h => h) (Or.inr ⟨by kernel_rfl, rfl⟩) (by assumption) ?_
            try simp only [Act.put, List.setIfInBounds_toArray, List.set_cons_zero, List.set_cons_succ, List.getElem_toArray, List.getElem_cons_succ, List.getElem_cons_zero]
            refine wpAnyH_take (i := 19) (v := undef) rfl (by kernel_rfl) (by kernel_rfl) (by kernel_rfl) (fun _ _ _ h => h) (Or.inr ⟨by kernel_rfl, rfl⟩) (by assumption) ?_
            try simp only [Act.put, List.setIfInBounds_toArray, List.set_cons_zero, List.set_cons_succ, List.getElem_toArray, List.getElem_cons_succ, List.getElem_cons_zero]
            refine wpAnyH_take (i := 20) (v := undef) rfl (by kernel_rfl) (by kernel_rfl) (by kernel_rfl) (fun _ _ _ h => h) (Or.inr ⟨by kernel_rfl, rfl⟩) (by assumption) ?_
            try simp only [Act.put, List.setIfInBounds_toArray, List.set_cons_zero, List.set_cons_succ, List.getElem_toArray, List.getElem_cons_succ, List.getElem_cons_zero]
            refine wpAnyH_take (i := 21) (v := undef) rfl (by kernel_rfl) (by kernel_rfl) (by kernel_rfl) (fun _ _ _ h => h) (Or.inr ⟨by kernel_rfl, rfl⟩) (by assumption) ?_
            try simp only [Act.put, List.setIfInBounds_toArray, List.set_cons_zero, List.set_cons_succ, List.getElem_toArray, List.getElem_cons_succ, List.getElem_cons_zero]
            refine wpAnyH_take (i := 22) (v := undef) rfl (by kernel_rfl) (by kernel_rfl) (by kernel_rfl) (fun _ _ _ h => h) (Or.inr ⟨by kernel_rfl, rfl⟩) (by assumption) ?_
            try simp only [Act.put, List.setIfInBounds_toArray, List.set_cons_zero, List.set_cons_succ, List.getElem_toArray, List.getElem_cons_succ, List.getElem_cons_zero]
            refine wpAnyH_take (i := 23) (v := ?qv23b) rfl (by kernel_rfl) (by kernel_rfl) (by kernel_rfl) (fun _ _ _ h => h) (Or.inl ⟨by kernel_rfl, ?qy23b⟩) (by assumption) ?_
            case qy23b => (intro w hSw; (try dsimp only at hSw); go_simp) <;> (try with_reducible rfl)
            try simp only [Act.put, List.setIfInBounds_toArray, List.set_cons_zero, List.set_cons_succ, List.getElem_toArray, List.getElem_cons_succ, List.getElem_cons_zero]
            refine wpAnyH_done (by kernel_rfl) ?_ _
            go_wp2_with fail
            go_meet
            exact ⟨rfl, Z2.out⟩
          · have KE1 : Hid (∀ W, Calls Try.prog 15 #[.int .i64 m1] W fun e w' => e = .returned (.bool false) ∧ w' = W) := fun W => by have h := KE.out m1 W; rw [decide_eq_false g1] at h; exact h
            have G1 := Lib.hid g1
            clear g1
            by_cases g2 : m2 = -9223372036854775808 ∨ m2 = 9223372036854775807
            · have KE2 : Hid (∀ W, Calls Try.prog 15 #[.int .i64 m2] W fun e w' => e = .returned (.bool true) ∧ w' = W) := fun W => by have h := KE.out m2 W; rw [decide_eq_true g2] at h; exact h
              clear g2
              refine wp_region_held_drew (S := fun W => ((W.cell? ⟨w.heap.size, 0, none⟩ = some (.int .i64 x) ∧ W.cell? ⟨w.heap.size, 1, none⟩ = some (.int .i64 y)) ∧ (W.cell? ⟨R, 0, none⟩ = some (.int .i64 m1) ∧ W.cell? ⟨R, 1, none⟩ = some (.int .i64 m2)))) (by kernel_rfl) ?hb0 (fun hHeld => ?_)
              case hb0 => (try dsimp only); exact ST.out _ (Below.drew (Below.refl W7.heap.size W7))
              refine wpAnyH_take (i := 0) (v := ?qv0c) rfl (by kernel_rfl) (by kernel_rfl) (by kernel_rfl) (fun _ _ _ h => h) (Or.inl ⟨by kernel_rfl, ?qy0c⟩) (by assumption) ?_
              case qy0c => (intro w hSw; (try dsimp only at hSw); go_simp) <;> (try with_reducible rfl)
              try simp only [Act.put, List.setIfInBounds_toArray, List.set_cons_zero, List.set_cons_succ, List.getElem_toArray, List.getElem_cons_succ, List.getElem_cons_zero]
              refine wpAnyH_ready (rs := [1]) (by kernel_rfl) (by simp) ?_
              refine AllReadyH.cons rfl (fun K hK => ?_) AllReadyH.nil
              go_simp
              refine (KT.out _).mono ?_
              rintro e y1 ⟨rfl, hy⟩
              have Z1 := Lib.hid (bstep (Below.drew (Below.refl W7.heap.size W7)) hy (Below.size (Below.drew (Below.refl W7.heap.size W7))))
              clear hy
              go_wp2_with fail
              refine hK.out _ _ ?hs1ca (fun hHeld => ?_)
              case hs1ca => (try dsimp only); exact ST.out _ (Z1.out)
              clear hK K
              try simp only [Act.put, List.setIfInBounds_toArray, List.set_cons_zero, List.set_cons_succ, List.getElem_toArray, List.getElem_cons_succ, List.getElem_cons_zero]
              refine wpAnyH_ready (rs := [2]) (by kernel_rfl) (by simp) ?_
              refine AllReadyH.cons rfl (fun K hK => ?_) AllReadyH.nil
              go_simp
              refine (KY.out _).mono ?_
              rintro e y2 ⟨rfl, hy⟩
              have Z2 := Lib.hid (bstep (Z1.out) hy (Below.size (Z1.out)))
              clear hy
              go_wp2_with fail
              refine hK.out _ _ ?hs2ca (fun hHeld => ?_)
              case hs2ca => (try dsimp only); exact ST.out _ (Z2.out)
              clear hK K
              try simp only [Act.put, List.setIfInBounds_toArray, List.set_cons_zero, List.set_cons_succ, List.getElem_toArray, List.getElem_cons_succ, List.getElem_cons_zero]
              refine wpAnyH_take (i := 3) (v := ?qv3c) rfl (by kernel_rfl) (by kernel_rfl) (by kernel_rfl) (fun _ _ _ h => h) (Or.inl ⟨by kernel_rfl, ?qy3c⟩) (by assumption) ?_
              case qy3c => (intro w hSw; (try dsimp only at hSw); go_simp) <;> (try with_reducible rfl)
              try simp only [Act.put, List.setIfInBounds_toArray, List.set_cons_zero, List.set_cons_succ, List.getElem_toArray, List.getElem_cons_succ, List.getElem_cons_zero]
              refine wpAnyH_take (i := 4) (v := ?qv4c) rfl (by kernel_rfl) (by kernel_rfl) (by kernel_rfl) (fun _ _ _ h => h) (Or.inl ⟨by kernel_rfl, ?qy4c⟩) (by assumption) ?_
              case qy4c => (intro w hSw; (try dsimp only at hSw); go_simp) <;> (try with_reducible rfl)
              try simp only [Act.put, List.setIfInBounds_toArray, List.set_cons_zero, List.set_cons_succ, List.getElem_toArray, List.getElem_cons_succ, List.getElem_cons_zero]
              refine wpAnyH_take (i := 5) (v := ?qv5c) rfl (by kernel_rfl) (by kernel_rfl) (by kernel_rfl) (fun _ _ _ h => h) (Or.inl ⟨by kernel_rfl, ?qy5c⟩) (by assumption) ?_
              case qy5c => (intro w hSw; (try dsimp only at hSw); go_simp) <;> (try with_reducible rfl)
              try simp only [Act.put, List.setIfInBounds_toArray, List.set_cons_zero, List.set_cons_succ, List.getElem_toArray, List.getElem_cons_succ, List.getElem_cons_zero]
              refine wpAnyH_take (i := 6) (v := ?qv6c) rfl (by kernel_rfl) (by kernel_rfl) (by kernel_rfl) (fun _ _ _ h => h) (Or.inl ⟨by kernel_rfl, ?qy6c⟩) (by assumption) ?_
              case qy6c => (intro w hSw; (try dsimp only at hSw); go_simp) <;> (try with_reducible rfl)
              try simp only [Act.put, List.setIfInBounds_toArray, List.set_cons_zero, List.set_cons_succ, List.getElem_toArray, List.getElem_cons_succ, List.getElem_cons_zero]
              refine wpAnyH_ready (rs := [7]) (by kernel_rfl) (by simp) ?_
              refine AllReadyH.cons rfl (fun K hK => ?_) AllReadyH.nil
              go_simp
              refine (KE1.out _).mono ?_
              rintro e xx ⟨rfl, rfl⟩
              go_wp2_with fail
              refine hK.out _ _ ?hs7ca (fun hHeld => ?_)
              case hs7ca => (try dsimp only); exact ST.out _ (Z2.out)
              clear hK K
              try simp only [Act.put, List.setIfInBounds_toArray, List.set_cons_zero, List.set_cons_succ, List.getElem_toArray, List.getElem_cons_succ, List.getElem_cons_zero]
              refine wpAnyH_take (i := 8) (v := ?qv8c) rfl (by kernel_rfl) (by kernel_rfl) (by kernel_rfl) (fun _ _ _ h => h) (Or.inl ⟨by kernel_rfl, ?qy8c⟩) (by assumption) ?_
              case qy8c => (intro w hSw; (try dsimp only at hSw); go_simp) <;> (try with_reducible rfl)
              try simp only [Act.put, List.setIfInBounds_toArray, List.set_cons_zero, List.set_cons_succ, List.getElem_toArray, List.getElem_cons_succ, List.getElem_cons_zero]
              refine wpAnyH_take (i := 9) (v := ?qv9c) rfl (by kernel_rfl) (by kernel_rfl) (by kernel_rfl) (fun _ _ _ h => h) (Or.inl ⟨by kernel_rfl, ?qy9c⟩) (by assumption) ?_
              case qy9c => (intro w hSw; (try dsimp only at hSw); go_simp) <;> (try with_reducible rfl)
              try simp only [Act.put, List.setIfInBounds_toArray, List.set_cons_zero, List.set_cons_succ, List.getElem_toArray, List.getElem_cons_succ, List.getElem_cons_zero]
              refine wpAnyH_take (i := 10) (v := ?qv10c) rfl (by kernel_rfl) (by kernel_rfl) (by kernel_rfl) (fun _ _ _ h => h) (Or.inl ⟨by kernel_rfl, ?qy10c⟩) (by assumption) ?_
              case qy10c => (intro w hSw; (try dsimp only at hSw); go_simp) <;> (try with_reducible rfl)
              try simp only [Act.put, List.setIfInBounds_toArray, List.set_cons_zero, List.set_cons_succ, List.getElem_toArray, List.getElem_cons_succ, List.getElem_cons_zero]
              refine wpAnyH_take (i := 11) (v := ?qv11c) rfl (by kernel_rfl) (by kernel_rfl) (by kernel_rfl) (fun _ _ _ h => h) (Or.inl ⟨by kernel_rfl, ?qy11c⟩) (by assumption) ?_
              case qy11c => (intro w hSw; (try dsimp only at hSw); go_simp) <;> (try with_reducible rfl)
              try simp only [Act.put, List.setIfInBounds_toArray, List.set_cons_zero, List.set_cons_succ, List.getElem_toArray, List.getElem_cons_succ, List.getElem_cons_zero]
              refine wpAnyH_take (i := 12) (v := ?qv12c) rfl (by kernel_rfl) (by kernel_rfl) (by kernel_rfl) (fun _ _ _ h => h) (Or.inl ⟨by kernel_rfl, ?qy12c⟩) (by assumption) ?_
              case qy12c => (intro w hSw; (try dsimp only at hSw); go_simp) <;> (try with_reducible rfl)
              try simp only [Act.put, List.setIfInBounds_toArray, List.set_cons_zero, List.set_cons_succ, List.getElem_toArray, List.getElem_cons_succ, List.getElem_cons_zero]
              refine wpAnyH_ready (rs := [13]) (by kernel_rfl) (by simp) ?_
              refine AllReadyH.cons rfl (fun K hK => ?_) AllReadyH.nil
              go_simp
              refine (KE2.out _).mono ?_
              rintro e xx ⟨rfl, rfl⟩
              go_wp2_with fail
              refine hK.out _ _ ?hs13ca (fun hHeld => ?_)
              case hs13ca => (try dsimp only); exact ST.out _ (Z2.out)
              clear hK K
              try simp only [Act.put, List.setIfInBounds_toArray, List.set_cons_zero, List.set_cons_succ, List.getElem_toArray, List.getElem_cons_succ, List.getElem_cons_zero]
              refine wpAnyH_take (i := 14) (v := ?qv14c) rfl (by kernel_rfl) (by kernel_rfl) (by kernel_rfl) (fun _ _ _ h => h) (Or.inl ⟨by kernel_rfl, ?qy14c⟩) (by assumption) ?_
              case qy14c => (intro w hSw; (try dsimp only at hSw); go_simp) <;> (try with_reducible rfl)
              try simp only [Act.put, List.setIfInBounds_toArray, List.set_cons_zero, List.set_cons_succ, List.getElem_toArray, List.getElem_cons_succ, List.getElem_cons_zero]
              refine wpAnyH_take (i := 15) (v := ?qv15c) rfl (by kernel_rfl) (by kernel_rfl) (by kernel_rfl) (fun _ _ _ h => h) (Or.inl ⟨by kernel_rfl, ?qy15c⟩) (by assumption) ?_
              case qy15c => (intro w hSw; (try dsimp only at hSw); go_simp) <;> (try with_reducible rfl)
              try simp only [Act.put, List.setIfInBounds_toArray, List.set_cons_zero, List.set_cons_succ, List.getElem_toArray, List.getElem_cons_succ, List.getElem_cons_zero]
              refine wpAnyH_take (i := 16) (v := ?qv16c) rfl (by kernel_rfl) (by kernel_rfl) (by kernel_rfl) (fun _ _ _ h => h) (Or.inl ⟨by kernel_rfl, ?qy16c⟩) (by assumption) ?_
              case qy16c => (intro w hSw; (try dsimp only at hSw); go_simp) <;> (try with_reducible rfl)
              try simp only [Act.put, List.setIfInBounds_toArray, List.set_cons_zero, List.set_cons_succ, List.getElem_toArray, List.getElem_cons_succ, List.getElem_cons_zero]
              refine wpAnyH_take (i := 17) (v := undef) rfl (by kernel_rfl) (by kernel_rfl) (by kernel_rfl) (fun _ _ _ h => h) (Or.inr ⟨by kernel_rfl, rfl⟩) (by assumption) ?_
              try simp only [Act.put, List.setIfInBounds_toArray, List.set_cons_zero, List.set_cons_succ, List.getElem_toArray, List.getElem_cons_succ, List.getElem_cons_zero]
              refine wpAnyH_take (i := 18) (v := undef) rfl (by kernel_rfl) (by kernel_rfl) (by kernel_rfl) (fun _ _ _ h => h) (Or.inr ⟨by kernel_rfl, rfl⟩) (by assumption) ?_
              try simp only [Act.put, List.setIfInBounds_toArray, List.set_cons_zero, List.set_cons_succ, List.getElem_toArray, List.getElem_cons_succ, List.getElem_cons_zero]
              refine wpAnyH_take (i := 19) (v := undef) rfl (by kernel_rfl) (by kernel_rfl) (by kernel_rfl) (fun _ _ _ h => h) (Or.inr ⟨by kernel_rfl, rfl⟩) (by assumption) ?_
              try simp only [Act.put, List.setIfInBounds_toArray, List.set_cons_zero, List.set_cons_succ, List.getElem_toArray, List.getElem_cons_succ, List.getElem_cons_zero]
              refine wpAnyH_take (i := 20) (v := undef) rfl (by kernel_rfl) (by kernel_rfl) (by kernel_rfl) (fun _ _ _ h => h) (Or.inr ⟨by kernel_rfl, rfl⟩) (by assumption) ?_
              try simp only [Act.put, List.setIfInBounds_toArray, List.set_cons_zero, List.set_cons_succ, List.getElem_toArray, List.getElem_cons_succ, List.getElem_cons_zero]
              refine wpAnyH_take (i := 21) (v := undef) rfl (by kernel_rfl) (by kernel_rfl) (by kernel_rfl) (fun _ _ _ h => h) (Or.inr ⟨by kernel_rfl, rfl⟩) (by assumption) ?_
              try simp only [Act.put, List.setIfInBounds_toArray, List.set_cons_zero, List.set_cons_succ, List.getElem_toArray, List.getElem_cons_succ, List.getElem_cons_zero]
              refine wpAnyH_take (i := 22) (v := undef) rfl (by kernel_rfl) (by kernel_rfl) (by kernel_rfl) (fun _ _ _ h => h) (Or.inr ⟨by kernel_rfl, rfl⟩) (by assumption) ?_
              try simp only [Act.put, List.setIfInBounds_toArray, List.set_cons_zero, List.set_cons_succ, List.getElem_toArray, List.getElem_cons_succ, List.getElem_cons_zero]
              refine wpAnyH_take (i := 23) (v := ?qv23c) rfl (by kernel_rfl) (by kernel_rfl) (by kernel_rfl) (fun _ _ _ h => h) (Or.inl ⟨by kernel_rfl, ?qy23c⟩) (by assumption) ?_
              case qy23c => (intro w hSw; (try dsimp only at hSw); go_simp) <;> (try with_reducible rfl)
              try simp only [Act.put, List.setIfInBounds_toArray, List.set_cons_zero, List.set_cons_succ, List.getElem_toArray, List.getElem_cons_succ, List.getElem_cons_zero]
              refine wpAnyH_done (by kernel_rfl) ?_ _
              go_wp2_with fail
              go_meet
              exact ⟨rfl, Z2.out⟩
            · have KE2 : Hid (∀ W, Calls Try.prog 15 #[.int .i64 m2] W fun e w' => e = .returned (.bool false) ∧ w' = W) := fun W => by have h := KE.out m2 W; rw [decide_eq_false g2] at h; exact h
              have gl := FL.out (by have := GY.out; omega) G1.out g2
              subst gl
              have gn : (lm != lm) = false := by simp
              clear g2
              refine wp_region_held_drew (S := fun W => ((W.cell? ⟨w.heap.size, 0, none⟩ = some (.int .i64 x) ∧ W.cell? ⟨w.heap.size, 1, none⟩ = some (.int .i64 y)) ∧ (W.cell? ⟨R, 0, none⟩ = some (.int .i64 m1) ∧ W.cell? ⟨R, 1, none⟩ = some (.int .i64 m2)))) (by kernel_rfl) ?hb0 (fun hHeld => ?_)
              case hb0 => (try dsimp only); exact ST.out _ (Below.drew (Below.refl W7.heap.size W7))
              refine wpAnyH_take (i := 0) (v := ?qv0d) rfl (by kernel_rfl) (by kernel_rfl) (by kernel_rfl) (fun _ _ _ h => h) (Or.inl ⟨by kernel_rfl, ?qy0d⟩) (by assumption) ?_
              case qy0d => (intro w hSw; (try dsimp only at hSw); go_simp) <;> (try with_reducible rfl)
              try simp only [Act.put, List.setIfInBounds_toArray, List.set_cons_zero, List.set_cons_succ, List.getElem_toArray, List.getElem_cons_succ, List.getElem_cons_zero]
              refine wpAnyH_ready (rs := [1]) (by kernel_rfl) (by simp) ?_
              refine AllReadyH.cons rfl (fun K hK => ?_) AllReadyH.nil
              go_simp
              refine (KT.out _).mono ?_
              rintro e y1 ⟨rfl, hy⟩
              have Z1 := Lib.hid (bstep (Below.drew (Below.refl W7.heap.size W7)) hy (Below.size (Below.drew (Below.refl W7.heap.size W7))))
              clear hy
              go_wp2_with fail
              refine hK.out _ _ ?hs1da (fun hHeld => ?_)
              case hs1da => (try dsimp only); exact ST.out _ (Z1.out)
              clear hK K
              try simp only [Act.put, List.setIfInBounds_toArray, List.set_cons_zero, List.set_cons_succ, List.getElem_toArray, List.getElem_cons_succ, List.getElem_cons_zero]
              refine wpAnyH_ready (rs := [2]) (by kernel_rfl) (by simp) ?_
              refine AllReadyH.cons rfl (fun K hK => ?_) AllReadyH.nil
              go_simp
              refine (KY.out _).mono ?_
              rintro e y2 ⟨rfl, hy⟩
              have Z2 := Lib.hid (bstep (Z1.out) hy (Below.size (Z1.out)))
              clear hy
              go_wp2_with fail
              refine hK.out _ _ ?hs2da (fun hHeld => ?_)
              case hs2da => (try dsimp only); exact ST.out _ (Z2.out)
              clear hK K
              try simp only [Act.put, List.setIfInBounds_toArray, List.set_cons_zero, List.set_cons_succ, List.getElem_toArray, List.getElem_cons_succ, List.getElem_cons_zero]
              refine wpAnyH_take (i := 3) (v := ?qv3d) rfl (by kernel_rfl) (by kernel_rfl) (by kernel_rfl) (fun _ _ _ h => h) (Or.inl ⟨by kernel_rfl, ?qy3d⟩) (by assumption) ?_
              case qy3d => (intro w hSw; (try dsimp only at hSw); go_simp) <;> (try with_reducible rfl)
              try simp only [Act.put, List.setIfInBounds_toArray, List.set_cons_zero, List.set_cons_succ, List.getElem_toArray, List.getElem_cons_succ, List.getElem_cons_zero]
              refine wpAnyH_take (i := 4) (v := ?qv4d) rfl (by kernel_rfl) (by kernel_rfl) (by kernel_rfl) (fun _ _ _ h => h) (Or.inl ⟨by kernel_rfl, ?qy4d⟩) (by assumption) ?_
              case qy4d => (intro w hSw; (try dsimp only at hSw); go_simp) <;> (try with_reducible rfl)
              try simp only [Act.put, List.setIfInBounds_toArray, List.set_cons_zero, List.set_cons_succ, List.getElem_toArray, List.getElem_cons_succ, List.getElem_cons_zero]
              refine wpAnyH_take (i := 5) (v := ?qv5d) rfl (by kernel_rfl) (by kernel_rfl) (by kernel_rfl) (fun _ _ _ h => h) (Or.inl ⟨by kernel_rfl, ?qy5d⟩) (by assumption) ?_
              case qy5d => (intro w hSw; (try dsimp only at hSw); go_simp) <;> (try with_reducible rfl)
              try simp only [Act.put, List.setIfInBounds_toArray, List.set_cons_zero, List.set_cons_succ, List.getElem_toArray, List.getElem_cons_succ, List.getElem_cons_zero]
              refine wpAnyH_take (i := 6) (v := ?qv6d) rfl (by kernel_rfl) (by kernel_rfl) (by kernel_rfl) (fun _ _ _ h => h) (Or.inl ⟨by kernel_rfl, ?qy6d⟩) (by assumption) ?_
              case qy6d => (intro w hSw; (try dsimp only at hSw); go_simp) <;> (try with_reducible rfl)
              try simp only [Act.put, List.setIfInBounds_toArray, List.set_cons_zero, List.set_cons_succ, List.getElem_toArray, List.getElem_cons_succ, List.getElem_cons_zero]
              refine wpAnyH_ready (rs := [7]) (by kernel_rfl) (by simp) ?_
              refine AllReadyH.cons rfl (fun K hK => ?_) AllReadyH.nil
              go_simp
              refine (KE1.out _).mono ?_
              rintro e xx ⟨rfl, rfl⟩
              go_wp2_with fail
              refine hK.out _ _ ?hs7da (fun hHeld => ?_)
              case hs7da => (try dsimp only); exact ST.out _ (Z2.out)
              clear hK K
              try simp only [Act.put, List.setIfInBounds_toArray, List.set_cons_zero, List.set_cons_succ, List.getElem_toArray, List.getElem_cons_succ, List.getElem_cons_zero]
              refine wpAnyH_take (i := 8) (v := ?qv8d) rfl (by kernel_rfl) (by kernel_rfl) (by kernel_rfl) (fun _ _ _ h => h) (Or.inl ⟨by kernel_rfl, ?qy8d⟩) (by assumption) ?_
              case qy8d => (intro w hSw; (try dsimp only at hSw); go_simp) <;> (try with_reducible rfl)
              try simp only [Act.put, List.setIfInBounds_toArray, List.set_cons_zero, List.set_cons_succ, List.getElem_toArray, List.getElem_cons_succ, List.getElem_cons_zero]
              refine wpAnyH_take (i := 9) (v := ?qv9d) rfl (by kernel_rfl) (by kernel_rfl) (by kernel_rfl) (fun _ _ _ h => h) (Or.inl ⟨by kernel_rfl, ?qy9d⟩) (by assumption) ?_
              case qy9d => (intro w hSw; (try dsimp only at hSw); go_simp) <;> (try with_reducible rfl)
              try simp only [Act.put, List.setIfInBounds_toArray, List.set_cons_zero, List.set_cons_succ, List.getElem_toArray, List.getElem_cons_succ, List.getElem_cons_zero]
              refine wpAnyH_take (i := 10) (v := ?qv10d) rfl (by kernel_rfl) (by kernel_rfl) (by kernel_rfl) (fun _ _ _ h => h) (Or.inl ⟨by kernel_rfl, ?qy10d⟩) (by assumption) ?_
              case qy10d => (intro w hSw; (try dsimp only at hSw); go_simp) <;> (try with_reducible rfl)
              try simp only [Act.put, List.setIfInBounds_toArray, List.set_cons_zero, List.set_cons_succ, List.getElem_toArray, List.getElem_cons_succ, List.getElem_cons_zero]
              refine wpAnyH_take (i := 11) (v := ?qv11d) rfl (by kernel_rfl) (by kernel_rfl) (by kernel_rfl) (fun _ _ _ h => h) (Or.inl ⟨by kernel_rfl, ?qy11d⟩) (by assumption) ?_
              case qy11d => (intro w hSw; (try dsimp only at hSw); go_simp) <;> (try with_reducible rfl)
              try simp only [Act.put, List.setIfInBounds_toArray, List.set_cons_zero, List.set_cons_succ, List.getElem_toArray, List.getElem_cons_succ, List.getElem_cons_zero]
              refine wpAnyH_take (i := 12) (v := ?qv12d) rfl (by kernel_rfl) (by kernel_rfl) (by kernel_rfl) (fun _ _ _ h => h) (Or.inl ⟨by kernel_rfl, ?qy12d⟩) (by assumption) ?_
              case qy12d => (intro w hSw; (try dsimp only at hSw); go_simp) <;> (try with_reducible rfl)
              try simp only [Act.put, List.setIfInBounds_toArray, List.set_cons_zero, List.set_cons_succ, List.getElem_toArray, List.getElem_cons_succ, List.getElem_cons_zero]
              refine wpAnyH_ready (rs := [13]) (by kernel_rfl) (by simp) ?_
              refine AllReadyH.cons rfl (fun K hK => ?_) AllReadyH.nil
              go_simp
              refine (KE2.out _).mono ?_
              rintro e xx ⟨rfl, rfl⟩
              go_wp2_with fail
              refine hK.out _ _ ?hs13da (fun hHeld => ?_)
              case hs13da => (try dsimp only); exact ST.out _ (Z2.out)
              clear hK K
              try simp only [Act.put, List.setIfInBounds_toArray, List.set_cons_zero, List.set_cons_succ, List.getElem_toArray, List.getElem_cons_succ, List.getElem_cons_zero]
              refine wpAnyH_take (i := 14) (v := ?qv14d) rfl (by kernel_rfl) (by kernel_rfl) (by kernel_rfl) (fun _ _ _ h => h) (Or.inl ⟨by kernel_rfl, ?qy14d⟩) (by assumption) ?_
              case qy14d => (intro w hSw; (try dsimp only at hSw); go_simp) <;> (try with_reducible rfl)
              try simp only [Act.put, List.setIfInBounds_toArray, List.set_cons_zero, List.set_cons_succ, List.getElem_toArray, List.getElem_cons_succ, List.getElem_cons_zero]
              refine wpAnyH_take (i := 15) (v := ?qv15d) rfl (by kernel_rfl) (by kernel_rfl) (by kernel_rfl) (fun _ _ _ h => h) (Or.inl ⟨by kernel_rfl, ?qy15d⟩) (by assumption) ?_
              case qy15d => (intro w hSw; (try dsimp only at hSw); go_simp) <;> (try with_reducible rfl)
              try simp only [Act.put, List.setIfInBounds_toArray, List.set_cons_zero, List.set_cons_succ, List.getElem_toArray, List.getElem_cons_succ, List.getElem_cons_zero]
              refine wpAnyH_take (i := 16) (v := ?qv16d) rfl (by kernel_rfl) (by kernel_rfl) (by kernel_rfl) (fun _ _ _ h => h) (Or.inl ⟨by kernel_rfl, ?qy16d⟩) (by assumption) ?_
              case qy16d => (intro w hSw; (try dsimp only at hSw); go_simp) <;> (try with_reducible rfl)
              try simp only [Act.put, List.setIfInBounds_toArray, List.set_cons_zero, List.set_cons_succ, List.getElem_toArray, List.getElem_cons_succ, List.getElem_cons_zero]
              refine wpAnyH_take (i := 17) (v := ?qv17d) rfl (by kernel_rfl) (by kernel_rfl) (by kernel_rfl) (fun _ _ _ h => h) (Or.inl ⟨by kernel_rfl, ?qy17d⟩) (by assumption) ?_
              case qy17d => (intro w hSw; (try dsimp only at hSw); go_simp) <;> (try with_reducible rfl)
              try simp only [Act.put, List.setIfInBounds_toArray, List.set_cons_zero, List.set_cons_succ, List.getElem_toArray, List.getElem_cons_succ, List.getElem_cons_zero]
              refine wpAnyH_take (i := 19) (v := ?qv19d) rfl (by kernel_rfl) (by kernel_rfl) (by kernel_rfl) (fun _ _ _ h => h) (Or.inl ⟨by kernel_rfl, ?qy19d⟩) (by assumption) ?_
              case qy19d => (intro w hSw; (try dsimp only at hSw); go_simp) <;> (try with_reducible rfl)
              try simp only [Act.put, List.setIfInBounds_toArray, List.set_cons_zero, List.set_cons_succ, List.getElem_toArray, List.getElem_cons_succ, List.getElem_cons_zero]
              refine wpAnyH_ready (rs := [18]) (by kernel_rfl) (by simp) ?_
              refine AllReadyH.cons rfl (fun K hK => ?_) AllReadyH.nil
              go_simp
              refine (KL1.out _).mono ?_
              rintro e y3 ⟨rfl, hy⟩
              have Z3 := Lib.hid (bstep (Z2.out) hy (Below.size (Z2.out)))
              clear hy
              go_wp2_with fail
              refine hK.out _ _ ?hs18da (fun hHeld => ?_)
              case hs18da => (try dsimp only); exact ST.out _ (Z3.out)
              clear hK K
              try simp only [Act.put, List.setIfInBounds_toArray, List.set_cons_zero, List.set_cons_succ, List.getElem_toArray, List.getElem_cons_succ, List.getElem_cons_zero]
              refine wpAnyH_ready (rs := [20]) (by kernel_rfl) (by simp) ?_
              refine AllReadyH.cons rfl (fun K hK => ?_) AllReadyH.nil
              go_simp
              refine (KT.out _).mono ?_
              rintro e y4 ⟨rfl, hy⟩
              have Z4 := Lib.hid (bstep (Z3.out) hy (Below.size (Z3.out)))
              clear hy
              go_wp2_with fail
              refine hK.out _ _ ?hs20da (fun hHeld => ?_)
              case hs20da => (try dsimp only); exact ST.out _ (Z4.out)
              clear hK K
              try simp only [Act.put, List.setIfInBounds_toArray, List.set_cons_zero, List.set_cons_succ, List.getElem_toArray, List.getElem_cons_succ, List.getElem_cons_zero]
              refine wpAnyH_ready (rs := [21]) (by kernel_rfl) (by simp) ?_
              refine AllReadyH.cons rfl (fun K hK => ?_) AllReadyH.nil
              go_simp
              refine (KL2.out _).mono ?_
              rintro e y5 ⟨rfl, hy⟩
              have Z5 := Lib.hid (bstep (Z4.out) hy (Below.size (Z4.out)))
              clear hy
              go_wp2_with fail
              refine hK.out _ _ ?hs21da (fun hHeld => ?_)
              case hs21da => (try dsimp only); exact ST.out _ (Z5.out)
              clear hK K
              try simp only [Act.put, List.setIfInBounds_toArray, List.set_cons_zero, List.set_cons_succ, List.getElem_toArray, List.getElem_cons_succ, List.getElem_cons_zero]
              refine wpAnyH_take (i := 22) (v := ?qv22d) rfl (by kernel_rfl) (by kernel_rfl) (by kernel_rfl) (fun _ _ _ h => h) (Or.inl ⟨by kernel_rfl, ?qy22d⟩) (by assumption) ?_
              case qy22d => (intro w hSw; (try dsimp only at hSw); go_simp) <;> (try with_reducible rfl)
              try simp only [Act.put, List.setIfInBounds_toArray, List.set_cons_zero, List.set_cons_succ, List.getElem_toArray, List.getElem_cons_succ, List.getElem_cons_zero]
              refine wpAnyH_take (i := 23) (v := ?qv23d) rfl (by kernel_rfl) (by kernel_rfl) (by kernel_rfl) (fun _ _ _ h => h) (Or.inl ⟨by kernel_rfl, ?qy23d⟩) (by assumption) ?_
              case qy23d => (intro w hSw; (try dsimp only at hSw); go_simp) <;> (try with_reducible rfl)
              try simp only [Act.put, List.setIfInBounds_toArray, List.set_cons_zero, List.set_cons_succ, List.getElem_toArray, List.getElem_cons_succ, List.getElem_cons_zero]
              refine wpAnyH_done (by kernel_rfl) ?_ _
              go_wp2_with fail
              go_meet
              exact ⟨rfl, Z5.out⟩
      case rest =>
        obtain ⟨rfl, hbw⟩ := hcut
        have B7 := Lib.hid (bstep G7.out.bel hbw G7.out.bel.size)
        clear hbw ST GM G7 FL KE KY KL1 KL2 KM KT
        go_wp2_with fail
        refine (KK.out _).mono ?_
        rintro e x20 ⟨rfl, hb⟩
        have B20 := Lib.hid (bstep B7.out hb B7.out.size)
        clear hb
        go_wp2_with fail
        refine (KN1.out _).mono ?_
        rintro e x21 ⟨rfl, hb⟩
        have B21 := Lib.hid (bstep B20.out hb B20.out.size)
        clear hb
        go_wp2_with fail
        refine (KN2.out _).mono ?_
        rintro e x22 ⟨rfl, hb⟩
        have B22 := Lib.hid (bstep B21.out hb B21.out.size)
        clear hb
        rcases FN.out with ⟨ga, gz⟩ | ⟨ga, gz⟩
        · have gm2 : max a (-9223372036854775807) = -9223372036854775807 := by omega
          have gz2 := gz.symm
          subst gz2
          clear ga gz FN
          go_wp2_with fail
          refine (K4.out _).mono ?_
          rintro e xx ⟨rfl, hq⟩
          have hq2 := hq.symm
          subst hq2
          go_wp2_with fail
          refine (K1.out _ _ (Blk.one x22 (.int .i64 b) 3)).mono ?_
          rintro e z1 ⟨rfl, rfl⟩
          have C1 := Lib.hid (B22.out.alloc B22.out.size (.cells #[.int .i64 b] 3))
          go_wp2_with fail
          refine (K3.out _ _ (Blk.one2 x22 (.cells #[.int .i64 b] 3) (.int .i64 a) 3)).mono ?_
          rintro e z2 ⟨rfl, rfl⟩
          go_wp2
          go_ret
          exact ⟨rfl, C1.out.alloc C1.out.size _⟩
        · have gm2 : max a (-9223372036854775807) = a := by omega
          have gz2 := gz.symm
          subst gz2
          clear ga gz FN
          go_wp2_with fail
          refine (K4.out _).mono ?_
          rintro e xx ⟨rfl, hq⟩
          have hq2 := hq.symm
          subst hq2
          go_wp2_with fail
          refine (K1.out _ _ (Blk.one x22 (.int .i64 b) 3)).mono ?_
          rintro e z1 ⟨rfl, rfl⟩
          have C1 := Lib.hid (B22.out.alloc B22.out.size (.cells #[.int .i64 b] 3))
          go_wp2_with fail
          refine (K3.out _ _ (Blk.one2 x22 (.cells #[.int .i64 b] 3) (.int .i64 a) 3)).mono ?_
          rintro e z2 ⟨rfl, rfl⟩
          go_wp2
          go_ret
          exact ⟨rfl, C1.out.alloc C1.out.size _⟩
end Go.Proofs.Ytlmmoinmlcpmnaa
