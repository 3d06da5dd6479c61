/-
  The law BitsParses.
-/
import Derived.Test.YtdebekedilogoaaBp
namespace Go.Proofs.Ytdebekedilogoaa
open Go.RowKit
set_option linter.unusedVariables false
set_option linter.unusedSimpArgs false
set_option maxRecDepth 4000

set_option maxHeartbeats 6400000 in
theorem lawParses1 (A : Option Addr) (n0 n c : Nat) (b : List UInt8) (w : World) (hn0 : n = min n0 300) (hb : Bs w A n b) (hc0 : n0 ≤ c) :
    Calls Try.prog 4 #[.slice A n0 c] w fun e w' => e = .returned (.bool true) ∧ Below w.heap.size w w' := by
  have hc : n ≤ c := by omega
  have hn : n ≤ 300 := by omega
  have hmin : min (n0 : Int) 300 = (n : Int) := by omega
  have hmin2 : (if (300 : Int) < (n0 : Int) then (300 : Int) else (n0 : Int)) = (n : Int) := by split <;> omega
  have m1 : (n : Int) ≤ (c : Int) := by omega
  have PB := btParseBool A n c b w hb
  have hl := hb.len
  have CS : ((((n : Int) == 1) = false) ∧ prsB b = (false, 6)) ∨ ∃ b' o, A = some ⟨b', o, none⟩ ∧ ((n : Int) == 1) = true ∧ (0 : Int) < n ∧ 0 < n ∧
      ((w.cell? ⟨b', o, none⟩ = some (.int .u8 0) ∧ prsB b = (false, 0)) ∨ (w.cell? ⟨b', o, none⟩ = some (.int .u8 255) ∧ prsB b = (true, 0)) ∨
        ∃ z : Int, w.cell? ⟨b', o, none⟩ = some (.int .u8 z) ∧ (z == 0) = false ∧ (z == 255) = false ∧ prsB b = (false, 6)) := by
    by_cases h1 : n = 1
    · refine .inr ?_
      obtain ⟨b', o, e, hcell⟩ := hb.at_ (k := 0) (by omega)
      rw [Nat.add_zero] at hcell
      have hF := prsB_one (by rw [hl]; exact h1 : b.length = 1)
      refine ⟨b', o, e, by simp; omega, by omega, by omega, ?_⟩
      by_cases z0 : nth b 0 = 0
      · rw [z0] at hF hcell; exact .inl ⟨hcell, hF⟩
      · by_cases z1 : nth b 0 = 255
        · rw [z1] at hF hcell; exact .inr (.inl ⟨hcell, hF⟩)
        · exact .inr (.inr ⟨nth b 0, hcell, by simpa using z0, by simpa using z1, by rw [hF, if_neg z0, if_neg z1]⟩)
    · exact .inl ⟨by simp; omega, prsB_long (by rw [hl]; exact h1)⟩
  clear hn0 hl
  go_enter Try.func4, Try.ntmps4
  go_upto_region 2 with (fail)
  rcases CS with ⟨e1, hF⟩ | ⟨b', o, rfl, e1, j0, j1, ⟨hcell, hF⟩ | ⟨hcell, hF⟩ | ⟨z, hcell, z0, z1, hF⟩⟩
  all_goals
    rw [hF] at PB
    clear hF
    go_wp2_with fail
    refine PB.mono ?_
    rintro e w1 ⟨rfl, hw1⟩
    obtain rfl : w = w1 := hw1.symm
    clear PB hw1
    go_upto_region 6 with (fail)
    try (clear hcell)
    try (generalize (some (⟨b', o, none⟩ : Addr)) = A at *)
  all_goals
    go_wp2_with fail
    refine (btParse A n c b w hb hc (by omega)).mono ?_
    rintro e w3 ⟨hy, hno, b3⟩
    have hb3 := hb.below b3
    cases hp : prsS b with
    | none =>
      obtain rfl := hno hp
      clear hy hno
      have hX := Blk.new2 w3 (.int .i64 0) (.slice none 0 0) 25
      have b4 := b3.alloc b3.size (.cells #[.int .i64 0, .slice none 0 0] 25)
      have hb4 := hb3.below (below_alloc1 w3 (.cells #[.int .i64 0, .slice none 0 0] 25))
      go_upto_region 7 with (fail)
      generalize (w3.alloc (Obj.cells #[.int .i64 0, .slice none 0 0] 25)) = W4 at *
      generalize w3.heap.size = g6 at *
      go_wp2_with fail
      refine (rf5Parse A n c b W4 hb4 hc (by omega)).mono ?_
      rintro e w5 ⟨hy5, hno5, b5⟩
      obtain rfl := hno5 hp
      have hX5 := hX.below b5
      have hb5 := hb4.below b5
      have b5 := below_st b4 b5
      clear hy5 hno5 hX hb3 hb4 b3 b4
      have hY := Blk.new2 w5 (.int .i64 0) (.slice none 0 0) 24
      have hX6 := hX5.alloc (.cells #[.int .i64 0, .slice none 0 0] 24)
      have b6 := b5.alloc b5.size (.cells #[.int .i64 0, .slice none 0 0] 24)
      go_upto_region 8 with (fail)
      generalize (w5.alloc (Obj.cells #[.int .i64 0, .slice none 0 0] 24)) = W6 at *
      generalize w5.heap.size = g8 at *
      clear hX5 hb5 b5
      obtain ⟨u, hu⟩ : ∃ u : Int, u = 0 := ⟨_, rfl⟩
      obtain ⟨A6, hA6⟩ : ∃ A6 : Option Addr, A6 = none := ⟨_, rfl⟩
      obtain ⟨n6, hn6⟩ : ∃ n6 : Nat, n6 = 0 := ⟨_, rfl⟩
      have ST9 : Hid (∀ W, Below W6.heap.size W6 W → (W.cell? ⟨g6, 0, none⟩ = some (.int .i64 0) ∧ W.cell? ⟨g6, 1, none⟩ = some (.slice none 0 0) ∧ W.cell? ⟨g8, 0, none⟩ = some (.int .i64 0) ∧ W.cell? ⟨g8, 1, none⟩ = some (.slice none 0 0)) ∧ Bs W none 0 [] ∧ Bs W none 0 [] ∧ Below w.heap.size w W) :=
        fun W hW => ⟨⟨(hX6.below hW).two.1, (hX6.below hW).two.2.1, (hY.below hW).two.1, (hY.below hW).two.2.1⟩, Bs.nil _ _, Bs.nil _ _, below_st b6 hW⟩
      clear hu hA6 hn6
      refine wp_region_held_drew (S := fun w' => w'.cell? ⟨g6, 0, none⟩ = some (.int .i64 0) ∧ w'.cell? ⟨g6, 1, none⟩ = some (.slice none 0 0) ∧ w'.cell? ⟨g8, 0, none⟩ = some (.int .i64 0) ∧ w'.cell? ⟨g8, 1, none⟩ = some (.slice none 0 0)) (by kernel_rfl) ?_ (fun hHeld => ?_)
      · (try dsimp only); exact (ST9.out _ (Below.refl _ _)).1
      refine wpAnyH_take (i := 0) (v := ?_) rfl (by kernel_rfl) (by kernel_rfl) (by kernel_rfl) (fun _ _ _ h => h) (Or.inl ⟨by kernel_rfl, ?_⟩) (by assumption) ?_
      rotate_left 1
      · (intro w hSw; (try dsimp only at hSw); go_simp) <;> (try with_reducible rfl)
      try simp only [Act.put, List.setIfInBounds_toArray, List.set_cons_zero, List.set_cons_succ, List.getElem_toArray, List.getElem_cons_succ, List.getElem_cons_zero]
      refine wpAnyH_take (i := 1) (v := ?_) rfl (by kernel_rfl) (by kernel_rfl) (by kernel_rfl) (fun _ _ _ h => h) (Or.inl ⟨by kernel_rfl, ?_⟩) (by assumption) ?_
      rotate_left 1
      · (intro w hSw; (try dsimp only at hSw); go_simp) <;> (try with_reducible rfl)
      try simp only [Act.put, List.setIfInBounds_toArray, List.set_cons_zero, List.set_cons_succ, List.getElem_toArray, List.getElem_cons_succ, List.getElem_cons_zero]
      refine wpAnyH_take (i := 2) (v := ?_) rfl (by kernel_rfl) (by kernel_rfl) (by kernel_rfl) (fun _ _ _ h => h) (Or.inl ⟨by kernel_rfl, ?_⟩) (by assumption) ?_
      rotate_left 1
      · (intro w hSw; (try dsimp only at hSw); go_simp) <;> (try with_reducible rfl)
      try simp only [Act.put, List.setIfInBounds_toArray, List.set_cons_zero, List.set_cons_succ, List.getElem_toArray, List.getElem_cons_succ, List.getElem_cons_zero]
      refine wpAnyH_take (i := 3) (v := ?_) rfl (by kernel_rfl) (by kernel_rfl) (by kernel_rfl) (fun _ _ _ h => h) (Or.inl ⟨by kernel_rfl, ?_⟩) (by assumption) ?_
      rotate_left 1
      · (intro w hSw; (try dsimp only at hSw); go_simp) <;> (try with_reducible rfl)
      try simp only [Act.put, List.setIfInBounds_toArray, List.set_cons_zero, List.set_cons_succ, List.getElem_toArray, List.getElem_cons_succ, List.getElem_cons_zero]
      refine wpAnyH_take (i := 4) (v := ?_) rfl (by kernel_rfl) (by kernel_rfl) (by kernel_rfl) (fun _ _ _ h => h) (Or.inl ⟨by kernel_rfl, ?_⟩) (by assumption) ?_
      rotate_left 1
      · (intro w hSw; (try dsimp only at hSw); go_simp) <;> (try with_reducible rfl)
      try simp only [Act.put, List.setIfInBounds_toArray, List.set_cons_zero, List.set_cons_succ, List.getElem_toArray, List.getElem_cons_succ, List.getElem_cons_zero]
      refine wpAnyH_take (i := 5) (v := ?_) rfl (by kernel_rfl) (by kernel_rfl) (by kernel_rfl) (fun _ _ _ h => h) (Or.inl ⟨by kernel_rfl, ?_⟩) (by assumption) ?_
      rotate_left 1
      · (intro w hSw; (try dsimp only at hSw); go_simp) <;> (try with_reducible rfl)
      try simp only [Act.put, List.setIfInBounds_toArray, List.set_cons_zero, List.set_cons_succ, List.getElem_toArray, List.getElem_cons_succ, List.getElem_cons_zero]
      refine wpAnyH_take (i := 6) (v := ?_) rfl (by kernel_rfl) (by kernel_rfl) (by kernel_rfl) (fun _ _ _ h => h) (Or.inl ⟨by kernel_rfl, ?_⟩) (by assumption) ?_
      rotate_left 1
      · (intro w hSw; (try dsimp only at hSw); go_simp) <;> (try with_reducible rfl)
      try simp only [Act.put, List.setIfInBounds_toArray, List.set_cons_zero, List.set_cons_succ, List.getElem_toArray, List.getElem_cons_succ, List.getElem_cons_zero]
      refine wpAnyH_take (i := 7) (v := ?_) rfl (by kernel_rfl) (by kernel_rfl) (by kernel_rfl) (fun _ _ _ h => h) (Or.inl ⟨by kernel_rfl, ?_⟩) (by assumption) ?_
      rotate_left 1
      · (intro w hSw; (try dsimp only at hSw); go_simp) <;> (try with_reducible rfl)
      try simp only [Act.put, List.setIfInBounds_toArray, List.set_cons_zero, List.set_cons_succ, List.getElem_toArray, List.getElem_cons_succ, List.getElem_cons_zero]
      refine wpAnyH_take (i := 8) (v := ?_) rfl (by kernel_rfl) (by kernel_rfl) (by kernel_rfl) (fun _ _ _ h => h) (Or.inl ⟨by kernel_rfl, ?_⟩) (by assumption) ?_
      rotate_left 1
      · (intro w hSw; (try dsimp only at hSw); go_simp) <;> (try with_reducible rfl)
      try simp only [Act.put, List.setIfInBounds_toArray, List.set_cons_zero, List.set_cons_succ, List.getElem_toArray, List.getElem_cons_succ, List.getElem_cons_zero]
      refine wpAnyH_take (i := 9) (v := ?_) rfl (by kernel_rfl) (by kernel_rfl) (by kernel_rfl) (fun _ _ _ h => h) (Or.inl ⟨by kernel_rfl, ?_⟩) (by assumption) ?_
      rotate_left 1
      · (intro w hSw; (try dsimp only at hSw); go_simp) <;> (try with_reducible rfl)
      try simp only [Act.put, List.setIfInBounds_toArray, List.set_cons_zero, List.set_cons_succ, List.getElem_toArray, List.getElem_cons_succ, List.getElem_cons_zero]
      refine wpAnyH_take (i := 10) (v := ?_) rfl (by kernel_rfl) (by kernel_rfl) (by kernel_rfl) (fun _ _ _ h => h) (Or.inl ⟨by kernel_rfl, ?_⟩) (by assumption) ?_
      rotate_left 1
      · (intro w hSw; (try dsimp only at hSw); go_simp) <;> (try with_reducible rfl)
      try simp only [Act.put, List.setIfInBounds_toArray, List.set_cons_zero, List.set_cons_succ, List.getElem_toArray, List.getElem_cons_succ, List.getElem_cons_zero]
      refine wpAnyH_take (i := 11) (v := ?_) rfl (by kernel_rfl) (by kernel_rfl) (by kernel_rfl) (fun _ _ _ h => h) (Or.inl ⟨by kernel_rfl, ?_⟩) (by assumption) ?_
      rotate_left 1
      · (intro w hSw; (try dsimp only at hSw); go_simp) <;> (try with_reducible rfl)
      try simp only [Act.put, List.setIfInBounds_toArray, List.set_cons_zero, List.set_cons_succ, List.getElem_toArray, List.getElem_cons_succ, List.getElem_cons_zero]
      refine wpAnyH_take (i := 12) (v := ?_) rfl (by kernel_rfl) (by kernel_rfl) (by kernel_rfl) (fun _ _ _ h => h) (Or.inl ⟨by kernel_rfl, ?_⟩) (by assumption) ?_
      rotate_left 1
      · (intro w hSw; (try dsimp only at hSw); go_simp) <;> (try with_reducible rfl)
      try simp only [Act.put, List.setIfInBounds_toArray, List.set_cons_zero, List.set_cons_succ, List.getElem_toArray, List.getElem_cons_succ, List.getElem_cons_zero]
      refine wpAnyH_take (i := 13) (v := ?_) rfl (by kernel_rfl) (by kernel_rfl) (by kernel_rfl) (fun _ _ _ h => h) (Or.inl ⟨by kernel_rfl, ?_⟩) (by assumption) ?_
      rotate_left 1
      · (intro w hSw; (try dsimp only at hSw); go_simp) <;> (try with_reducible rfl)
      try simp only [Act.put, List.setIfInBounds_toArray, List.set_cons_zero, List.set_cons_succ, List.getElem_toArray, List.getElem_cons_succ, List.getElem_cons_zero]
      refine wpAnyH_take (i := 15) (v := ?_) rfl (by kernel_rfl) (by kernel_rfl) (by kernel_rfl) (fun _ _ _ h => h) (Or.inl ⟨by kernel_rfl, ?_⟩) (by assumption) ?_
      rotate_left 1
      · (intro w hSw; (try dsimp only at hSw); go_simp) <;> (try with_reducible rfl)
      try simp only [Act.put, List.setIfInBounds_toArray, List.set_cons_zero, List.set_cons_succ, List.getElem_toArray, List.getElem_cons_succ, List.getElem_cons_zero]
      refine wpAnyH_ready (rs := [14]) (by kernel_rfl) (by simp) ?_
      refine AllReadyH.cons rfl (fun K hK => ?_) AllReadyH.nil
      go_simp
      refine (lw5Of 0 none 0 0 _).mono ?_
      rintro e w9 ⟨rfl, hb9⟩
      have hb9 := Below.trans (Below.drew (Below.refl _ _)) hb9
      have k9 := ST9.out _ hb9
      go_wp2_with fail
      refine hK.out _ _ ?_ (fun hHeld => ?_)
      · (try dsimp only); exact k9.1
      clear hK K
      try simp only [Act.put, List.setIfInBounds_toArray, List.set_cons_zero, List.set_cons_succ, List.getElem_toArray, List.getElem_cons_succ, List.getElem_cons_zero]
      refine wpAnyH_ready (rs := [16]) (by kernel_rfl) (by simp) ?_
      refine AllReadyH.cons rfl (fun K hK => ?_) AllReadyH.nil
      go_simp
      refine (rf5Same 0 0 none none 0 0 0 0 [] [] _ k9.2.1 k9.2.2.1).mono ?_
      rw [decide_eq_true (show ((0 : Int), ([] : List UInt8)) = (0, []) from rfl)]
      rintro e w10 ⟨rfl, hb10⟩
      have k10 := ST9.out _ (below_st hb9 hb10)
      go_wp2_with fail
      refine hK.out _ _ ?_ (fun hHeld => ?_)
      · (try dsimp only); exact k10.1
      clear hK K
      try simp only [Act.put, List.setIfInBounds_toArray, List.set_cons_zero, List.set_cons_succ, List.getElem_toArray, List.getElem_cons_succ, List.getElem_cons_zero]
      refine wpAnyH_take (i := 17) (v := ?_) rfl (by kernel_rfl) (by kernel_rfl) (by kernel_rfl) (fun _ _ _ h => h) (Or.inl ⟨by kernel_rfl, ?_⟩) (by assumption) ?_
      rotate_left 1
      · (intro w hSw; (try dsimp only at hSw); go_simp) <;> (try with_reducible rfl)
      try simp only [Act.put, List.setIfInBounds_toArray, List.set_cons_zero, List.set_cons_succ, List.getElem_toArray, List.getElem_cons_succ, List.getElem_cons_zero]
      refine wpAnyH_take (i := 18) (v := ?_) rfl (by kernel_rfl) (by kernel_rfl) (by kernel_rfl) (fun _ _ _ h => h) (Or.inl ⟨by kernel_rfl, ?_⟩) (by assumption) ?_
      rotate_left 1
      · (intro w hSw; (try dsimp only at hSw); go_simp) <;> (try with_reducible rfl)
      try simp only [Act.put, List.setIfInBounds_toArray, List.set_cons_zero, List.set_cons_succ, List.getElem_toArray, List.getElem_cons_succ, List.getElem_cons_zero]
      refine wpAnyH_done (by kernel_rfl) ?_ _
      have b10 := (ST9.out _ (below_st hb9 hb10)).2.2.2
      clear ST9 hX6 hY
      go_wp2_with fail
      refine (known5 _).mono ?_
      rintro e w11 ⟨rfl, b11⟩
      have b11 := below_st b10 b11
      go_wp2
      go_ret
      exact ⟨rfl, b11⟩
    | some ut =>
      obtain ⟨u, t⟩ := ut
      obtain ⟨A6, n6, c6, rfl, o6⟩ := hy u t hp
      have hrt := cont_prs5 hp
      clear hy hno
      have s6 := o6.bs.1
      have hc6 := o6.bs.2
      have hX := Blk.new2 w3 (.int .i64 u) (.slice A6 n6 c6) 25
      have b4 := b3.alloc b3.size (.cells #[.int .i64 u, .slice A6 n6 c6] 25)
      have hb4 := hb3.below (below_alloc1 w3 (.cells #[.int .i64 u, .slice A6 n6 c6] 25))
      have s4 := s6.below (below_alloc1 w3 (.cells #[.int .i64 u, .slice A6 n6 c6] 25))
      go_upto_region 7 with (fail)
      generalize (w3.alloc (Obj.cells #[.int .i64 u, .slice A6 n6 c6] 25)) = W4 at *
      generalize w3.heap.size = g6 at *
      go_wp2_with fail
      refine (rf5Parse A n c b W4 hb4 hc (by omega)).mono ?_
      rintro e w5 ⟨hy5, hno5, b5⟩
      obtain ⟨A8, n8, c8, rfl, o8⟩ := hy5 u t hp
      have hX5 := hX.below b5
      have hb5 := hb4.below b5
      have s5 := s4.below b5
      have s8 := o8.bs.1
      have b5 := below_st b4 b5
      clear hy5 hno5 hX hb3 hb4 b3 b4 s6 s4 o6 o8
      have hY := Blk.new2 w5 (.int .i64 u) (.slice A8 n8 c8) 24
      have hX6 := hX5.alloc (.cells #[.int .i64 u, .slice A8 n8 c8] 24)
      have b6 := b5.alloc b5.size (.cells #[.int .i64 u, .slice A8 n8 c8] 24)
      have s7 := s5.below (below_alloc1 w5 (.cells #[.int .i64 u, .slice A8 n8 c8] 24))
      have s9 := s8.below (below_alloc1 w5 (.cells #[.int .i64 u, .slice A8 n8 c8] 24))
      have hb6 := hb5.below (below_alloc1 w5 (.cells #[.int .i64 u, .slice A8 n8 c8] 24))
      go_upto_region 8 with (fail)
      generalize (w5.alloc (Obj.cells #[.int .i64 u, .slice A8 n8 c8] 24)) = W6 at *
      generalize w5.heap.size = g8 at *
      clear hX5 hb5 b5 s5 s8
      have ST9 : Hid (∀ W, Below W6.heap.size W6 W → (W.cell? ⟨g6, 0, none⟩ = some (.int .i64 u) ∧ W.cell? ⟨g6, 1, none⟩ = some (.slice A6 n6 c6) ∧ W.cell? ⟨g8, 0, none⟩ = some (.int .i64 u) ∧ W.cell? ⟨g8, 1, none⟩ = some (.slice A8 n8 c8)) ∧ Bs W A6 n6 t ∧ Bs W A8 n8 t ∧ Below w.heap.size w W ∧ Bs W A n b) :=
        fun W hW => ⟨⟨(hX6.below hW).two.1, (hX6.below hW).two.2.1, (hY.below hW).two.1, (hY.below hW).two.2.1⟩, s7.below hW, s9.below hW, below_st b6 hW, hb6.below hW⟩
      refine wp_region_held_drew (S := fun w' => w'.cell? ⟨g6, 0, none⟩ = some (.int .i64 u) ∧ w'.cell? ⟨g6, 1, none⟩ = some (.slice A6 n6 c6) ∧ w'.cell? ⟨g8, 0, none⟩ = some (.int .i64 u) ∧ w'.cell? ⟨g8, 1, none⟩ = some (.slice A8 n8 c8)) (by kernel_rfl) ?_ (fun hHeld => ?_)
      · (try dsimp only); exact (ST9.out _ (Below.refl _ _)).1
      refine wpAnyH_take (i := 0) (v := ?_) rfl (by kernel_rfl) (by kernel_rfl) (by kernel_rfl) (fun _ _ _ h => h) (Or.inl ⟨by kernel_rfl, ?_⟩) (by assumption) ?_
      rotate_left 1
      · (intro w hSw; (try dsimp only at hSw); go_simp) <;> (try with_reducible rfl)
      try simp only [Act.put, List.setIfInBounds_toArray, List.set_cons_zero, List.set_cons_succ, List.getElem_toArray, List.getElem_cons_succ, List.getElem_cons_zero]
      refine wpAnyH_take (i := 1) (v := ?_) rfl (by kernel_rfl) (by kernel_rfl) (by kernel_rfl) (fun _ _ _ h => h) (Or.inl ⟨by kernel_rfl, ?_⟩) (by assumption) ?_
      rotate_left 1
      · (intro w hSw; (try dsimp only at hSw); go_simp) <;> (try with_reducible rfl)
      try simp only [Act.put, List.setIfInBounds_toArray, List.set_cons_zero, List.set_cons_succ, List.getElem_toArray, List.getElem_cons_succ, List.getElem_cons_zero]
      refine wpAnyH_take (i := 2) (v := ?_) rfl (by kernel_rfl) (by kernel_rfl) (by kernel_rfl) (fun _ _ _ h => h) (Or.inl ⟨by kernel_rfl, ?_⟩) (by assumption) ?_
      rotate_left 1
      · (intro w hSw; (try dsimp only at hSw); go_simp) <;> (try with_reducible rfl)
      try simp only [Act.put, List.setIfInBounds_toArray, List.set_cons_zero, List.set_cons_succ, List.getElem_toArray, List.getElem_cons_succ, List.getElem_cons_zero]
      refine wpAnyH_take (i := 3) (v := ?_) rfl (by kernel_rfl) (by kernel_rfl) (by kernel_rfl) (fun _ _ _ h => h) (Or.inl ⟨by kernel_rfl, ?_⟩) (by assumption) ?_
      rotate_left 1
      · (intro w hSw; (try dsimp only at hSw); go_simp) <;> (try with_reducible rfl)
      try simp only [Act.put, List.setIfInBounds_toArray, List.set_cons_zero, List.set_cons_succ, List.getElem_toArray, List.getElem_cons_succ, List.getElem_cons_zero]
      refine wpAnyH_take (i := 4) (v := ?_) rfl (by kernel_rfl) (by kernel_rfl) (by kernel_rfl) (fun _ _ _ h => h) (Or.inl ⟨by kernel_rfl, ?_⟩) (by assumption) ?_
      rotate_left 1
      · (intro w hSw; (try dsimp only at hSw); go_simp) <;> (try with_reducible rfl)
      try simp only [Act.put, List.setIfInBounds_toArray, List.set_cons_zero, List.set_cons_succ, List.getElem_toArray, List.getElem_cons_succ, List.getElem_cons_zero]
      refine wpAnyH_take (i := 5) (v := ?_) rfl (by kernel_rfl) (by kernel_rfl) (by kernel_rfl) (fun _ _ _ h => h) (Or.inl ⟨by kernel_rfl, ?_⟩) (by assumption) ?_
      rotate_left 1
      · (intro w hSw; (try dsimp only at hSw); go_simp) <;> (try with_reducible rfl)
      try simp only [Act.put, List.setIfInBounds_toArray, List.set_cons_zero, List.set_cons_succ, List.getElem_toArray, List.getElem_cons_succ, List.getElem_cons_zero]
      refine wpAnyH_take (i := 6) (v := ?_) rfl (by kernel_rfl) (by kernel_rfl) (by kernel_rfl) (fun _ _ _ h => h) (Or.inl ⟨by kernel_rfl, ?_⟩) (by assumption) ?_
      rotate_left 1
      · (intro w hSw; (try dsimp only at hSw); go_simp) <;> (try with_reducible rfl)
      try simp only [Act.put, List.setIfInBounds_toArray, List.set_cons_zero, List.set_cons_succ, List.getElem_toArray, List.getElem_cons_succ, List.getElem_cons_zero]
      refine wpAnyH_take (i := 7) (v := ?_) rfl (by kernel_rfl) (by kernel_rfl) (by kernel_rfl) (fun _ _ _ h => h) (Or.inl ⟨by kernel_rfl, ?_⟩) (by assumption) ?_
      rotate_left 1
      · (intro w hSw; (try dsimp only at hSw); go_simp) <;> (try with_reducible rfl)
      try simp only [Act.put, List.setIfInBounds_toArray, List.set_cons_zero, List.set_cons_succ, List.getElem_toArray, List.getElem_cons_succ, List.getElem_cons_zero]
      refine wpAnyH_take (i := 8) (v := undef) rfl (by kernel_rfl) (by kernel_rfl) (by kernel_rfl) (fun _ _ _ h => h) (Or.inr ⟨by kernel_rfl, rfl⟩) (by assumption) ?_
      try simp only [Act.put, List.setIfInBounds_toArray, List.set_cons_zero, List.set_cons_succ, List.getElem_toArray, List.getElem_cons_succ, List.getElem_cons_zero]
      refine wpAnyH_take (i := 9) (v := undef) rfl (by kernel_rfl) (by kernel_rfl) (by kernel_rfl) (fun _ _ _ h => h) (Or.inr ⟨by kernel_rfl, rfl⟩) (by assumption) ?_
      try simp only [Act.put, List.setIfInBounds_toArray, List.set_cons_zero, List.set_cons_succ, List.getElem_toArray, List.getElem_cons_succ, List.getElem_cons_zero]
      refine wpAnyH_take (i := 10) (v := ?_) rfl (by kernel_rfl) (by kernel_rfl) (by kernel_rfl) (fun _ _ _ h => h) (Or.inl ⟨by kernel_rfl, ?_⟩) (by assumption) ?_
      rotate_left 1
      · (intro w hSw; (try dsimp only at hSw); go_simp) <;> (try with_reducible rfl)
      try simp only [Act.put, List.setIfInBounds_toArray, List.set_cons_zero, List.set_cons_succ, List.getElem_toArray, List.getElem_cons_succ, List.getElem_cons_zero]
      refine wpAnyH_take (i := 11) (v := ?_) rfl (by kernel_rfl) (by kernel_rfl) (by kernel_rfl) (fun _ _ _ h => h) (Or.inl ⟨by kernel_rfl, ?_⟩) (by assumption) ?_
      rotate_left 1
      · (intro w hSw; (try dsimp only at hSw); go_simp) <;> (try with_reducible rfl)
      try simp only [Act.put, List.setIfInBounds_toArray, List.set_cons_zero, List.set_cons_succ, List.getElem_toArray, List.getElem_cons_succ, List.getElem_cons_zero]
      refine wpAnyH_take (i := 12) (v := ?_) rfl (by kernel_rfl) (by kernel_rfl) (by kernel_rfl) (fun _ _ _ h => h) (Or.inl ⟨by kernel_rfl, ?_⟩) (by assumption) ?_
      rotate_left 1
      · (intro w hSw; (try dsimp only at hSw); go_simp) <;> (try with_reducible rfl)
      try simp only [Act.put, List.setIfInBounds_toArray, List.set_cons_zero, List.set_cons_succ, List.getElem_toArray, List.getElem_cons_succ, List.getElem_cons_zero]
      refine wpAnyH_take (i := 13) (v := ?_) rfl (by kernel_rfl) (by kernel_rfl) (by kernel_rfl) (fun _ _ _ h => h) (Or.inl ⟨by kernel_rfl, ?_⟩) (by assumption) ?_
      rotate_left 1
      · (intro w hSw; (try dsimp only at hSw); go_simp) <;> (try with_reducible rfl)
      try simp only [Act.put, List.setIfInBounds_toArray, List.set_cons_zero, List.set_cons_succ, List.getElem_toArray, List.getElem_cons_succ, List.getElem_cons_zero]
      refine wpAnyH_take (i := 15) (v := ?_) rfl (by kernel_rfl) (by kernel_rfl) (by kernel_rfl) (fun _ _ _ h => h) (Or.inl ⟨by kernel_rfl, ?_⟩) (by assumption) ?_
      rotate_left 1
      · (intro w hSw; (try dsimp only at hSw); go_simp) <;> (try with_reducible rfl)
      try simp only [Act.put, List.setIfInBounds_toArray, List.set_cons_zero, List.set_cons_succ, List.getElem_toArray, List.getElem_cons_succ, List.getElem_cons_zero]
      refine wpAnyH_ready (rs := [14]) (by kernel_rfl) (by simp) ?_
      refine AllReadyH.cons rfl (fun K hK => ?_) AllReadyH.nil
      go_simp
      refine (lw5Of u A6 n6 c6 _).mono ?_
      rintro e w9 ⟨rfl, hb9⟩
      have hb9 := Below.trans (Below.drew (Below.refl _ _)) hb9
      have k9 := ST9.out _ hb9
      go_wp2_with fail
      refine hK.out _ _ ?_ (fun hHeld => ?_)
      · (try dsimp only); exact k9.1
      clear hK K
      try simp only [Act.put, List.setIfInBounds_toArray, List.set_cons_zero, List.set_cons_succ, List.getElem_toArray, List.getElem_cons_succ, List.getElem_cons_zero]
      refine wpAnyH_ready (rs := [16]) (by kernel_rfl) (by simp) ?_
      refine AllReadyH.cons rfl (fun K hK => ?_) AllReadyH.nil
      go_simp
      refine (rf5Same u u A6 A8 n6 n8 c6 c8 t t _ k9.2.1 k9.2.2.1).mono ?_
      rw [decide_eq_true (show (u, t) = (u, t) from rfl)]
      rintro e w10 ⟨rfl, hb10⟩
      have k10 := ST9.out _ (below_st hb9 hb10)
      go_wp2_with fail
      refine hK.out _ _ ?_ (fun hHeld => ?_)
      · (try dsimp only); exact k10.1
      clear hK K
      try simp only [Act.put, List.setIfInBounds_toArray, List.set_cons_zero, List.set_cons_succ, List.getElem_toArray, List.getElem_cons_succ, List.getElem_cons_zero]
      refine wpAnyH_take (i := 17) (v := ?_) rfl (by kernel_rfl) (by kernel_rfl) (by kernel_rfl) (fun _ _ _ h => h) (Or.inl ⟨by kernel_rfl, ?_⟩) (by assumption) ?_
      rotate_left 1
      · (intro w hSw; (try dsimp only at hSw); go_simp) <;> (try with_reducible rfl)
      try simp only [Act.put, List.setIfInBounds_toArray, List.set_cons_zero, List.set_cons_succ, List.getElem_toArray, List.getElem_cons_succ, List.getElem_cons_zero]
      refine wpAnyH_take (i := 18) (v := ?_) rfl (by kernel_rfl) (by kernel_rfl) (by kernel_rfl) (fun _ _ _ h => h) (Or.inl ⟨by kernel_rfl, ?_⟩) (by assumption) ?_
      rotate_left 1
      · (intro w hSw; (try dsimp only at hSw); go_simp) <;> (try with_reducible rfl)
      try simp only [Act.put, List.setIfInBounds_toArray, List.set_cons_zero, List.set_cons_succ, List.getElem_toArray, List.getElem_cons_succ, List.getElem_cons_zero]
      refine wpAnyH_done (by kernel_rfl) ?_ _
      have k11 := ST9.out _ (below_st hb9 hb10)
      obtain ⟨⟨x0, x1, _, _⟩, s11, _, b11, hb11⟩ := k11
      clear hX6 hY s7 s9 hb6 b6
      have hml : t.length ≤ n := by have h1 := hrt.2; have h2 := hb.len; rw [← h1] at h2; simp [contS] at h2; omega
      have C11 := btContents u A6 n6 c6 t w10 s11 hc6 (by have := s11.len; omega) hrt.1
      rw [hrt.2] at C11
      go_wp2_with fail
      refine C11.mono ?_
      rintro e w12 ⟨A12, n12, c12, rfl, o12, b12⟩
      have s12 := o12.bs.1
      have hb12 := hb11.below b12
      have b12 := below_st b11 b12
      clear x0 x1 s11 b11 hb11 o12 C11
      go_wp2_with fail
      refine (known5 _).mono ?_
      rintro e w13 ⟨rfl, b13⟩
      have s13 := s12.below b13
      have hb13 := hb12.below b13
      have b13 := below_st b12 b13
      have SM := refSame A12 A n12 n c12 c b b w13 s13 hb13 (by have := s13.len; have := hb13.len; omega) (by omega)
      rw [decide_eq_true (show b = b from rfl)] at SM
      go_wp2_with fail
      refine SM.mono ?_
      rintro e w14 ⟨rfl, q14⟩
      have b14 := b13.trans q14.below
      go_wp2
      go_ret
      exact ⟨rfl, b14⟩

theorem lawParses (A : Option Addr) (n c : Nat) (l : List UInt8) (w : World) (hb : Bs w A n l) (hc : n ≤ c) :
    Calls Try.prog 4 #[.slice A n c] w fun e w' => e = .returned (.bool true) ∧ Below w.heap.size w w' :=
  lawParses1 A n (min n 300) c (l.take (min n 300)) w rfl (hb.take (Nat.min_le_left _ _)) hc
end Go.Proofs.Ytdebekedilogoaa
