/-
  The law DateOrders.
-/
import Derived.Test.YteljhijnablphaaDr
import Derived.Deep.CutBlock
namespace Go.Proofs.Yteljhijnablphaa
open Go.RowKit
set_option linter.unusedVariables false
set_option linter.unusedSimpArgs false
set_option maxRecDepth 4000

set_option maxHeartbeats 3200000 in
theorem lawOrders (y m d p q r : Int) (w : World) (hy : I64 y) (hm : I64 m) (hd : I64 d) (hp : I64 p) (hq : I64 q) (hr : I64 r) :
    Calls Try.prog 6 #[dv y m d, dv p q r] w fun e w' => e = .returned (.bool true) ∧ Below w.heap.size w w' := by
  have hTo := Lib.hid lw9To
  have hCm := Lib.hid dtCompare
  have hKn := Lib.hid known9
  unfold dv at *
  have CEL : Hid (∀ W : World, Below ((w.alloc (.cells #[.int .i64 y, .int .i64 m, .int .i64 d] 23)).alloc (.cells #[.int .i64 p, .int .i64 q, .int .i64 r] 23)).heap.size ((w.alloc (.cells #[.int .i64 y, .int .i64 m, .int .i64 d] 23)).alloc (.cells #[.int .i64 p, .int .i64 q, .int .i64 r] 23)) W → W.cell? ⟨w.heap.size, 0, none⟩ = some (.int .i64 y) ∧ W.cell? ⟨w.heap.size, 1, none⟩ = some (.int .i64 m) ∧ W.cell? ⟨w.heap.size, 2, none⟩ = some (.int .i64 d) ∧ W.cell? ⟨w.heap.size + 1, 0, none⟩ = some (.int .i64 p) ∧ W.cell? ⟨w.heap.size + 1, 1, none⟩ = some (.int .i64 q) ∧ W.cell? ⟨w.heap.size + 1, 2, none⟩ = some (.int .i64 r)) := by
    intro W hW
    have h1 := (((Blk.three_new w (.int .i64 y) (.int .i64 m) (.int .i64 d) 23).alloc (.cells #[.int .i64 p, .int .i64 q, .int .i64 r] 23)).below hW).three
    have h2 := Blk.three_new (w.alloc (.cells #[.int .i64 y, .int .i64 m, .int .i64 d] 23)) (.int .i64 p) (.int .i64 q) (.int .i64 r) 23
    rw [World.size_alloc] at h2
    have h3 := (Blk.below h2 hW).three
    exact ⟨h1.1, h1.2.1, h1.2.2, h3.1, h3.2.1, h3.2.2⟩
  have HB := Lib.hid (below_alloc2 w (.cells #[.int .i64 y, .int .i64 m, .int .i64 d] 23) (.cells #[.int .i64 p, .int .i64 q, .int .i64 r] 23))
  obtain ⟨C, hC⟩ : ∃ C, C = cmp3 y m d p q r := ⟨_, rfl⟩
  go_enter Try.func6, Try.ntmps6
  go_upto_region 1 with fail
  refine wp_region_held_drew (S := fun w' => w'.cell? ⟨w.heap.size, 0, none⟩ = some (.int .i64 y) ∧ w'.cell? ⟨w.heap.size, 1, none⟩ = some (.int .i64 m) ∧ w'.cell? ⟨w.heap.size, 2, none⟩ = some (.int .i64 d) ∧ w'.cell? ⟨w.heap.size + 1, 0, none⟩ = some (.int .i64 p) ∧ w'.cell? ⟨w.heap.size + 1, 1, none⟩ = some (.int .i64 q) ∧ w'.cell? ⟨w.heap.size + 1, 2, none⟩ = some (.int .i64 r)) (by kernel_rfl) ?hb0 (fun hHeld => ?_)
  case hb0 => (try dsimp only); exact CEL.out _ (below_drewN (Below.refl _ _) 1)
  refine wpAnyH_take (i := 0) (v := ?qv0) rfl (by kernel_rfl) (by kernel_rfl) (by kernel_rfl) (fun _ _ _ h => h) (Or.inl ⟨by kernel_rfl, ?qy0⟩) (by assumption) ?_
  case qy0 => (intro w hSw; (try dsimp only at hSw); go_simp) <;> (try with_reducible rfl)
  try simp only [Act.put, List.setIfInBounds_toArray, List.set_cons_zero, List.set_cons_succ, List.getElem_toArray, List.getElem_cons_succ, List.getElem_cons_zero]
  refine wpAnyH_take (i := 2) (v := ?qv2) rfl (by kernel_rfl) (by kernel_rfl) (by kernel_rfl) (fun _ _ _ h => h) (Or.inl ⟨by kernel_rfl, ?qy2⟩) (by assumption) ?_
  case qy2 => (intro w hSw; (try dsimp only at hSw); go_simp) <;> (try with_reducible rfl)
  try simp only [Act.put, List.setIfInBounds_toArray, List.set_cons_zero, List.set_cons_succ, List.getElem_toArray, List.getElem_cons_succ, List.getElem_cons_zero]
  refine wpAnyH_ready (rs := [1]) (by kernel_rfl) (by simp) ?_
  refine AllReadyH.cons rfl (fun K hK => ?_) AllReadyH.nil
  go_simp
  refine (hTo.out _ _ _ _).mono ?_
  rintro e v1 ⟨rfl, hB1⟩
  have hA1 : Below ((w.alloc (.cells #[.int .i64 y, .int .i64 m, .int .i64 d] 23)).alloc (.cells #[.int .i64 p, .int .i64 q, .int .i64 r] 23)).heap.size ((w.alloc (.cells #[.int .i64 y, .int .i64 m, .int .i64 d] 23)).alloc (.cells #[.int .i64 p, .int .i64 q, .int .i64 r] 23)) v1 := (below_drewN (Below.refl _ _) 1).trans (hB1.mono (by first | exact (below_drewN (Below.refl _ _) 1).size | simp))
  refine hK.out _ _ ?hs1a (fun hHeld => ?_)
  case hs1a => (try dsimp only); exact CEL.out _ (hA1)
  clear hK K
  try simp only [Act.put, List.setIfInBounds_toArray, List.set_cons_zero, List.set_cons_succ, List.getElem_toArray, List.getElem_cons_succ, List.getElem_cons_zero]
  refine wpAnyH_ready (rs := [3]) (by kernel_rfl) (by simp) ?_
  refine AllReadyH.cons rfl (fun K hK => ?_) AllReadyH.nil
  go_simp
  refine (hTo.out _ _ _ _).mono ?_
  rintro e v2 ⟨rfl, hB2⟩
  have hA2 : Below ((w.alloc (.cells #[.int .i64 y, .int .i64 m, .int .i64 d] 23)).alloc (.cells #[.int .i64 p, .int .i64 q, .int .i64 r] 23)).heap.size ((w.alloc (.cells #[.int .i64 y, .int .i64 m, .int .i64 d] 23)).alloc (.cells #[.int .i64 p, .int .i64 q, .int .i64 r] 23)) v2 := (hA1).trans (hB2.mono (by first | exact (hA1).size | simp))
  refine hK.out _ _ ?hs3a (fun hHeld => ?_)
  case hs3a => (try dsimp only); exact CEL.out _ (hA2)
  clear hK K
  try simp only [Act.put, List.setIfInBounds_toArray, List.set_cons_zero, List.set_cons_succ, List.getElem_toArray, List.getElem_cons_succ, List.getElem_cons_zero]
  refine wpAnyH_ready (rs := [4]) (by kernel_rfl) (by simp) ?_
  refine AllReadyH.cons rfl (fun K hK => ?_) AllReadyH.nil
  go_simp
  refine (hCm.out _ _ _ _ _ _ _).mono ?_
  rintro e v3 ⟨rfl, hB3⟩
  have hA3 : Below ((w.alloc (.cells #[.int .i64 y, .int .i64 m, .int .i64 d] 23)).alloc (.cells #[.int .i64 p, .int .i64 q, .int .i64 r] 23)).heap.size ((w.alloc (.cells #[.int .i64 y, .int .i64 m, .int .i64 d] 23)).alloc (.cells #[.int .i64 p, .int .i64 q, .int .i64 r] 23)) v3 := (hA2).trans (hB3.mono (by first | exact (hA2).size | simp))
  refine hK.out _ _ ?hs4a (fun hHeld => ?_)
  case hs4a => (try dsimp only); exact CEL.out _ (hA3)
  clear hK K
  try simp only [Act.put, List.setIfInBounds_toArray, List.set_cons_zero, List.set_cons_succ, List.getElem_toArray, List.getElem_cons_succ, List.getElem_cons_zero]
  refine wpAnyH_take (i := 5) (v := ?qv5) rfl (by kernel_rfl) (by kernel_rfl) (by kernel_rfl) (fun _ _ _ h => h) (Or.inl ⟨by kernel_rfl, ?qy5⟩) (by assumption) ?_
  case qy5 => (intro w hSw; (try dsimp only at hSw); go_simp) <;> (try with_reducible rfl)
  try simp only [Act.put, List.setIfInBounds_toArray, List.set_cons_zero, List.set_cons_succ, List.getElem_toArray, List.getElem_cons_succ, List.getElem_cons_zero]
  refine wpAnyH_done (by kernel_rfl) ?_ _
  rw [← hC]
  have HC := Lib.hid hC
  clear hC hB1 hB2 hB3 hA1 hA2 hHeld
  have hcel := CEL.out _ hA3
  have HA3 := Lib.hid hA3
  clear hA3
  obtain ⟨a0, a1, a2, b0, b1, b2⟩ := hcel
  go_upto_block 0 with fail
  go_cut [6] from 16 (fun v wc => v = .int .i64 C ∧ wc = v3)
  case first =>
    by_cases e0 : y = p
    rotate_left
    · have n0 : (y != p) = true := by simpa using e0
      by_cases l0 : y < p
      · have l0' : decide (y < p) = true := by simpa using l0
        have hv : Hid (C = -1) := by
          have h1 := HC.out
          unfold cmp3 at h1
          unfold Hid
          have h2 : Lt3 y m d p q r ∨ ¬ Lt3 y m d p q r := Decidable.em _
          have h3 : Lt3 p q r y m d ∨ ¬ Lt3 p q r y m d := Decidable.em _
          rw [h1]
          rcases h2 with h2 | h2 <;> rcases h3 with h3 | h3 <;> simp only [h2, h3, if_true, if_false] <;> unfold Lt3 at h2 h3 <;> omega
        go_wp2
        go_meet
        exact ⟨by rw [hv.out], rfl⟩
      · have l0' : decide (y < p) = false := by simpa using l0
        have hv : Hid (C = 1) := by
          have h1 := HC.out
          unfold cmp3 at h1
          unfold Hid
          have h2 : Lt3 y m d p q r ∨ ¬ Lt3 y m d p q r := Decidable.em _
          have h3 : Lt3 p q r y m d ∨ ¬ Lt3 p q r y m d := Decidable.em _
          rw [h1]
          rcases h2 with h2 | h2 <;> rcases h3 with h3 | h3 <;> simp only [h2, h3, if_true, if_false] <;> unfold Lt3 at h2 h3 <;> omega
        go_wp2
        go_meet
        exact ⟨by rw [hv.out], rfl⟩
    have n0 : (y != p) = false := by simp [e0]
    have E0 := Lib.hid e0
    clear e0
    by_cases e1 : m = q
    rotate_left
    · have n1 : (m != q) = true := by simpa using e1
      by_cases l1 : m < q
      · have l1' : decide (m < q) = true := by simpa using l1
        have hv : Hid (C = -1) := by
          have h1 := HC.out
          have g0 := E0.out
          unfold cmp3 at h1
          unfold Hid
          have h2 : Lt3 y m d p q r ∨ ¬ Lt3 y m d p q r := Decidable.em _
          have h3 : Lt3 p q r y m d ∨ ¬ Lt3 p q r y m d := Decidable.em _
          rw [h1]
          rcases h2 with h2 | h2 <;> rcases h3 with h3 | h3 <;> simp only [h2, h3, if_true, if_false] <;> unfold Lt3 at h2 h3 <;> omega
        go_wp2
        go_meet
        exact ⟨by rw [hv.out], rfl⟩
      · have l1' : decide (m < q) = false := by simpa using l1
        have hv : Hid (C = 1) := by
          have h1 := HC.out
          have g0 := E0.out
          unfold cmp3 at h1
          unfold Hid
          have h2 : Lt3 y m d p q r ∨ ¬ Lt3 y m d p q r := Decidable.em _
          have h3 : Lt3 p q r y m d ∨ ¬ Lt3 p q r y m d := Decidable.em _
          rw [h1]
          rcases h2 with h2 | h2 <;> rcases h3 with h3 | h3 <;> simp only [h2, h3, if_true, if_false] <;> unfold Lt3 at h2 h3 <;> omega
        go_wp2
        go_meet
        exact ⟨by rw [hv.out], rfl⟩
    have n1 : (m != q) = false := by simp [e1]
    have E1 := Lib.hid e1
    clear e1
    by_cases e2 : d = r
    rotate_left
    · have n2 : (d != r) = true := by simpa using e2
      by_cases l2 : d < r
      · have l2' : decide (d < r) = true := by simpa using l2
        have hv : Hid (C = -1) := by
          have h1 := HC.out
          have g0 := E0.out
          have g1 := E1.out
          unfold cmp3 at h1
          unfold Hid
          have h2 : Lt3 y m d p q r ∨ ¬ Lt3 y m d p q r := Decidable.em _
          have h3 : Lt3 p q r y m d ∨ ¬ Lt3 p q r y m d := Decidable.em _
          rw [h1]
          rcases h2 with h2 | h2 <;> rcases h3 with h3 | h3 <;> simp only [h2, h3, if_true, if_false] <;> unfold Lt3 at h2 h3 <;> omega
        go_wp2
        go_meet
        exact ⟨by rw [hv.out], rfl⟩
      · have l2' : decide (d < r) = false := by simpa using l2
        have hv : Hid (C = 1) := by
          have h1 := HC.out
          have g0 := E0.out
          have g1 := E1.out
          unfold cmp3 at h1
          unfold Hid
          have h2 : Lt3 y m d p q r ∨ ¬ Lt3 y m d p q r := Decidable.em _
          have h3 : Lt3 p q r y m d ∨ ¬ Lt3 p q r y m d := Decidable.em _
          rw [h1]
          rcases h2 with h2 | h2 <;> rcases h3 with h3 | h3 <;> simp only [h2, h3, if_true, if_false] <;> unfold Lt3 at h2 h3 <;> omega
        go_wp2
        go_meet
        exact ⟨by rw [hv.out], rfl⟩
    have n2 : (d != r) = false := by simp [e2]
    have E2 := Lib.hid e2
    clear e2
    have hv : Hid (C = 0) := by
      have h1 := HC.out
      have g0 := E0.out
      have g1 := E1.out
      have g2 := E2.out
      unfold cmp3 at h1
      unfold Hid
      have h2 : Lt3 y m d p q r ∨ ¬ Lt3 y m d p q r := Decidable.em _
      have h3 : Lt3 p q r y m d ∨ ¬ Lt3 p q r y m d := Decidable.em _
      rw [h1]
      rcases h2 with h2 | h2 <;> rcases h3 with h3 | h3 <;> simp only [h2, h3, if_true, if_false] <;> unfold Lt3 at h2 h3 <;> omega
    go_wp2
    go_meet
    exact ⟨by rw [hv.out], rfl⟩
  case rest =>
    obtain ⟨rfl, rfl⟩ := hcut
    have hCb : -1 ≤ C ∧ C ≤ 1 := by
      have h1 := HC.out
      unfold cmp3 at h1
      split at h1
      · omega
      · split at h1 <;> omega
    have hrev : Hid (cmp3 p q r y m d = -C) := by
      have h1 := HC.out
      unfold Hid
      unfold cmp3 at h1 ⊢
      have h2 : Lt3 y m d p q r ∨ ¬ Lt3 y m d p q r := Decidable.em _
      have h3 : Lt3 p q r y m d ∨ ¬ Lt3 p q r y m d := Decidable.em _
      rw [h1]
      rcases h2 with h2 | h2 <;> rcases h3 with h3 | h3 <;> simp only [h2, h3, if_true, if_false] <;> unfold Lt3 at h2 h3 <;> omega
    have wneg : IntKind.i64.wrap (-C) = -C := by simp [IntKind.wrap, IntKind.bits, IntKind.signed]; omega
    by_cases r1 : Rgt y m d
    · have hN1 := Lib.hid (fun W => dtNumberYes y m d W r1)
      have hb1 := num_range r1
      by_cases r2 : Rgt p q r
      · have hN2 := Lib.hid (fun W => dtNumberYes p q r W r2)
        have hb2 := num_range r2
        have hthree : (C = -1 ∧ num y m d < num p q r) ∨ (C = 0 ∧ num y m d = num p q r) ∨ (C = 1 ∧ num p q r < num y m d) := by
          have h1 := HC.out
          unfold cmp3 at h1
          by_cases h2 : Lt3 y m d p q r
          · rw [if_pos h2] at h1; left; exact ⟨h1, num_lt r1 r2 h2⟩
          · rw [if_neg h2] at h1
            by_cases h3 : Lt3 p q r y m d
            · rw [if_pos h3] at h1; right; right; exact ⟨h1, num_lt r2 r1 h3⟩
            · rw [if_neg h3] at h1; right; left
              refine ⟨h1, ?_⟩
              rcases lt3_total y m d p q r with h4 | h4 | h4
              · exact absurd h4 h2
              · obtain ⟨rfl, rfl, rfl⟩ := h4; rfl
              · exact absurd h4 h3
        unfold dv at hN1 hN2
        clear r1 r2
        generalize num y m d = N at *
        generalize num p q r = M at *
        rcases hthree with ⟨hc, h⟩ | ⟨hc, h⟩ | ⟨hc, h⟩
        · have d1 : decide (N < M) = true := by simpa using h
          have d2 : (N == M) = false := by simp; omega
          subst hc
          go_wp2_with fail
          refine (hTo.out _ _ _ _).mono ?_
          rintro e v4 ⟨rfl, hB4⟩
          have HA4 := Lib.hid (HA3.out.trans (hB4.mono HA3.out.size))
          clear hB4 a0 a1 a2 b0 b1 b2 HA3
          obtain ⟨a0, a1, a2, b0, b1, b2⟩ := CEL.out _ HA4.out
          go_wp2_with fail
          refine (hN1.out _).mono ?_
          rintro e v5 ⟨rfl, hB5⟩
          have HA5 := Lib.hid (HA4.out.trans (hB5.mono HA4.out.size))
          clear hB5 a0 a1 a2 b0 b1 b2 HA4
          obtain ⟨a0, a1, a2, b0, b1, b2⟩ := CEL.out _ HA5.out
          go_wp2_with fail
          refine (hTo.out _ _ _ _).mono ?_
          rintro e v6 ⟨rfl, hB6⟩
          have HA6 := Lib.hid (HA5.out.trans (hB6.mono HA5.out.size))
          clear hB6 a0 a1 a2 b0 b1 b2 HA5
          obtain ⟨a0, a1, a2, b0, b1, b2⟩ := CEL.out _ HA6.out
          go_wp2_with fail
          refine (hN2.out _).mono ?_
          rintro e v7 ⟨rfl, hB7⟩
          have HA7 := Lib.hid (HA6.out.trans (hB7.mono HA6.out.size))
          clear hB7 a0 a1 a2 b0 b1 b2 HA6
          go_upto_region 19 with fail
          refine wp_region_held_drew (S := fun w' => w'.cell? ⟨w.heap.size, 0, none⟩ = some (.int .i64 y) ∧ w'.cell? ⟨w.heap.size, 1, none⟩ = some (.int .i64 m) ∧ w'.cell? ⟨w.heap.size, 2, none⟩ = some (.int .i64 d) ∧ w'.cell? ⟨w.heap.size + 1, 0, none⟩ = some (.int .i64 p) ∧ w'.cell? ⟨w.heap.size + 1, 1, none⟩ = some (.int .i64 q) ∧ w'.cell? ⟨w.heap.size + 1, 2, none⟩ = some (.int .i64 r)) (by kernel_rfl) ?hb0t1 (fun hHeld => ?_)
          case hb0t1 => (try dsimp only); exact CEL.out _ (below_drewN HA7.out 1)
          refine wpAnyH_ready (rs := [0]) (by kernel_rfl) (by simp) ?_
          refine AllReadyH.cons rfl (fun K hK => ?_) AllReadyH.nil
          go_simp
          refine (hKn.out _).mono ?_
          rintro e v8 ⟨rfl, hB8⟩
          have hA8 : Below ((w.alloc (.cells #[.int .i64 y, .int .i64 m, .int .i64 d] 23)).alloc (.cells #[.int .i64 p, .int .i64 q, .int .i64 r] 23)).heap.size ((w.alloc (.cells #[.int .i64 y, .int .i64 m, .int .i64 d] 23)).alloc (.cells #[.int .i64 p, .int .i64 q, .int .i64 r] 23)) v8 := (below_drewN HA7.out 1).trans (hB8.mono (below_drewN HA7.out 1).size)
          refine hK.out _ _ ?hs0t1a (fun hHeld => ?_)
          case hs0t1a => (try dsimp only); exact CEL.out _ (hA8)
          clear hK K
          try simp only [Act.put, List.setIfInBounds_toArray, List.set_cons_zero, List.set_cons_succ, List.getElem_toArray, List.getElem_cons_succ, List.getElem_cons_zero]
          refine wpAnyH_take (i := 1) (v := ?qv1t1) rfl (by kernel_rfl) (by kernel_rfl) (by kernel_rfl) (fun _ _ _ h => h) (Or.inl ⟨by kernel_rfl, ?qy1t1⟩) (by assumption) ?_
          case qy1t1 => (intro w hSw; (try dsimp only at hSw); go_simp) <;> (try with_reducible rfl)
          try simp only [Act.put, List.setIfInBounds_toArray, List.set_cons_zero, List.set_cons_succ, List.getElem_toArray, List.getElem_cons_succ, List.getElem_cons_zero]
          refine wpAnyH_take (i := 2) (v := ?qv2t1) rfl (by kernel_rfl) (by kernel_rfl) (by kernel_rfl) (fun _ _ _ h => h) (Or.inl ⟨by kernel_rfl, ?qy2t1⟩) (by assumption) ?_
          case qy2t1 => (intro w hSw; (try dsimp only at hSw); go_simp) <;> (try with_reducible rfl)
          try simp only [Act.put, List.setIfInBounds_toArray, List.set_cons_zero, List.set_cons_succ, List.getElem_toArray, List.getElem_cons_succ, List.getElem_cons_zero]
          refine wpAnyH_take (i := 3) (v := ?qv3t1) rfl (by kernel_rfl) (by kernel_rfl) (by kernel_rfl) (fun _ _ _ h => h) (Or.inl ⟨by kernel_rfl, ?qy3t1⟩) (by assumption) ?_
          case qy3t1 => (intro w hSw; (try dsimp only at hSw); go_simp) <;> (try with_reducible rfl)
          try simp only [Act.put, List.setIfInBounds_toArray, List.set_cons_zero, List.set_cons_succ, List.getElem_toArray, List.getElem_cons_succ, List.getElem_cons_zero]
          refine wpAnyH_take (i := 4) (v := ?qv4t1) rfl (by kernel_rfl) (by kernel_rfl) (by kernel_rfl) (fun _ _ _ h => h) (Or.inl ⟨by kernel_rfl, ?qy4t1⟩) (by assumption) ?_
          case qy4t1 => (intro w hSw; (try dsimp only at hSw); go_simp) <;> (try with_reducible rfl)
          try simp only [Act.put, List.setIfInBounds_toArray, List.set_cons_zero, List.set_cons_succ, List.getElem_toArray, List.getElem_cons_succ, List.getElem_cons_zero]
          refine wpAnyH_take (i := 5) (v := ?qv5t1) rfl (by kernel_rfl) (by kernel_rfl) (by kernel_rfl) (fun _ _ _ h => h) (Or.inl ⟨by kernel_rfl, ?qy5t1⟩) (by assumption) ?_
          case qy5t1 => (intro w hSw; (try dsimp only at hSw); go_simp) <;> (try with_reducible rfl)
          try simp only [Act.put, List.setIfInBounds_toArray, List.set_cons_zero, List.set_cons_succ, List.getElem_toArray, List.getElem_cons_succ, List.getElem_cons_zero]
          refine wpAnyH_take (i := 6) (v := ?qv6t1) rfl (by kernel_rfl) (by kernel_rfl) (by kernel_rfl) (fun _ _ _ h => h) (Or.inl ⟨by kernel_rfl, ?qy6t1⟩) (by assumption) ?_
          case qy6t1 => (intro w hSw; (try dsimp only at hSw); go_simp) <;> (try with_reducible rfl)
          try simp only [Act.put, List.setIfInBounds_toArray, List.set_cons_zero, List.set_cons_succ, List.getElem_toArray, List.getElem_cons_succ, List.getElem_cons_zero]
          refine wpAnyH_take (i := 7) (v := ?qv7t1) rfl (by kernel_rfl) (by kernel_rfl) (by kernel_rfl) (fun _ _ _ h => h) (Or.inl ⟨by kernel_rfl, ?qy7t1⟩) (by assumption) ?_
          case qy7t1 => (intro w hSw; (try dsimp only at hSw); go_simp) <;> (try with_reducible rfl)
          try simp only [Act.put, List.setIfInBounds_toArray, List.set_cons_zero, List.set_cons_succ, List.getElem_toArray, List.getElem_cons_succ, List.getElem_cons_zero]
          refine wpAnyH_take (i := 9) (v := ?qv9t1) rfl (by kernel_rfl) (by kernel_rfl) (by kernel_rfl) (fun _ _ _ h => h) (Or.inl ⟨by kernel_rfl, ?qy9t1⟩) (by assumption) ?_
          case qy9t1 => (intro w hSw; (try dsimp only at hSw); go_simp) <;> (try with_reducible rfl)
          try simp only [Act.put, List.setIfInBounds_toArray, List.set_cons_zero, List.set_cons_succ, List.getElem_toArray, List.getElem_cons_succ, List.getElem_cons_zero]
          refine wpAnyH_take (i := 12) (v := ?qv12t1) rfl (by kernel_rfl) (by kernel_rfl) (by kernel_rfl) (fun _ _ _ h => h) (Or.inl ⟨by kernel_rfl, ?qy12t1⟩) (by assumption) ?_
          case qy12t1 => (intro w hSw; (try dsimp only at hSw); go_simp) <;> (try with_reducible rfl)
          try simp only [Act.put, List.setIfInBounds_toArray, List.set_cons_zero, List.set_cons_succ, List.getElem_toArray, List.getElem_cons_succ, List.getElem_cons_zero]
          refine wpAnyH_take (i := 13) (v := ?qv13t1) rfl (by kernel_rfl) (by kernel_rfl) (by kernel_rfl) (fun _ _ _ h => h) (Or.inl ⟨by kernel_rfl, ?qy13t1⟩) (by assumption) ?_
          case qy13t1 => (intro w hSw; (try dsimp only at hSw); go_simp) <;> (try with_reducible rfl)
          try simp only [Act.put, List.setIfInBounds_toArray, List.set_cons_zero, List.set_cons_succ, List.getElem_toArray, List.getElem_cons_succ, List.getElem_cons_zero]
          refine wpAnyH_ready (rs := [8]) (by kernel_rfl) (by simp) ?_
          refine AllReadyH.cons rfl (fun K hK => ?_) AllReadyH.nil
          go_simp
          refine (hTo.out _ _ _ _).mono ?_
          rintro e v9 ⟨rfl, hB9⟩
          have hA9 : Below ((w.alloc (.cells #[.int .i64 y, .int .i64 m, .int .i64 d] 23)).alloc (.cells #[.int .i64 p, .int .i64 q, .int .i64 r] 23)).heap.size ((w.alloc (.cells #[.int .i64 y, .int .i64 m, .int .i64 d] 23)).alloc (.cells #[.int .i64 p, .int .i64 q, .int .i64 r] 23)) v9 := (hA8).trans (hB9.mono (hA8).size)
          refine hK.out _ _ ?hs8t1a (fun hHeld => ?_)
          case hs8t1a => (try dsimp only); exact CEL.out _ (hA9)
          clear hK K
          try simp only [Act.put, List.setIfInBounds_toArray, List.set_cons_zero, List.set_cons_succ, List.getElem_toArray, List.getElem_cons_succ, List.getElem_cons_zero]
          refine wpAnyH_ready (rs := [10]) (by kernel_rfl) (by simp) ?_
          refine AllReadyH.cons rfl (fun K hK => ?_) AllReadyH.nil
          go_simp
          refine (hTo.out _ _ _ _).mono ?_
          rintro e v10 ⟨rfl, hB10⟩
          have hA10 : Below ((w.alloc (.cells #[.int .i64 y, .int .i64 m, .int .i64 d] 23)).alloc (.cells #[.int .i64 p, .int .i64 q, .int .i64 r] 23)).heap.size ((w.alloc (.cells #[.int .i64 y, .int .i64 m, .int .i64 d] 23)).alloc (.cells #[.int .i64 p, .int .i64 q, .int .i64 r] 23)) v10 := (hA9).trans (hB10.mono (hA9).size)
          refine hK.out _ _ ?hs10t1a (fun hHeld => ?_)
          case hs10t1a => (try dsimp only); exact CEL.out _ (hA10)
          clear hK K
          try simp only [Act.put, List.setIfInBounds_toArray, List.set_cons_zero, List.set_cons_succ, List.getElem_toArray, List.getElem_cons_succ, List.getElem_cons_zero]
          refine wpAnyH_ready (rs := [11]) (by kernel_rfl) (by simp) ?_
          refine AllReadyH.cons rfl (fun K hK => ?_) AllReadyH.nil
          go_simp
          refine (hCm.out p q r y m d _).mono ?_
          rintro e v11 ⟨rfl, hB11⟩
          have hA11 : Below ((w.alloc (.cells #[.int .i64 y, .int .i64 m, .int .i64 d] 23)).alloc (.cells #[.int .i64 p, .int .i64 q, .int .i64 r] 23)).heap.size ((w.alloc (.cells #[.int .i64 y, .int .i64 m, .int .i64 d] 23)).alloc (.cells #[.int .i64 p, .int .i64 q, .int .i64 r] 23)) v11 := (hA10).trans (hB11.mono (hA10).size)
          rw [hrev.out]
          refine hK.out _ _ ?hs11t1a (fun hHeld => ?_)
          case hs11t1a => (try dsimp only); exact CEL.out _ (hA11)
          clear hK K
          try simp only [Act.put, List.setIfInBounds_toArray, List.set_cons_zero, List.set_cons_succ, List.getElem_toArray, List.getElem_cons_succ, List.getElem_cons_zero]
          refine wpAnyH_take (i := 14) (v := ?qv14t1) rfl (by kernel_rfl) (by kernel_rfl) (by kernel_rfl) (fun _ _ _ h => h) (Or.inl ⟨by kernel_rfl, ?qy14t1⟩) (by assumption) ?_
          case qy14t1 => (intro w hSw; (try dsimp only at hSw); go_simp) <;> (try with_reducible rfl)
          try simp only [Act.put, List.setIfInBounds_toArray, List.set_cons_zero, List.set_cons_succ, List.getElem_toArray, List.getElem_cons_succ, List.getElem_cons_zero]
          refine wpAnyH_take (i := 15) (v := ?qv15t1) rfl (by kernel_rfl) (by kernel_rfl) (by kernel_rfl) (fun _ _ _ h => h) (Or.inl ⟨by kernel_rfl, ?qy15t1⟩) (by assumption) ?_
          case qy15t1 => (intro w hSw; (try dsimp only at hSw); go_simp) <;> (try with_reducible rfl)
          try simp only [Act.put, List.setIfInBounds_toArray, List.set_cons_zero, List.set_cons_succ, List.getElem_toArray, List.getElem_cons_succ, List.getElem_cons_zero]
          refine wpAnyH_take (i := 16) (v := ?qv16t1) rfl (by kernel_rfl) (by kernel_rfl) (by kernel_rfl) (fun _ _ _ h => h) (Or.inl ⟨by kernel_rfl, ?qy16t1⟩) (by assumption) ?_
          case qy16t1 => (intro w hSw; (try dsimp only at hSw); go_simp) <;> (try with_reducible rfl)
          try simp only [Act.put, List.setIfInBounds_toArray, List.set_cons_zero, List.set_cons_succ, List.getElem_toArray, List.getElem_cons_succ, List.getElem_cons_zero]
          refine wpAnyH_done (by kernel_rfl) ?_ _
          go_wp2
          go_ret
          exact ⟨rfl, HB.out.trans (hA11.mono HB.out.size)⟩
        · have d1 : decide (N < N) = false := by simp
          subst hc
          subst h
          go_wp2_with fail
          refine (hTo.out _ _ _ _).mono ?_
          rintro e v4 ⟨rfl, hB4⟩
          have HA4 := Lib.hid (HA3.out.trans (hB4.mono HA3.out.size))
          clear hB4 a0 a1 a2 b0 b1 b2 HA3
          obtain ⟨a0, a1, a2, b0, b1, b2⟩ := CEL.out _ HA4.out
          go_wp2_with fail
          refine (hN1.out _).mono ?_
          rintro e v5 ⟨rfl, hB5⟩
          have HA5 := Lib.hid (HA4.out.trans (hB5.mono HA4.out.size))
          clear hB5 a0 a1 a2 b0 b1 b2 HA4
          obtain ⟨a0, a1, a2, b0, b1, b2⟩ := CEL.out _ HA5.out
          go_wp2_with fail
          refine (hTo.out _ _ _ _).mono ?_
          rintro e v6 ⟨rfl, hB6⟩
          have HA6 := Lib.hid (HA5.out.trans (hB6.mono HA5.out.size))
          clear hB6 a0 a1 a2 b0 b1 b2 HA5
          obtain ⟨a0, a1, a2, b0, b1, b2⟩ := CEL.out _ HA6.out
          go_wp2_with fail
          refine (hN2.out _).mono ?_
          rintro e v7 ⟨rfl, hB7⟩
          have HA7 := Lib.hid (HA6.out.trans (hB7.mono HA6.out.size))
          clear hB7 a0 a1 a2 b0 b1 b2 HA6
          go_upto_region 19 with fail
          refine wp_region_held_drew (S := fun w' => w'.cell? ⟨w.heap.size, 0, none⟩ = some (.int .i64 y) ∧ w'.cell? ⟨w.heap.size, 1, none⟩ = some (.int .i64 m) ∧ w'.cell? ⟨w.heap.size, 2, none⟩ = some (.int .i64 d) ∧ w'.cell? ⟨w.heap.size + 1, 0, none⟩ = some (.int .i64 p) ∧ w'.cell? ⟨w.heap.size + 1, 1, none⟩ = some (.int .i64 q) ∧ w'.cell? ⟨w.heap.size + 1, 2, none⟩ = some (.int .i64 r)) (by kernel_rfl) ?hb0t2 (fun hHeld => ?_)
          case hb0t2 => (try dsimp only); exact CEL.out _ (below_drewN HA7.out 1)
          refine wpAnyH_ready (rs := [0]) (by kernel_rfl) (by simp) ?_
          refine AllReadyH.cons rfl (fun K hK => ?_) AllReadyH.nil
          go_simp
          refine (hKn.out _).mono ?_
          rintro e v8 ⟨rfl, hB8⟩
          have hA8 : Below ((w.alloc (.cells #[.int .i64 y, .int .i64 m, .int .i64 d] 23)).alloc (.cells #[.int .i64 p, .int .i64 q, .int .i64 r] 23)).heap.size ((w.alloc (.cells #[.int .i64 y, .int .i64 m, .int .i64 d] 23)).alloc (.cells #[.int .i64 p, .int .i64 q, .int .i64 r] 23)) v8 := (below_drewN HA7.out 1).trans (hB8.mono (below_drewN HA7.out 1).size)
          refine hK.out _ _ ?hs0t2a (fun hHeld => ?_)
          case hs0t2a => (try dsimp only); exact CEL.out _ (hA8)
          clear hK K
          try simp only [Act.put, List.setIfInBounds_toArray, List.set_cons_zero, List.set_cons_succ, List.getElem_toArray, List.getElem_cons_succ, List.getElem_cons_zero]
          refine wpAnyH_take (i := 1) (v := ?qv1t2) rfl (by kernel_rfl) (by kernel_rfl) (by kernel_rfl) (fun _ _ _ h => h) (Or.inl ⟨by kernel_rfl, ?qy1t2⟩) (by assumption) ?_
          case qy1t2 => (intro w hSw; (try dsimp only at hSw); go_simp) <;> (try with_reducible rfl)
          try simp only [Act.put, List.setIfInBounds_toArray, List.set_cons_zero, List.set_cons_succ, List.getElem_toArray, List.getElem_cons_succ, List.getElem_cons_zero]
          refine wpAnyH_take (i := 2) (v := ?qv2t2) rfl (by kernel_rfl) (by kernel_rfl) (by kernel_rfl) (fun _ _ _ h => h) (Or.inl ⟨by kernel_rfl, ?qy2t2⟩) (by assumption) ?_
          case qy2t2 => (intro w hSw; (try dsimp only at hSw); go_simp) <;> (try with_reducible rfl)
          try simp only [Act.put, List.setIfInBounds_toArray, List.set_cons_zero, List.set_cons_succ, List.getElem_toArray, List.getElem_cons_succ, List.getElem_cons_zero]
          refine wpAnyH_take (i := 3) (v := ?qv3t2) rfl (by kernel_rfl) (by kernel_rfl) (by kernel_rfl) (fun _ _ _ h => h) (Or.inl ⟨by kernel_rfl, ?qy3t2⟩) (by assumption) ?_
          case qy3t2 => (intro w hSw; (try dsimp only at hSw); go_simp) <;> (try with_reducible rfl)
          try simp only [Act.put, List.setIfInBounds_toArray, List.set_cons_zero, List.set_cons_succ, List.getElem_toArray, List.getElem_cons_succ, List.getElem_cons_zero]
          refine wpAnyH_take (i := 4) (v := ?qv4t2) rfl (by kernel_rfl) (by kernel_rfl) (by kernel_rfl) (fun _ _ _ h => h) (Or.inl ⟨by kernel_rfl, ?qy4t2⟩) (by assumption) ?_
          case qy4t2 => (intro w hSw; (try dsimp only at hSw); go_simp) <;> (try with_reducible rfl)
          try simp only [Act.put, List.setIfInBounds_toArray, List.set_cons_zero, List.set_cons_succ, List.getElem_toArray, List.getElem_cons_succ, List.getElem_cons_zero]
          refine wpAnyH_take (i := 5) (v := ?qv5t2) rfl (by kernel_rfl) (by kernel_rfl) (by kernel_rfl) (fun _ _ _ h => h) (Or.inl ⟨by kernel_rfl, ?qy5t2⟩) (by assumption) ?_
          case qy5t2 => (intro w hSw; (try dsimp only at hSw); go_simp) <;> (try with_reducible rfl)
          try simp only [Act.put, List.setIfInBounds_toArray, List.set_cons_zero, List.set_cons_succ, List.getElem_toArray, List.getElem_cons_succ, List.getElem_cons_zero]
          refine wpAnyH_take (i := 6) (v := ?qv6t2) rfl (by kernel_rfl) (by kernel_rfl) (by kernel_rfl) (fun _ _ _ h => h) (Or.inl ⟨by kernel_rfl, ?qy6t2⟩) (by assumption) ?_
          case qy6t2 => (intro w hSw; (try dsimp only at hSw); go_simp) <;> (try with_reducible rfl)
          try simp only [Act.put, List.setIfInBounds_toArray, List.set_cons_zero, List.set_cons_succ, List.getElem_toArray, List.getElem_cons_succ, List.getElem_cons_zero]
          refine wpAnyH_take (i := 7) (v := ?qv7t2) rfl (by kernel_rfl) (by kernel_rfl) (by kernel_rfl) (fun _ _ _ h => h) (Or.inl ⟨by kernel_rfl, ?qy7t2⟩) (by assumption) ?_
          case qy7t2 => (intro w hSw; (try dsimp only at hSw); go_simp) <;> (try with_reducible rfl)
          try simp only [Act.put, List.setIfInBounds_toArray, List.set_cons_zero, List.set_cons_succ, List.getElem_toArray, List.getElem_cons_succ, List.getElem_cons_zero]
          refine wpAnyH_take (i := 9) (v := ?qv9t2) rfl (by kernel_rfl) (by kernel_rfl) (by kernel_rfl) (fun _ _ _ h => h) (Or.inl ⟨by kernel_rfl, ?qy9t2⟩) (by assumption) ?_
          case qy9t2 => (intro w hSw; (try dsimp only at hSw); go_simp) <;> (try with_reducible rfl)
          try simp only [Act.put, List.setIfInBounds_toArray, List.set_cons_zero, List.set_cons_succ, List.getElem_toArray, List.getElem_cons_succ, List.getElem_cons_zero]
          refine wpAnyH_take (i := 12) (v := ?qv12t2) rfl (by kernel_rfl) (by kernel_rfl) (by kernel_rfl) (fun _ _ _ h => h) (Or.inl ⟨by kernel_rfl, ?qy12t2⟩) (by assumption) ?_
          case qy12t2 => (intro w hSw; (try dsimp only at hSw); go_simp) <;> (try with_reducible rfl)
          try simp only [Act.put, List.setIfInBounds_toArray, List.set_cons_zero, List.set_cons_succ, List.getElem_toArray, List.getElem_cons_succ, List.getElem_cons_zero]
          refine wpAnyH_take (i := 13) (v := ?qv13t2) rfl (by kernel_rfl) (by kernel_rfl) (by kernel_rfl) (fun _ _ _ h => h) (Or.inl ⟨by kernel_rfl, ?qy13t2⟩) (by assumption) ?_
          case qy13t2 => (intro w hSw; (try dsimp only at hSw); go_simp) <;> (try with_reducible rfl)
          try simp only [Act.put, List.setIfInBounds_toArray, List.set_cons_zero, List.set_cons_succ, List.getElem_toArray, List.getElem_cons_succ, List.getElem_cons_zero]
          refine wpAnyH_ready (rs := [8]) (by kernel_rfl) (by simp) ?_
          refine AllReadyH.cons rfl (fun K hK => ?_) AllReadyH.nil
          go_simp
          refine (hTo.out _ _ _ _).mono ?_
          rintro e v9 ⟨rfl, hB9⟩
          have hA9 : Below ((w.alloc (.cells #[.int .i64 y, .int .i64 m, .int .i64 d] 23)).alloc (.cells #[.int .i64 p, .int .i64 q, .int .i64 r] 23)).heap.size ((w.alloc (.cells #[.int .i64 y, .int .i64 m, .int .i64 d] 23)).alloc (.cells #[.int .i64 p, .int .i64 q, .int .i64 r] 23)) v9 := (hA8).trans (hB9.mono (hA8).size)
          refine hK.out _ _ ?hs8t2a (fun hHeld => ?_)
          case hs8t2a => (try dsimp only); exact CEL.out _ (hA9)
          clear hK K
          try simp only [Act.put, List.setIfInBounds_toArray, List.set_cons_zero, List.set_cons_succ, List.getElem_toArray, List.getElem_cons_succ, List.getElem_cons_zero]
          refine wpAnyH_ready (rs := [10]) (by kernel_rfl) (by simp) ?_
          refine AllReadyH.cons rfl (fun K hK => ?_) AllReadyH.nil
          go_simp
          refine (hTo.out _ _ _ _).mono ?_
          rintro e v10 ⟨rfl, hB10⟩
          have hA10 : Below ((w.alloc (.cells #[.int .i64 y, .int .i64 m, .int .i64 d] 23)).alloc (.cells #[.int .i64 p, .int .i64 q, .int .i64 r] 23)).heap.size ((w.alloc (.cells #[.int .i64 y, .int .i64 m, .int .i64 d] 23)).alloc (.cells #[.int .i64 p, .int .i64 q, .int .i64 r] 23)) v10 := (hA9).trans (hB10.mono (hA9).size)
          refine hK.out _ _ ?hs10t2a (fun hHeld => ?_)
          case hs10t2a => (try dsimp only); exact CEL.out _ (hA10)
          clear hK K
          try simp only [Act.put, List.setIfInBounds_toArray, List.set_cons_zero, List.set_cons_succ, List.getElem_toArray, List.getElem_cons_succ, List.getElem_cons_zero]
          refine wpAnyH_ready (rs := [11]) (by kernel_rfl) (by simp) ?_
          refine AllReadyH.cons rfl (fun K hK => ?_) AllReadyH.nil
          go_simp
          refine (hCm.out p q r y m d _).mono ?_
          rintro e v11 ⟨rfl, hB11⟩
          have hA11 : Below ((w.alloc (.cells #[.int .i64 y, .int .i64 m, .int .i64 d] 23)).alloc (.cells #[.int .i64 p, .int .i64 q, .int .i64 r] 23)).heap.size ((w.alloc (.cells #[.int .i64 y, .int .i64 m, .int .i64 d] 23)).alloc (.cells #[.int .i64 p, .int .i64 q, .int .i64 r] 23)) v11 := (hA10).trans (hB11.mono (hA10).size)
          rw [hrev.out]
          refine hK.out _ _ ?hs11t2a (fun hHeld => ?_)
          case hs11t2a => (try dsimp only); exact CEL.out _ (hA11)
          clear hK K
          try simp only [Act.put, List.setIfInBounds_toArray, List.set_cons_zero, List.set_cons_succ, List.getElem_toArray, List.getElem_cons_succ, List.getElem_cons_zero]
          refine wpAnyH_take (i := 14) (v := ?qv14t2) rfl (by kernel_rfl) (by kernel_rfl) (by kernel_rfl) (fun _ _ _ h => h) (Or.inl ⟨by kernel_rfl, ?qy14t2⟩) (by assumption) ?_
          case qy14t2 => (intro w hSw; (try dsimp only at hSw); go_simp) <;> (try with_reducible rfl)
          try simp only [Act.put, List.setIfInBounds_toArray, List.set_cons_zero, List.set_cons_succ, List.getElem_toArray, List.getElem_cons_succ, List.getElem_cons_zero]
          refine wpAnyH_take (i := 15) (v := ?qv15t2) rfl (by kernel_rfl) (by kernel_rfl) (by kernel_rfl) (fun _ _ _ h => h) (Or.inl ⟨by kernel_rfl, ?qy15t2⟩) (by assumption) ?_
          case qy15t2 => (intro w hSw; (try dsimp only at hSw); go_simp) <;> (try with_reducible rfl)
          try simp only [Act.put, List.setIfInBounds_toArray, List.set_cons_zero, List.set_cons_succ, List.getElem_toArray, List.getElem_cons_succ, List.getElem_cons_zero]
          refine wpAnyH_take (i := 16) (v := ?qv16t2) rfl (by kernel_rfl) (by kernel_rfl) (by kernel_rfl) (fun _ _ _ h => h) (Or.inl ⟨by kernel_rfl, ?qy16t2⟩) (by assumption) ?_
          case qy16t2 => (intro w hSw; (try dsimp only at hSw); go_simp) <;> (try with_reducible rfl)
          try simp only [Act.put, List.setIfInBounds_toArray, List.set_cons_zero, List.set_cons_succ, List.getElem_toArray, List.getElem_cons_succ, List.getElem_cons_zero]
          refine wpAnyH_done (by kernel_rfl) ?_ _
          go_wp2
          go_ret
          exact ⟨rfl, HB.out.trans (hA11.mono HB.out.size)⟩
        · have d1 : decide (N < M) = false := by simp; omega
          have d2 : (N == M) = false := by simp; omega
          subst hc
          go_wp2_with fail
          refine (hTo.out _ _ _ _).mono ?_
          rintro e v4 ⟨rfl, hB4⟩
          have HA4 := Lib.hid (HA3.out.trans (hB4.mono HA3.out.size))
          clear hB4 a0 a1 a2 b0 b1 b2 HA3
          obtain ⟨a0, a1, a2, b0, b1, b2⟩ := CEL.out _ HA4.out
          go_wp2_with fail
          refine (hN1.out _).mono ?_
          rintro e v5 ⟨rfl, hB5⟩
          have HA5 := Lib.hid (HA4.out.trans (hB5.mono HA4.out.size))
          clear hB5 a0 a1 a2 b0 b1 b2 HA4
          obtain ⟨a0, a1, a2, b0, b1, b2⟩ := CEL.out _ HA5.out
          go_wp2_with fail
          refine (hTo.out _ _ _ _).mono ?_
          rintro e v6 ⟨rfl, hB6⟩
          have HA6 := Lib.hid (HA5.out.trans (hB6.mono HA5.out.size))
          clear hB6 a0 a1 a2 b0 b1 b2 HA5
          obtain ⟨a0, a1, a2, b0, b1, b2⟩ := CEL.out _ HA6.out
          go_wp2_with fail
          refine (hN2.out _).mono ?_
          rintro e v7 ⟨rfl, hB7⟩
          have HA7 := Lib.hid (HA6.out.trans (hB7.mono HA6.out.size))
          clear hB7 a0 a1 a2 b0 b1 b2 HA6
          go_upto_region 19 with fail
          refine wp_region_held_drew (S := fun w' => w'.cell? ⟨w.heap.size, 0, none⟩ = some (.int .i64 y) ∧ w'.cell? ⟨w.heap.size, 1, none⟩ = some (.int .i64 m) ∧ w'.cell? ⟨w.heap.size, 2, none⟩ = some (.int .i64 d) ∧ w'.cell? ⟨w.heap.size + 1, 0, none⟩ = some (.int .i64 p) ∧ w'.cell? ⟨w.heap.size + 1, 1, none⟩ = some (.int .i64 q) ∧ w'.cell? ⟨w.heap.size + 1, 2, none⟩ = some (.int .i64 r)) (by kernel_rfl) ?hb0t3 (fun hHeld => ?_)
          case hb0t3 => (try dsimp only); exact CEL.out _ (below_drewN HA7.out 1)
          refine wpAnyH_ready (rs := [0]) (by kernel_rfl) (by simp) ?_
          refine AllReadyH.cons rfl (fun K hK => ?_) AllReadyH.nil
          go_simp
          refine (hKn.out _).mono ?_
          rintro e v8 ⟨rfl, hB8⟩
          have hA8 : Below ((w.alloc (.cells #[.int .i64 y, .int .i64 m, .int .i64 d] 23)).alloc (.cells #[.int .i64 p, .int .i64 q, .int .i64 r] 23)).heap.size ((w.alloc (.cells #[.int .i64 y, .int .i64 m, .int .i64 d] 23)).alloc (.cells #[.int .i64 p, .int .i64 q, .int .i64 r] 23)) v8 := (below_drewN HA7.out 1).trans (hB8.mono (below_drewN HA7.out 1).size)
          refine hK.out _ _ ?hs0t3a (fun hHeld => ?_)
          case hs0t3a => (try dsimp only); exact CEL.out _ (hA8)
          clear hK K
          try simp only [Act.put, List.setIfInBounds_toArray, List.set_cons_zero, List.set_cons_succ, List.getElem_toArray, List.getElem_cons_succ, List.getElem_cons_zero]
          refine wpAnyH_take (i := 1) (v := ?qv1t3) rfl (by kernel_rfl) (by kernel_rfl) (by kernel_rfl) (fun _ _ _ h => h) (Or.inl ⟨by kernel_rfl, ?qy1t3⟩) (by assumption) ?_
          case qy1t3 => (intro w hSw; (try dsimp only at hSw); go_simp) <;> (try with_reducible rfl)
          try simp only [Act.put, List.setIfInBounds_toArray, List.set_cons_zero, List.set_cons_succ, List.getElem_toArray, List.getElem_cons_succ, List.getElem_cons_zero]
          refine wpAnyH_take (i := 2) (v := ?qv2t3) rfl (by kernel_rfl) (by kernel_rfl) (by kernel_rfl) (fun _ _ _ h => h) (Or.inl ⟨by kernel_rfl, ?qy2t3⟩) (by assumption) ?_
          case qy2t3 => (intro w hSw; (try dsimp only at hSw); go_simp) <;> (try with_reducible rfl)
          try simp only [Act.put, List.setIfInBounds_toArray, List.set_cons_zero, List.set_cons_succ, List.getElem_toArray, List.getElem_cons_succ, List.getElem_cons_zero]
          refine wpAnyH_take (i := 3) (v := ?qv3t3) rfl (by kernel_rfl) (by kernel_rfl) (by kernel_rfl) (fun _ _ _ h => h) (Or.inl ⟨by kernel_rfl, ?qy3t3⟩) (by assumption) ?_
          case qy3t3 => (intro w hSw; (try dsimp only at hSw); go_simp) <;> (try with_reducible rfl)
          try simp only [Act.put, List.setIfInBounds_toArray, List.set_cons_zero, List.set_cons_succ, List.getElem_toArray, List.getElem_cons_succ, List.getElem_cons_zero]
          refine wpAnyH_take (i := 4) (v := ?qv4t3) rfl (by kernel_rfl) (by kernel_rfl) (by kernel_rfl) (fun _ _ _ h => h) (Or.inl ⟨by kernel_rfl, ?qy4t3⟩) (by assumption) ?_
          case qy4t3 => (intro w hSw; (try dsimp only at hSw); go_simp) <;> (try with_reducible rfl)
          try simp only [Act.put, List.setIfInBounds_toArray, List.set_cons_zero, List.set_cons_succ, List.getElem_toArray, List.getElem_cons_succ, List.getElem_cons_zero]
          refine wpAnyH_take (i := 5) (v := ?qv5t3) rfl (by kernel_rfl) (by kernel_rfl) (by kernel_rfl) (fun _ _ _ h => h) (Or.inl ⟨by kernel_rfl, ?qy5t3⟩) (by assumption) ?_
          case qy5t3 => (intro w hSw; (try dsimp only at hSw); go_simp) <;> (try with_reducible rfl)
          try simp only [Act.put, List.setIfInBounds_toArray, List.set_cons_zero, List.set_cons_succ, List.getElem_toArray, List.getElem_cons_succ, List.getElem_cons_zero]
          refine wpAnyH_take (i := 6) (v := ?qv6t3) rfl (by kernel_rfl) (by kernel_rfl) (by kernel_rfl) (fun _ _ _ h => h) (Or.inl ⟨by kernel_rfl, ?qy6t3⟩) (by assumption) ?_
          case qy6t3 => (intro w hSw; (try dsimp only at hSw); go_simp) <;> (try with_reducible rfl)
          try simp only [Act.put, List.setIfInBounds_toArray, List.set_cons_zero, List.set_cons_succ, List.getElem_toArray, List.getElem_cons_succ, List.getElem_cons_zero]
          refine wpAnyH_take (i := 7) (v := ?qv7t3) rfl (by kernel_rfl) (by kernel_rfl) (by kernel_rfl) (fun _ _ _ h => h) (Or.inl ⟨by kernel_rfl, ?qy7t3⟩) (by assumption) ?_
          case qy7t3 => (intro w hSw; (try dsimp only at hSw); go_simp) <;> (try with_reducible rfl)
          try simp only [Act.put, List.setIfInBounds_toArray, List.set_cons_zero, List.set_cons_succ, List.getElem_toArray, List.getElem_cons_succ, List.getElem_cons_zero]
          refine wpAnyH_take (i := 9) (v := ?qv9t3) rfl (by kernel_rfl) (by kernel_rfl) (by kernel_rfl) (fun _ _ _ h => h) (Or.inl ⟨by kernel_rfl, ?qy9t3⟩) (by assumption) ?_
          case qy9t3 => (intro w hSw; (try dsimp only at hSw); go_simp) <;> (try with_reducible rfl)
          try simp only [Act.put, List.setIfInBounds_toArray, List.set_cons_zero, List.set_cons_succ, List.getElem_toArray, List.getElem_cons_succ, List.getElem_cons_zero]
          refine wpAnyH_take (i := 12) (v := ?qv12t3) rfl (by kernel_rfl) (by kernel_rfl) (by kernel_rfl) (fun _ _ _ h => h) (Or.inl ⟨by kernel_rfl, ?qy12t3⟩) (by assumption) ?_
          case qy12t3 => (intro w hSw; (try dsimp only at hSw); go_simp) <;> (try with_reducible rfl)
          try simp only [Act.put, List.setIfInBounds_toArray, List.set_cons_zero, List.set_cons_succ, List.getElem_toArray, List.getElem_cons_succ, List.getElem_cons_zero]
          refine wpAnyH_take (i := 13) (v := ?qv13t3) rfl (by kernel_rfl) (by kernel_rfl) (by kernel_rfl) (fun _ _ _ h => h) (Or.inl ⟨by kernel_rfl, ?qy13t3⟩) (by assumption) ?_
          case qy13t3 => (intro w hSw; (try dsimp only at hSw); go_simp) <;> (try with_reducible rfl)
          try simp only [Act.put, List.setIfInBounds_toArray, List.set_cons_zero, List.set_cons_succ, List.getElem_toArray, List.getElem_cons_succ, List.getElem_cons_zero]
          refine wpAnyH_ready (rs := [8]) (by kernel_rfl) (by simp) ?_
          refine AllReadyH.cons rfl (fun K hK => ?_) AllReadyH.nil
          go_simp
          refine (hTo.out _ _ _ _).mono ?_
          rintro e v9 ⟨rfl, hB9⟩
          have hA9 : Below ((w.alloc (.cells #[.int .i64 y, .int .i64 m, .int .i64 d] 23)).alloc (.cells #[.int .i64 p, .int .i64 q, .int .i64 r] 23)).heap.size ((w.alloc (.cells #[.int .i64 y, .int .i64 m, .int .i64 d] 23)).alloc (.cells #[.int .i64 p, .int .i64 q, .int .i64 r] 23)) v9 := (hA8).trans (hB9.mono (hA8).size)
          refine hK.out _ _ ?hs8t3a (fun hHeld => ?_)
          case hs8t3a => (try dsimp only); exact CEL.out _ (hA9)
          clear hK K
          try simp only [Act.put, List.setIfInBounds_toArray, List.set_cons_zero, List.set_cons_succ, List.getElem_toArray, List.getElem_cons_succ, List.getElem_cons_zero]
          refine wpAnyH_ready (rs := [10]) (by kernel_rfl) (by simp) ?_
          refine AllReadyH.cons rfl (fun K hK => ?_) AllReadyH.nil
          go_simp
          refine (hTo.out _ _ _ _).mono ?_
          rintro e v10 ⟨rfl, hB10⟩
          have hA10 : Below ((w.alloc (.cells #[.int .i64 y, .int .i64 m, .int .i64 d] 23)).alloc (.cells #[.int .i64 p, .int .i64 q, .int .i64 r] 23)).heap.size ((w.alloc (.cells #[.int .i64 y, .int .i64 m, .int .i64 d] 23)).alloc (.cells #[.int .i64 p, .int .i64 q, .int .i64 r] 23)) v10 := (hA9).trans (hB10.mono (hA9).size)
          refine hK.out _ _ ?hs10t3a (fun hHeld => ?_)
          case hs10t3a => (try dsimp only); exact CEL.out _ (hA10)
          clear hK K
          try simp only [Act.put, List.setIfInBounds_toArray, List.set_cons_zero, List.set_cons_succ, List.getElem_toArray, List.getElem_cons_succ, List.getElem_cons_zero]
          refine wpAnyH_ready (rs := [11]) (by kernel_rfl) (by simp) ?_
          refine AllReadyH.cons rfl (fun K hK => ?_) AllReadyH.nil
          go_simp
          refine (hCm.out p q r y m d _).mono ?_
          rintro e v11 ⟨rfl, hB11⟩
          have hA11 : Below ((w.alloc (.cells #[.int .i64 y, .int .i64 m, .int .i64 d] 23)).alloc (.cells #[.int .i64 p, .int .i64 q, .int .i64 r] 23)).heap.size ((w.alloc (.cells #[.int .i64 y, .int .i64 m, .int .i64 d] 23)).alloc (.cells #[.int .i64 p, .int .i64 q, .int .i64 r] 23)) v11 := (hA10).trans (hB11.mono (hA10).size)
          rw [hrev.out]
          refine hK.out _ _ ?hs11t3a (fun hHeld => ?_)
          case hs11t3a => (try dsimp only); exact CEL.out _ (hA11)
          clear hK K
          try simp only [Act.put, List.setIfInBounds_toArray, List.set_cons_zero, List.set_cons_succ, List.getElem_toArray, List.getElem_cons_succ, List.getElem_cons_zero]
          refine wpAnyH_take (i := 14) (v := ?qv14t3) rfl (by kernel_rfl) (by kernel_rfl) (by kernel_rfl) (fun _ _ _ h => h) (Or.inl ⟨by kernel_rfl, ?qy14t3⟩) (by assumption) ?_
          case qy14t3 => (intro w hSw; (try dsimp only at hSw); go_simp) <;> (try with_reducible rfl)
          try simp only [Act.put, List.setIfInBounds_toArray, List.set_cons_zero, List.set_cons_succ, List.getElem_toArray, List.getElem_cons_succ, List.getElem_cons_zero]
          refine wpAnyH_take (i := 15) (v := ?qv15t3) rfl (by kernel_rfl) (by kernel_rfl) (by kernel_rfl) (fun _ _ _ h => h) (Or.inl ⟨by kernel_rfl, ?qy15t3⟩) (by assumption) ?_
          case qy15t3 => (intro w hSw; (try dsimp only at hSw); go_simp) <;> (try with_reducible rfl)
          try simp only [Act.put, List.setIfInBounds_toArray, List.set_cons_zero, List.set_cons_succ, List.getElem_toArray, List.getElem_cons_succ, List.getElem_cons_zero]
          refine wpAnyH_take (i := 16) (v := ?qv16t3) rfl (by kernel_rfl) (by kernel_rfl) (by kernel_rfl) (fun _ _ _ h => h) (Or.inl ⟨by kernel_rfl, ?qy16t3⟩) (by assumption) ?_
          case qy16t3 => (intro w hSw; (try dsimp only at hSw); go_simp) <;> (try with_reducible rfl)
          try simp only [Act.put, List.setIfInBounds_toArray, List.set_cons_zero, List.set_cons_succ, List.getElem_toArray, List.getElem_cons_succ, List.getElem_cons_zero]
          refine wpAnyH_done (by kernel_rfl) ?_ _
          go_wp2
          go_ret
          exact ⟨rfl, HB.out.trans (hA11.mono HB.out.size)⟩
      · have hM2 := Lib.hid (fun W => dtNumberNo p q r W hp hq hr r2)
        unfold dv at hN1 hM2
        clear r1 r2
        generalize num y m d = N at *
        go_wp2_with fail
        refine (hTo.out _ _ _ _).mono ?_
        rintro e v4 ⟨rfl, hB4⟩
        have HA4 := Lib.hid (HA3.out.trans (hB4.mono HA3.out.size))
        clear hB4 a0 a1 a2 b0 b1 b2 HA3
        obtain ⟨a0, a1, a2, b0, b1, b2⟩ := CEL.out _ HA4.out
        go_wp2_with fail
        refine (hN1.out _).mono ?_
        rintro e v5 ⟨rfl, hB5⟩
        have HA5 := Lib.hid (HA4.out.trans (hB5.mono HA4.out.size))
        clear hB5 a0 a1 a2 b0 b1 b2 HA4
        obtain ⟨a0, a1, a2, b0, b1, b2⟩ := CEL.out _ HA5.out
        go_wp2_with fail
        refine (hTo.out _ _ _ _).mono ?_
        rintro e v6 ⟨rfl, hB6⟩
        have HA6 := Lib.hid (HA5.out.trans (hB6.mono HA5.out.size))
        clear hB6 a0 a1 a2 b0 b1 b2 HA5
        obtain ⟨a0, a1, a2, b0, b1, b2⟩ := CEL.out _ HA6.out
        go_wp2_with fail
        refine (hM2.out _).mono ?_
        rintro e v7 ⟨rfl, hB7⟩
        have HA7 := Lib.hid (HA6.out.trans (hB7.mono HA6.out.size))
        clear hB7 a0 a1 a2 b0 b1 b2 HA6
        go_upto_region 19 with fail
        refine wp_region_held_drew (S := fun w' => w'.cell? ⟨w.heap.size, 0, none⟩ = some (.int .i64 y) ∧ w'.cell? ⟨w.heap.size, 1, none⟩ = some (.int .i64 m) ∧ w'.cell? ⟨w.heap.size, 2, none⟩ = some (.int .i64 d) ∧ w'.cell? ⟨w.heap.size + 1, 0, none⟩ = some (.int .i64 p) ∧ w'.cell? ⟨w.heap.size + 1, 1, none⟩ = some (.int .i64 q) ∧ w'.cell? ⟨w.heap.size + 1, 2, none⟩ = some (.int .i64 r)) (by kernel_rfl) ?hb0t4 (fun hHeld => ?_)
        case hb0t4 => (try dsimp only); exact CEL.out _ (below_drewN HA7.out 1)
        refine wpAnyH_ready (rs := [0]) (by kernel_rfl) (by simp) ?_
        refine AllReadyH.cons rfl (fun K hK => ?_) AllReadyH.nil
        go_simp
        refine (hKn.out _).mono ?_
        rintro e v8 ⟨rfl, hB8⟩
        have hA8 : Below ((w.alloc (.cells #[.int .i64 y, .int .i64 m, .int .i64 d] 23)).alloc (.cells #[.int .i64 p, .int .i64 q, .int .i64 r] 23)).heap.size ((w.alloc (.cells #[.int .i64 y, .int .i64 m, .int .i64 d] 23)).alloc (.cells #[.int .i64 p, .int .i64 q, .int .i64 r] 23)) v8 := (below_drewN HA7.out 1).trans (hB8.mono (below_drewN HA7.out 1).size)
        refine hK.out _ _ ?hs0t4a (fun hHeld => ?_)
        case hs0t4a => (try dsimp only); exact CEL.out _ (hA8)
        clear hK K
        try simp only [Act.put, List.setIfInBounds_toArray, List.set_cons_zero, List.set_cons_succ, List.getElem_toArray, List.getElem_cons_succ, List.getElem_cons_zero]
        refine wpAnyH_take (i := 1) (v := ?qv1t4) rfl (by kernel_rfl) (by kernel_rfl) (by kernel_rfl) (fun _ _ _ h => h) (Or.inl ⟨by kernel_rfl, ?qy1t4⟩) (by assumption) ?_
        case qy1t4 => (intro w hSw; (try dsimp only at hSw); go_simp) <;> (try with_reducible rfl)
        try simp only [Act.put, List.setIfInBounds_toArray, List.set_cons_zero, List.set_cons_succ, List.getElem_toArray, List.getElem_cons_succ, List.getElem_cons_zero]
        refine wpAnyH_take (i := 2) (v := ?qv2t4) rfl (by kernel_rfl) (by kernel_rfl) (by kernel_rfl) (fun _ _ _ h => h) (Or.inl ⟨by kernel_rfl, ?qy2t4⟩) (by assumption) ?_
        case qy2t4 => (intro w hSw; (try dsimp only at hSw); go_simp) <;> (try with_reducible rfl)
        try simp only [Act.put, List.setIfInBounds_toArray, List.set_cons_zero, List.set_cons_succ, List.getElem_toArray, List.getElem_cons_succ, List.getElem_cons_zero]
        refine wpAnyH_take (i := 3) (v := ?qv3t4) rfl (by kernel_rfl) (by kernel_rfl) (by kernel_rfl) (fun _ _ _ h => h) (Or.inl ⟨by kernel_rfl, ?qy3t4⟩) (by assumption) ?_
        case qy3t4 => (intro w hSw; (try dsimp only at hSw); go_simp) <;> (try with_reducible rfl)
        try simp only [Act.put, List.setIfInBounds_toArray, List.set_cons_zero, List.set_cons_succ, List.getElem_toArray, List.getElem_cons_succ, List.getElem_cons_zero]
        refine wpAnyH_take (i := 4) (v := ?qv4t4) rfl (by kernel_rfl) (by kernel_rfl) (by kernel_rfl) (fun _ _ _ h => h) (Or.inl ⟨by kernel_rfl, ?qy4t4⟩) (by assumption) ?_
        case qy4t4 => (intro w hSw; (try dsimp only at hSw); go_simp) <;> (try with_reducible rfl)
        try simp only [Act.put, List.setIfInBounds_toArray, List.set_cons_zero, List.set_cons_succ, List.getElem_toArray, List.getElem_cons_succ, List.getElem_cons_zero]
        refine wpAnyH_take (i := 5) (v := ?qv5t4) rfl (by kernel_rfl) (by kernel_rfl) (by kernel_rfl) (fun _ _ _ h => h) (Or.inl ⟨by kernel_rfl, ?qy5t4⟩) (by assumption) ?_
        case qy5t4 => (intro w hSw; (try dsimp only at hSw); go_simp) <;> (try with_reducible rfl)
        try simp only [Act.put, List.setIfInBounds_toArray, List.set_cons_zero, List.set_cons_succ, List.getElem_toArray, List.getElem_cons_succ, List.getElem_cons_zero]
        refine wpAnyH_take (i := 6) (v := ?qv6t4) rfl (by kernel_rfl) (by kernel_rfl) (by kernel_rfl) (fun _ _ _ h => h) (Or.inl ⟨by kernel_rfl, ?qy6t4⟩) (by assumption) ?_
        case qy6t4 => (intro w hSw; (try dsimp only at hSw); go_simp) <;> (try with_reducible rfl)
        try simp only [Act.put, List.setIfInBounds_toArray, List.set_cons_zero, List.set_cons_succ, List.getElem_toArray, List.getElem_cons_succ, List.getElem_cons_zero]
        refine wpAnyH_take (i := 7) (v := ?qv7t4) rfl (by kernel_rfl) (by kernel_rfl) (by kernel_rfl) (fun _ _ _ h => h) (Or.inl ⟨by kernel_rfl, ?qy7t4⟩) (by assumption) ?_
        case qy7t4 => (intro w hSw; (try dsimp only at hSw); go_simp) <;> (try with_reducible rfl)
        try simp only [Act.put, List.setIfInBounds_toArray, List.set_cons_zero, List.set_cons_succ, List.getElem_toArray, List.getElem_cons_succ, List.getElem_cons_zero]
        refine wpAnyH_take (i := 9) (v := ?qv9t4) rfl (by kernel_rfl) (by kernel_rfl) (by kernel_rfl) (fun _ _ _ h => h) (Or.inl ⟨by kernel_rfl, ?qy9t4⟩) (by assumption) ?_
        case qy9t4 => (intro w hSw; (try dsimp only at hSw); go_simp) <;> (try with_reducible rfl)
        try simp only [Act.put, List.setIfInBounds_toArray, List.set_cons_zero, List.set_cons_succ, List.getElem_toArray, List.getElem_cons_succ, List.getElem_cons_zero]
        refine wpAnyH_take (i := 12) (v := ?qv12t4) rfl (by kernel_rfl) (by kernel_rfl) (by kernel_rfl) (fun _ _ _ h => h) (Or.inl ⟨by kernel_rfl, ?qy12t4⟩) (by assumption) ?_
        case qy12t4 => (intro w hSw; (try dsimp only at hSw); go_simp) <;> (try with_reducible rfl)
        try simp only [Act.put, List.setIfInBounds_toArray, List.set_cons_zero, List.set_cons_succ, List.getElem_toArray, List.getElem_cons_succ, List.getElem_cons_zero]
        refine wpAnyH_take (i := 13) (v := ?qv13t4) rfl (by kernel_rfl) (by kernel_rfl) (by kernel_rfl) (fun _ _ _ h => h) (Or.inl ⟨by kernel_rfl, ?qy13t4⟩) (by assumption) ?_
        case qy13t4 => (intro w hSw; (try dsimp only at hSw); go_simp) <;> (try with_reducible rfl)
        try simp only [Act.put, List.setIfInBounds_toArray, List.set_cons_zero, List.set_cons_succ, List.getElem_toArray, List.getElem_cons_succ, List.getElem_cons_zero]
        refine wpAnyH_ready (rs := [8]) (by kernel_rfl) (by simp) ?_
        refine AllReadyH.cons rfl (fun K hK => ?_) AllReadyH.nil
        go_simp
        refine (hTo.out _ _ _ _).mono ?_
        rintro e v9 ⟨rfl, hB9⟩
        have hA9 : Below ((w.alloc (.cells #[.int .i64 y, .int .i64 m, .int .i64 d] 23)).alloc (.cells #[.int .i64 p, .int .i64 q, .int .i64 r] 23)).heap.size ((w.alloc (.cells #[.int .i64 y, .int .i64 m, .int .i64 d] 23)).alloc (.cells #[.int .i64 p, .int .i64 q, .int .i64 r] 23)) v9 := (hA8).trans (hB9.mono (hA8).size)
        refine hK.out _ _ ?hs8t4a (fun hHeld => ?_)
        case hs8t4a => (try dsimp only); exact CEL.out _ (hA9)
        clear hK K
        try simp only [Act.put, List.setIfInBounds_toArray, List.set_cons_zero, List.set_cons_succ, List.getElem_toArray, List.getElem_cons_succ, List.getElem_cons_zero]
        refine wpAnyH_ready (rs := [10]) (by kernel_rfl) (by simp) ?_
        refine AllReadyH.cons rfl (fun K hK => ?_) AllReadyH.nil
        go_simp
        refine (hTo.out _ _ _ _).mono ?_
        rintro e v10 ⟨rfl, hB10⟩
        have hA10 : Below ((w.alloc (.cells #[.int .i64 y, .int .i64 m, .int .i64 d] 23)).alloc (.cells #[.int .i64 p, .int .i64 q, .int .i64 r] 23)).heap.size ((w.alloc (.cells #[.int .i64 y, .int .i64 m, .int .i64 d] 23)).alloc (.cells #[.int .i64 p, .int .i64 q, .int .i64 r] 23)) v10 := (hA9).trans (hB10.mono (hA9).size)
        refine hK.out _ _ ?hs10t4a (fun hHeld => ?_)
        case hs10t4a => (try dsimp only); exact CEL.out _ (hA10)
        clear hK K
        try simp only [Act.put, List.setIfInBounds_toArray, List.set_cons_zero, List.set_cons_succ, List.getElem_toArray, List.getElem_cons_succ, List.getElem_cons_zero]
        refine wpAnyH_ready (rs := [11]) (by kernel_rfl) (by simp) ?_
        refine AllReadyH.cons rfl (fun K hK => ?_) AllReadyH.nil
        go_simp
        refine (hCm.out p q r y m d _).mono ?_
        rintro e v11 ⟨rfl, hB11⟩
        have hA11 : Below ((w.alloc (.cells #[.int .i64 y, .int .i64 m, .int .i64 d] 23)).alloc (.cells #[.int .i64 p, .int .i64 q, .int .i64 r] 23)).heap.size ((w.alloc (.cells #[.int .i64 y, .int .i64 m, .int .i64 d] 23)).alloc (.cells #[.int .i64 p, .int .i64 q, .int .i64 r] 23)) v11 := (hA10).trans (hB11.mono (hA10).size)
        rw [hrev.out]
        refine hK.out _ _ ?hs11t4a (fun hHeld => ?_)
        case hs11t4a => (try dsimp only); exact CEL.out _ (hA11)
        clear hK K
        try simp only [Act.put, List.setIfInBounds_toArray, List.set_cons_zero, List.set_cons_succ, List.getElem_toArray, List.getElem_cons_succ, List.getElem_cons_zero]
        refine wpAnyH_take (i := 14) (v := ?qv14t4) rfl (by kernel_rfl) (by kernel_rfl) (by kernel_rfl) (fun _ _ _ h => h) (Or.inl ⟨by kernel_rfl, ?qy14t4⟩) (by assumption) ?_
        case qy14t4 => (intro w hSw; (try dsimp only at hSw); go_simp) <;> (try with_reducible rfl)
        try simp only [Act.put, List.setIfInBounds_toArray, List.set_cons_zero, List.set_cons_succ, List.getElem_toArray, List.getElem_cons_succ, List.getElem_cons_zero]
        refine wpAnyH_take (i := 15) (v := ?qv15t4) rfl (by kernel_rfl) (by kernel_rfl) (by kernel_rfl) (fun _ _ _ h => h) (Or.inl ⟨by kernel_rfl, ?qy15t4⟩) (by assumption) ?_
        case qy15t4 => (intro w hSw; (try dsimp only at hSw); go_simp) <;> (try with_reducible rfl)
        try simp only [Act.put, List.setIfInBounds_toArray, List.set_cons_zero, List.set_cons_succ, List.getElem_toArray, List.getElem_cons_succ, List.getElem_cons_zero]
        refine wpAnyH_take (i := 16) (v := ?qv16t4) rfl (by kernel_rfl) (by kernel_rfl) (by kernel_rfl) (fun _ _ _ h => h) (Or.inl ⟨by kernel_rfl, ?qy16t4⟩) (by assumption) ?_
        case qy16t4 => (intro w hSw; (try dsimp only at hSw); go_simp) <;> (try with_reducible rfl)
        try simp only [Act.put, List.setIfInBounds_toArray, List.set_cons_zero, List.set_cons_succ, List.getElem_toArray, List.getElem_cons_succ, List.getElem_cons_zero]
        refine wpAnyH_done (by kernel_rfl) ?_ _
        go_wp2
        go_ret
        exact ⟨rfl, HB.out.trans (hA11.mono HB.out.size)⟩
    · have hM1 := Lib.hid (fun W => dtNumberNo y m d W hy hm hd r1)
      by_cases r2 : Rgt p q r
      · have hN2 := Lib.hid (fun W => dtNumberYes p q r W r2)
        have hb2 := num_range r2
        unfold dv at hN2 hM1
        clear r1 r2
        generalize num p q r = M at *
        go_wp2_with fail
        refine (hTo.out _ _ _ _).mono ?_
        rintro e v4 ⟨rfl, hB4⟩
        have HA4 := Lib.hid (HA3.out.trans (hB4.mono HA3.out.size))
        clear hB4 a0 a1 a2 b0 b1 b2 HA3
        obtain ⟨a0, a1, a2, b0, b1, b2⟩ := CEL.out _ HA4.out
        go_wp2_with fail
        refine (hM1.out _).mono ?_
        rintro e v5 ⟨rfl, hB5⟩
        have HA5 := Lib.hid (HA4.out.trans (hB5.mono HA4.out.size))
        clear hB5 a0 a1 a2 b0 b1 b2 HA4
        obtain ⟨a0, a1, a2, b0, b1, b2⟩ := CEL.out _ HA5.out
        go_wp2_with fail
        refine (hTo.out _ _ _ _).mono ?_
        rintro e v6 ⟨rfl, hB6⟩
        have HA6 := Lib.hid (HA5.out.trans (hB6.mono HA5.out.size))
        clear hB6 a0 a1 a2 b0 b1 b2 HA5
        obtain ⟨a0, a1, a2, b0, b1, b2⟩ := CEL.out _ HA6.out
        go_wp2_with fail
        refine (hN2.out _).mono ?_
        rintro e v7 ⟨rfl, hB7⟩
        have HA7 := Lib.hid (HA6.out.trans (hB7.mono HA6.out.size))
        clear hB7 a0 a1 a2 b0 b1 b2 HA6
        go_upto_region 19 with fail
        refine wp_region_held_drew (S := fun w' => w'.cell? ⟨w.heap.size, 0, none⟩ = some (.int .i64 y) ∧ w'.cell? ⟨w.heap.size, 1, none⟩ = some (.int .i64 m) ∧ w'.cell? ⟨w.heap.size, 2, none⟩ = some (.int .i64 d) ∧ w'.cell? ⟨w.heap.size + 1, 0, none⟩ = some (.int .i64 p) ∧ w'.cell? ⟨w.heap.size + 1, 1, none⟩ = some (.int .i64 q) ∧ w'.cell? ⟨w.heap.size + 1, 2, none⟩ = some (.int .i64 r)) (by kernel_rfl) ?hb0t5 (fun hHeld => ?_)
        case hb0t5 => (try dsimp only); exact CEL.out _ (below_drewN HA7.out 1)
        refine wpAnyH_ready (rs := [0]) (by kernel_rfl) (by simp) ?_
        refine AllReadyH.cons rfl (fun K hK => ?_) AllReadyH.nil
        go_simp
        refine (hKn.out _).mono ?_
        rintro e v8 ⟨rfl, hB8⟩
        have hA8 : Below ((w.alloc (.cells #[.int .i64 y, .int .i64 m, .int .i64 d] 23)).alloc (.cells #[.int .i64 p, .int .i64 q, .int .i64 r] 23)).heap.size ((w.alloc (.cells #[.int .i64 y, .int .i64 m, .int .i64 d] 23)).alloc (.cells #[.int .i64 p, .int .i64 q, .int .i64 r] 23)) v8 := (below_drewN HA7.out 1).trans (hB8.mono (below_drewN HA7.out 1).size)
        refine hK.out _ _ ?hs0t5a (fun hHeld => ?_)
        case hs0t5a => (try dsimp only); exact CEL.out _ (hA8)
        clear hK K
        try simp only [Act.put, List.setIfInBounds_toArray, List.set_cons_zero, List.set_cons_succ, List.getElem_toArray, List.getElem_cons_succ, List.getElem_cons_zero]
        refine wpAnyH_take (i := 1) (v := ?qv1t5) rfl (by kernel_rfl) (by kernel_rfl) (by kernel_rfl) (fun _ _ _ h => h) (Or.inl ⟨by kernel_rfl, ?qy1t5⟩) (by assumption) ?_
        case qy1t5 => (intro w hSw; (try dsimp only at hSw); go_simp) <;> (try with_reducible rfl)
        try simp only [Act.put, List.setIfInBounds_toArray, List.set_cons_zero, List.set_cons_succ, List.getElem_toArray, List.getElem_cons_succ, List.getElem_cons_zero]
        refine wpAnyH_take (i := 2) (v := ?qv2t5) rfl (by kernel_rfl) (by kernel_rfl) (by kernel_rfl) (fun _ _ _ h => h) (Or.inl ⟨by kernel_rfl, ?qy2t5⟩) (by assumption) ?_
        case qy2t5 => (intro w hSw; (try dsimp only at hSw); go_simp) <;> (try with_reducible rfl)
        try simp only [Act.put, List.setIfInBounds_toArray, List.set_cons_zero, List.set_cons_succ, List.getElem_toArray, List.getElem_cons_succ, List.getElem_cons_zero]
        refine wpAnyH_take (i := 3) (v := ?qv3t5) rfl (by kernel_rfl) (by kernel_rfl) (by kernel_rfl) (fun _ _ _ h => h) (Or.inl ⟨by kernel_rfl, ?qy3t5⟩) (by assumption) ?_
        case qy3t5 => (intro w hSw; (try dsimp only at hSw); go_simp) <;> (try with_reducible rfl)
        try simp only [Act.put, List.setIfInBounds_toArray, List.set_cons_zero, List.set_cons_succ, List.getElem_toArray, List.getElem_cons_succ, List.getElem_cons_zero]
        refine wpAnyH_take (i := 4) (v := ?qv4t5) rfl (by kernel_rfl) (by kernel_rfl) (by kernel_rfl) (fun _ _ _ h => h) (Or.inl ⟨by kernel_rfl, ?qy4t5⟩) (by assumption) ?_
        case qy4t5 => (intro w hSw; (try dsimp only at hSw); go_simp) <;> (try with_reducible rfl)
        try simp only [Act.put, List.setIfInBounds_toArray, List.set_cons_zero, List.set_cons_succ, List.getElem_toArray, List.getElem_cons_succ, List.getElem_cons_zero]
        refine wpAnyH_take (i := 5) (v := ?qv5t5) rfl (by kernel_rfl) (by kernel_rfl) (by kernel_rfl) (fun _ _ _ h => h) (Or.inl ⟨by kernel_rfl, ?qy5t5⟩) (by assumption) ?_
        case qy5t5 => (intro w hSw; (try dsimp only at hSw); go_simp) <;> (try with_reducible rfl)
        try simp only [Act.put, List.setIfInBounds_toArray, List.set_cons_zero, List.set_cons_succ, List.getElem_toArray, List.getElem_cons_succ, List.getElem_cons_zero]
        refine wpAnyH_take (i := 6) (v := ?qv6t5) rfl (by kernel_rfl) (by kernel_rfl) (by kernel_rfl) (fun _ _ _ h => h) (Or.inl ⟨by kernel_rfl, ?qy6t5⟩) (by assumption) ?_
        case qy6t5 => (intro w hSw; (try dsimp only at hSw); go_simp) <;> (try with_reducible rfl)
        try simp only [Act.put, List.setIfInBounds_toArray, List.set_cons_zero, List.set_cons_succ, List.getElem_toArray, List.getElem_cons_succ, List.getElem_cons_zero]
        refine wpAnyH_take (i := 7) (v := ?qv7t5) rfl (by kernel_rfl) (by kernel_rfl) (by kernel_rfl) (fun _ _ _ h => h) (Or.inl ⟨by kernel_rfl, ?qy7t5⟩) (by assumption) ?_
        case qy7t5 => (intro w hSw; (try dsimp only at hSw); go_simp) <;> (try with_reducible rfl)
        try simp only [Act.put, List.setIfInBounds_toArray, List.set_cons_zero, List.set_cons_succ, List.getElem_toArray, List.getElem_cons_succ, List.getElem_cons_zero]
        refine wpAnyH_take (i := 9) (v := ?qv9t5) rfl (by kernel_rfl) (by kernel_rfl) (by kernel_rfl) (fun _ _ _ h => h) (Or.inl ⟨by kernel_rfl, ?qy9t5⟩) (by assumption) ?_
        case qy9t5 => (intro w hSw; (try dsimp only at hSw); go_simp) <;> (try with_reducible rfl)
        try simp only [Act.put, List.setIfInBounds_toArray, List.set_cons_zero, List.set_cons_succ, List.getElem_toArray, List.getElem_cons_succ, List.getElem_cons_zero]
        refine wpAnyH_take (i := 12) (v := ?qv12t5) rfl (by kernel_rfl) (by kernel_rfl) (by kernel_rfl) (fun _ _ _ h => h) (Or.inl ⟨by kernel_rfl, ?qy12t5⟩) (by assumption) ?_
        case qy12t5 => (intro w hSw; (try dsimp only at hSw); go_simp) <;> (try with_reducible rfl)
        try simp only [Act.put, List.setIfInBounds_toArray, List.set_cons_zero, List.set_cons_succ, List.getElem_toArray, List.getElem_cons_succ, List.getElem_cons_zero]
        refine wpAnyH_take (i := 13) (v := ?qv13t5) rfl (by kernel_rfl) (by kernel_rfl) (by kernel_rfl) (fun _ _ _ h => h) (Or.inl ⟨by kernel_rfl, ?qy13t5⟩) (by assumption) ?_
        case qy13t5 => (intro w hSw; (try dsimp only at hSw); go_simp) <;> (try with_reducible rfl)
        try simp only [Act.put, List.setIfInBounds_toArray, List.set_cons_zero, List.set_cons_succ, List.getElem_toArray, List.getElem_cons_succ, List.getElem_cons_zero]
        refine wpAnyH_ready (rs := [8]) (by kernel_rfl) (by simp) ?_
        refine AllReadyH.cons rfl (fun K hK => ?_) AllReadyH.nil
        go_simp
        refine (hTo.out _ _ _ _).mono ?_
        rintro e v9 ⟨rfl, hB9⟩
        have hA9 : Below ((w.alloc (.cells #[.int .i64 y, .int .i64 m, .int .i64 d] 23)).alloc (.cells #[.int .i64 p, .int .i64 q, .int .i64 r] 23)).heap.size ((w.alloc (.cells #[.int .i64 y, .int .i64 m, .int .i64 d] 23)).alloc (.cells #[.int .i64 p, .int .i64 q, .int .i64 r] 23)) v9 := (hA8).trans (hB9.mono (hA8).size)
        refine hK.out _ _ ?hs8t5a (fun hHeld => ?_)
        case hs8t5a => (try dsimp only); exact CEL.out _ (hA9)
        clear hK K
        try simp only [Act.put, List.setIfInBounds_toArray, List.set_cons_zero, List.set_cons_succ, List.getElem_toArray, List.getElem_cons_succ, List.getElem_cons_zero]
        refine wpAnyH_ready (rs := [10]) (by kernel_rfl) (by simp) ?_
        refine AllReadyH.cons rfl (fun K hK => ?_) AllReadyH.nil
        go_simp
        refine (hTo.out _ _ _ _).mono ?_
        rintro e v10 ⟨rfl, hB10⟩
        have hA10 : Below ((w.alloc (.cells #[.int .i64 y, .int .i64 m, .int .i64 d] 23)).alloc (.cells #[.int .i64 p, .int .i64 q, .int .i64 r] 23)).heap.size ((w.alloc (.cells #[.int .i64 y, .int .i64 m, .int .i64 d] 23)).alloc (.cells #[.int .i64 p, .int .i64 q, .int .i64 r] 23)) v10 := (hA9).trans (hB10.mono (hA9).size)
        refine hK.out _ _ ?hs10t5a (fun hHeld => ?_)
        case hs10t5a => (try dsimp only); exact CEL.out _ (hA10)
        clear hK K
        try simp only [Act.put, List.setIfInBounds_toArray, List.set_cons_zero, List.set_cons_succ, List.getElem_toArray, List.getElem_cons_succ, List.getElem_cons_zero]
        refine wpAnyH_ready (rs := [11]) (by kernel_rfl) (by simp) ?_
        refine AllReadyH.cons rfl (fun K hK => ?_) AllReadyH.nil
        go_simp
        refine (hCm.out p q r y m d _).mono ?_
        rintro e v11 ⟨rfl, hB11⟩
        have hA11 : Below ((w.alloc (.cells #[.int .i64 y, .int .i64 m, .int .i64 d] 23)).alloc (.cells #[.int .i64 p, .int .i64 q, .int .i64 r] 23)).heap.size ((w.alloc (.cells #[.int .i64 y, .int .i64 m, .int .i64 d] 23)).alloc (.cells #[.int .i64 p, .int .i64 q, .int .i64 r] 23)) v11 := (hA10).trans (hB11.mono (hA10).size)
        rw [hrev.out]
        refine hK.out _ _ ?hs11t5a (fun hHeld => ?_)
        case hs11t5a => (try dsimp only); exact CEL.out _ (hA11)
        clear hK K
        try simp only [Act.put, List.setIfInBounds_toArray, List.set_cons_zero, List.set_cons_succ, List.getElem_toArray, List.getElem_cons_succ, List.getElem_cons_zero]
        refine wpAnyH_take (i := 14) (v := ?qv14t5) rfl (by kernel_rfl) (by kernel_rfl) (by kernel_rfl) (fun _ _ _ h => h) (Or.inl ⟨by kernel_rfl, ?qy14t5⟩) (by assumption) ?_
        case qy14t5 => (intro w hSw; (try dsimp only at hSw); go_simp) <;> (try with_reducible rfl)
        try simp only [Act.put, List.setIfInBounds_toArray, List.set_cons_zero, List.set_cons_succ, List.getElem_toArray, List.getElem_cons_succ, List.getElem_cons_zero]
        refine wpAnyH_take (i := 15) (v := ?qv15t5) rfl (by kernel_rfl) (by kernel_rfl) (by kernel_rfl) (fun _ _ _ h => h) (Or.inl ⟨by kernel_rfl, ?qy15t5⟩) (by assumption) ?_
        case qy15t5 => (intro w hSw; (try dsimp only at hSw); go_simp) <;> (try with_reducible rfl)
        try simp only [Act.put, List.setIfInBounds_toArray, List.set_cons_zero, List.set_cons_succ, List.getElem_toArray, List.getElem_cons_succ, List.getElem_cons_zero]
        refine wpAnyH_take (i := 16) (v := ?qv16t5) rfl (by kernel_rfl) (by kernel_rfl) (by kernel_rfl) (fun _ _ _ h => h) (Or.inl ⟨by kernel_rfl, ?qy16t5⟩) (by assumption) ?_
        case qy16t5 => (intro w hSw; (try dsimp only at hSw); go_simp) <;> (try with_reducible rfl)
        try simp only [Act.put, List.setIfInBounds_toArray, List.set_cons_zero, List.set_cons_succ, List.getElem_toArray, List.getElem_cons_succ, List.getElem_cons_zero]
        refine wpAnyH_done (by kernel_rfl) ?_ _
        go_wp2
        go_ret
        exact ⟨rfl, HB.out.trans (hA11.mono HB.out.size)⟩
      · have hM2 := Lib.hid (fun W => dtNumberNo p q r W hp hq hr r2)
        unfold dv at hM1 hM2
        clear r1 r2
        go_wp2_with fail
        refine (hTo.out _ _ _ _).mono ?_
        rintro e v4 ⟨rfl, hB4⟩
        have HA4 := Lib.hid (HA3.out.trans (hB4.mono HA3.out.size))
        clear hB4 a0 a1 a2 b0 b1 b2 HA3
        obtain ⟨a0, a1, a2, b0, b1, b2⟩ := CEL.out _ HA4.out
        go_wp2_with fail
        refine (hM1.out _).mono ?_
        rintro e v5 ⟨rfl, hB5⟩
        have HA5 := Lib.hid (HA4.out.trans (hB5.mono HA4.out.size))
        clear hB5 a0 a1 a2 b0 b1 b2 HA4
        obtain ⟨a0, a1, a2, b0, b1, b2⟩ := CEL.out _ HA5.out
        go_wp2_with fail
        refine (hTo.out _ _ _ _).mono ?_
        rintro e v6 ⟨rfl, hB6⟩
        have HA6 := Lib.hid (HA5.out.trans (hB6.mono HA5.out.size))
        clear hB6 a0 a1 a2 b0 b1 b2 HA5
        obtain ⟨a0, a1, a2, b0, b1, b2⟩ := CEL.out _ HA6.out
        go_wp2_with fail
        refine (hM2.out _).mono ?_
        rintro e v7 ⟨rfl, hB7⟩
        have HA7 := Lib.hid (HA6.out.trans (hB7.mono HA6.out.size))
        clear hB7 a0 a1 a2 b0 b1 b2 HA6
        go_upto_region 19 with fail
        refine wp_region_held_drew (S := fun w' => w'.cell? ⟨w.heap.size, 0, none⟩ = some (.int .i64 y) ∧ w'.cell? ⟨w.heap.size, 1, none⟩ = some (.int .i64 m) ∧ w'.cell? ⟨w.heap.size, 2, none⟩ = some (.int .i64 d) ∧ w'.cell? ⟨w.heap.size + 1, 0, none⟩ = some (.int .i64 p) ∧ w'.cell? ⟨w.heap.size + 1, 1, none⟩ = some (.int .i64 q) ∧ w'.cell? ⟨w.heap.size + 1, 2, none⟩ = some (.int .i64 r)) (by kernel_rfl) ?hb0t6 (fun hHeld => ?_)
        case hb0t6 => (try dsimp only); exact CEL.out _ (below_drewN HA7.out 1)
        refine wpAnyH_ready (rs := [0]) (by kernel_rfl) (by simp) ?_
        refine AllReadyH.cons rfl (fun K hK => ?_) AllReadyH.nil
        go_simp
        refine (hKn.out _).mono ?_
        rintro e v8 ⟨rfl, hB8⟩
        have hA8 : Below ((w.alloc (.cells #[.int .i64 y, .int .i64 m, .int .i64 d] 23)).alloc (.cells #[.int .i64 p, .int .i64 q, .int .i64 r] 23)).heap.size ((w.alloc (.cells #[.int .i64 y, .int .i64 m, .int .i64 d] 23)).alloc (.cells #[.int .i64 p, .int .i64 q, .int .i64 r] 23)) v8 := (below_drewN HA7.out 1).trans (hB8.mono (below_drewN HA7.out 1).size)
        refine hK.out _ _ ?hs0t6a (fun hHeld => ?_)
        case hs0t6a => (try dsimp only); exact CEL.out _ (hA8)
        clear hK K
        try simp only [Act.put, List.setIfInBounds_toArray, List.set_cons_zero, List.set_cons_succ, List.getElem_toArray, List.getElem_cons_succ, List.getElem_cons_zero]
        refine wpAnyH_take (i := 1) (v := ?qv1t6) rfl (by kernel_rfl) (by kernel_rfl) (by kernel_rfl) (fun _ _ _ h => h) (Or.inl ⟨by kernel_rfl, ?qy1t6⟩) (by assumption) ?_
        case qy1t6 => (intro w hSw; (try dsimp only at hSw); go_simp) <;> (try with_reducible rfl)
        try simp only [Act.put, List.setIfInBounds_toArray, List.set_cons_zero, List.set_cons_succ, List.getElem_toArray, List.getElem_cons_succ, List.getElem_cons_zero]
        refine wpAnyH_take (i := 2) (v := ?qv2t6) rfl (by kernel_rfl) (by kernel_rfl) (by kernel_rfl) (fun _ _ _ h => h) (Or.inl ⟨by kernel_rfl, ?qy2t6⟩) (by assumption) ?_
        case qy2t6 => (intro w hSw; (try dsimp only at hSw); go_simp) <;> (try with_reducible rfl)
        try simp only [Act.put, List.setIfInBounds_toArray, List.set_cons_zero, List.set_cons_succ, List.getElem_toArray, List.getElem_cons_succ, List.getElem_cons_zero]
        refine wpAnyH_take (i := 3) (v := ?qv3t6) rfl (by kernel_rfl) (by kernel_rfl) (by kernel_rfl) (fun _ _ _ h => h) (Or.inl ⟨by kernel_rfl, ?qy3t6⟩) (by assumption) ?_
        case qy3t6 => (intro w hSw; (try dsimp only at hSw); go_simp) <;> (try with_reducible rfl)
        try simp only [Act.put, List.setIfInBounds_toArray, List.set_cons_zero, List.set_cons_succ, List.getElem_toArray, List.getElem_cons_succ, List.getElem_cons_zero]
        refine wpAnyH_take (i := 4) (v := ?qv4t6) rfl (by kernel_rfl) (by kernel_rfl) (by kernel_rfl) (fun _ _ _ h => h) (Or.inl ⟨by kernel_rfl, ?qy4t6⟩) (by assumption) ?_
        case qy4t6 => (intro w hSw; (try dsimp only at hSw); go_simp) <;> (try with_reducible rfl)
        try simp only [Act.put, List.setIfInBounds_toArray, List.set_cons_zero, List.set_cons_succ, List.getElem_toArray, List.getElem_cons_succ, List.getElem_cons_zero]
        refine wpAnyH_take (i := 5) (v := ?qv5t6) rfl (by kernel_rfl) (by kernel_rfl) (by kernel_rfl) (fun _ _ _ h => h) (Or.inl ⟨by kernel_rfl, ?qy5t6⟩) (by assumption) ?_
        case qy5t6 => (intro w hSw; (try dsimp only at hSw); go_simp) <;> (try with_reducible rfl)
        try simp only [Act.put, List.setIfInBounds_toArray, List.set_cons_zero, List.set_cons_succ, List.getElem_toArray, List.getElem_cons_succ, List.getElem_cons_zero]
        refine wpAnyH_take (i := 6) (v := ?qv6t6) rfl (by kernel_rfl) (by kernel_rfl) (by kernel_rfl) (fun _ _ _ h => h) (Or.inl ⟨by kernel_rfl, ?qy6t6⟩) (by assumption) ?_
        case qy6t6 => (intro w hSw; (try dsimp only at hSw); go_simp) <;> (try with_reducible rfl)
        try simp only [Act.put, List.setIfInBounds_toArray, List.set_cons_zero, List.set_cons_succ, List.getElem_toArray, List.getElem_cons_succ, List.getElem_cons_zero]
        refine wpAnyH_take (i := 7) (v := ?qv7t6) rfl (by kernel_rfl) (by kernel_rfl) (by kernel_rfl) (fun _ _ _ h => h) (Or.inl ⟨by kernel_rfl, ?qy7t6⟩) (by assumption) ?_
        case qy7t6 => (intro w hSw; (try dsimp only at hSw); go_simp) <;> (try with_reducible rfl)
        try simp only [Act.put, List.setIfInBounds_toArray, List.set_cons_zero, List.set_cons_succ, List.getElem_toArray, List.getElem_cons_succ, List.getElem_cons_zero]
        refine wpAnyH_take (i := 9) (v := ?qv9t6) rfl (by kernel_rfl) (by kernel_rfl) (by kernel_rfl) (fun _ _ _ h => h) (Or.inl ⟨by kernel_rfl, ?qy9t6⟩) (by assumption) ?_
        case qy9t6 => (intro w hSw; (try dsimp only at hSw); go_simp) <;> (try with_reducible rfl)
        try simp only [Act.put, List.setIfInBounds_toArray, List.set_cons_zero, List.set_cons_succ, List.getElem_toArray, List.getElem_cons_succ, List.getElem_cons_zero]
        refine wpAnyH_take (i := 12) (v := ?qv12t6) rfl (by kernel_rfl) (by kernel_rfl) (by kernel_rfl) (fun _ _ _ h => h) (Or.inl ⟨by kernel_rfl, ?qy12t6⟩) (by assumption) ?_
        case qy12t6 => (intro w hSw; (try dsimp only at hSw); go_simp) <;> (try with_reducible rfl)
        try simp only [Act.put, List.setIfInBounds_toArray, List.set_cons_zero, List.set_cons_succ, List.getElem_toArray, List.getElem_cons_succ, List.getElem_cons_zero]
        refine wpAnyH_take (i := 13) (v := ?qv13t6) rfl (by kernel_rfl) (by kernel_rfl) (by kernel_rfl) (fun _ _ _ h => h) (Or.inl ⟨by kernel_rfl, ?qy13t6⟩) (by assumption) ?_
        case qy13t6 => (intro w hSw; (try dsimp only at hSw); go_simp) <;> (try with_reducible rfl)
        try simp only [Act.put, List.setIfInBounds_toArray, List.set_cons_zero, List.set_cons_succ, List.getElem_toArray, List.getElem_cons_succ, List.getElem_cons_zero]
        refine wpAnyH_ready (rs := [8]) (by kernel_rfl) (by simp) ?_
        refine AllReadyH.cons rfl (fun K hK => ?_) AllReadyH.nil
        go_simp
        refine (hTo.out _ _ _ _).mono ?_
        rintro e v9 ⟨rfl, hB9⟩
        have hA9 : Below ((w.alloc (.cells #[.int .i64 y, .int .i64 m, .int .i64 d] 23)).alloc (.cells #[.int .i64 p, .int .i64 q, .int .i64 r] 23)).heap.size ((w.alloc (.cells #[.int .i64 y, .int .i64 m, .int .i64 d] 23)).alloc (.cells #[.int .i64 p, .int .i64 q, .int .i64 r] 23)) v9 := (hA8).trans (hB9.mono (hA8).size)
        refine hK.out _ _ ?hs8t6a (fun hHeld => ?_)
        case hs8t6a => (try dsimp only); exact CEL.out _ (hA9)
        clear hK K
        try simp only [Act.put, List.setIfInBounds_toArray, List.set_cons_zero, List.set_cons_succ, List.getElem_toArray, List.getElem_cons_succ, List.getElem_cons_zero]
        refine wpAnyH_ready (rs := [10]) (by kernel_rfl) (by simp) ?_
        refine AllReadyH.cons rfl (fun K hK => ?_) AllReadyH.nil
        go_simp
        refine (hTo.out _ _ _ _).mono ?_
        rintro e v10 ⟨rfl, hB10⟩
        have hA10 : Below ((w.alloc (.cells #[.int .i64 y, .int .i64 m, .int .i64 d] 23)).alloc (.cells #[.int .i64 p, .int .i64 q, .int .i64 r] 23)).heap.size ((w.alloc (.cells #[.int .i64 y, .int .i64 m, .int .i64 d] 23)).alloc (.cells #[.int .i64 p, .int .i64 q, .int .i64 r] 23)) v10 := (hA9).trans (hB10.mono (hA9).size)
        refine hK.out _ _ ?hs10t6a (fun hHeld => ?_)
        case hs10t6a => (try dsimp only); exact CEL.out _ (hA10)
        clear hK K
        try simp only [Act.put, List.setIfInBounds_toArray, List.set_cons_zero, List.set_cons_succ, List.getElem_toArray, List.getElem_cons_succ, List.getElem_cons_zero]
        refine wpAnyH_ready (rs := [11]) (by kernel_rfl) (by simp) ?_
        refine AllReadyH.cons rfl (fun K hK => ?_) AllReadyH.nil
        go_simp
        refine (hCm.out p q r y m d _).mono ?_
        rintro e v11 ⟨rfl, hB11⟩
        have hA11 : Below ((w.alloc (.cells #[.int .i64 y, .int .i64 m, .int .i64 d] 23)).alloc (.cells #[.int .i64 p, .int .i64 q, .int .i64 r] 23)).heap.size ((w.alloc (.cells #[.int .i64 y, .int .i64 m, .int .i64 d] 23)).alloc (.cells #[.int .i64 p, .int .i64 q, .int .i64 r] 23)) v11 := (hA10).trans (hB11.mono (hA10).size)
        rw [hrev.out]
        refine hK.out _ _ ?hs11t6a (fun hHeld => ?_)
        case hs11t6a => (try dsimp only); exact CEL.out _ (hA11)
        clear hK K
        try simp only [Act.put, List.setIfInBounds_toArray, List.set_cons_zero, List.set_cons_succ, List.getElem_toArray, List.getElem_cons_succ, List.getElem_cons_zero]
        refine wpAnyH_take (i := 14) (v := ?qv14t6) rfl (by kernel_rfl) (by kernel_rfl) (by kernel_rfl) (fun _ _ _ h => h) (Or.inl ⟨by kernel_rfl, ?qy14t6⟩) (by assumption) ?_
        case qy14t6 => (intro w hSw; (try dsimp only at hSw); go_simp) <;> (try with_reducible rfl)
        try simp only [Act.put, List.setIfInBounds_toArray, List.set_cons_zero, List.set_cons_succ, List.getElem_toArray, List.getElem_cons_succ, List.getElem_cons_zero]
        refine wpAnyH_take (i := 15) (v := ?qv15t6) rfl (by kernel_rfl) (by kernel_rfl) (by kernel_rfl) (fun _ _ _ h => h) (Or.inl ⟨by kernel_rfl, ?qy15t6⟩) (by assumption) ?_
        case qy15t6 => (intro w hSw; (try dsimp only at hSw); go_simp) <;> (try with_reducible rfl)
        try simp only [Act.put, List.setIfInBounds_toArray, List.set_cons_zero, List.set_cons_succ, List.getElem_toArray, List.getElem_cons_succ, List.getElem_cons_zero]
        refine wpAnyH_take (i := 16) (v := ?qv16t6) rfl (by kernel_rfl) (by kernel_rfl) (by kernel_rfl) (fun _ _ _ h => h) (Or.inl ⟨by kernel_rfl, ?qy16t6⟩) (by assumption) ?_
        case qy16t6 => (intro w hSw; (try dsimp only at hSw); go_simp) <;> (try with_reducible rfl)
        try simp only [Act.put, List.setIfInBounds_toArray, List.set_cons_zero, List.set_cons_succ, List.getElem_toArray, List.getElem_cons_succ, List.getElem_cons_zero]
        refine wpAnyH_done (by kernel_rfl) ?_ _
        go_wp2
        go_ret
        exact ⟨rfl, HB.out.trans (hA11.mono HB.out.size)⟩
end Go.Proofs.Yteljhijnablphaa
