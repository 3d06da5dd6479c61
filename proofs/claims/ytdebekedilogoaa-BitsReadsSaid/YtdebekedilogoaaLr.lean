/-
  The law BitsReads.
-/
import Derived.Test.YtdebekedilogoaaBv
namespace Go.Proofs.Ytdebekedilogoaa
open Go.RowKit
set_option linter.unusedVariables false
set_option linter.unusedSimpArgs false
set_option maxRecDepth 4000

set_option maxHeartbeats 12800000 in
theorem lawReads1 (A : Option Addr) (n0 n c : Nat) (b : List UInt8) (w : World) (hn0 : n = min n0 300) (hb : Bs w A n b) (hc0 : n0 ≤ c) :
    Calls Try.prog 6 #[.slice A n0 c] w fun e w' => e = .returned (.bool true) ∧ Below w.heap.size w w' := by
  have hc : n ≤ c := by omega
  have hn : n ≤ 300 := by omega
  have hmin : min (n0 : Int) 300 = (n : Int) := by omega
  have hmin2 : (if (300 : Int) < (n0 : Int) then (300 : Int) else (n0 : Int)) = (n : Int) := by split <;> omega
  have m1 : (n : Int) ≤ (c : Int) := by omega
  have hl : b.length ≤ 300 := by have := hb.len; omega
  clear hn0
  go_enter Try.func6, Try.ntmps6
  go_wp2
  go_loopw [3] (fun i wr => ∃ k : Nat, k ≤ 4 ∧ i = .int .i64 (k : Int) ∧ Below w.heap.size w wr) (fun i _ => 4 - (intOf i).toNat)
  case atStart => exact ⟨0, by omega, rfl, Below.refl _ _⟩
  case round =>
    obtain ⟨k, hk, rfl, hB⟩ := hrel
    have hbr := hb.below hB
    have hk5 : k = 0 ∨ k = 1 ∨ k = 2 ∨ k = 3 ∨ k = 4 := by omega
    clear hk
    rcases hk5 with rfl | rfl | rfl | rfl | rfl
    · by_cases q : (rOpen b 0 (tg5 3)).2.2 = 0
      · obtain ⟨ct, k', hT⟩ : ∃ ct k', rOpen b 0 (tg5 3) = (ct, k', 0) := ⟨_, _, by rw [← q]⟩
        have hctl : ct.length ≤ 300 := by have := rOpen_len b 0 (tg5 3); rw [hT] at this; simp only at this; omega
        have eK : ((k' : Int) != (k' : Int)) = false := by simp
        cases hp : prsS ct with
        | some ut =>
          obtain ⟨u, t⟩ := ut
          go_wp2_with fail
          refine (octNew A n c b wr hbr (by omega)).mono ?_
          rintro e w1 ⟨g, sv, rfl, hg, hc1, b1⟩
          have hb1 := hbr.below b1
          go_wp2_with fail
          refine (rd0Ok A n c b _ hb1 hc (by omega) ct k' hT u t hp).mono ?_
          rintro e w2 ⟨X2, m2, d2, rfl, s2, hd2, b2⟩
          have hc2 := hc1.below b2
          have z2 := below_st b1 b2
          have hm2 : m2 ≤ 1099511 := by have := s2.len; (try simp at this); omega
          clear hb1 hc1 b1 b2
          go_wp2_with fail
          refine (btRead g 0 b w2 hc2 (by omega)).mono ?_
          rintro e w3 ⟨o3, c1, c2', c3'⟩
          have z3 : Below wr.heap.size wr w3 := Only.below o3 z2 hg z2.size
          obtain ⟨⟨A3, n3, c3, rfl, s3, hk3⟩, hc3⟩ := c3' (by rw [hT]) u t (by rw [hT]; exact hp)
          rw [hT] at hc3
          have s23 : Bs w3 X2 m2 _ := s2.only o3 (hc2.noByte)
          clear c1 c2' c3' hc2 s2 o3
          have hX := Blk.new2 w3 (.int .i64 u) (.slice A3 n3 c3) 25
          have a4 := below_alloc1 w3 (.cells #[.int .i64 u, .slice A3 n3 c3] 25)
          have hc4 := hc3.below a4
          have s24 := s23.below a4
          have z4 := below_st z3 a4
          have s34 := s3.below a4
          clear hc3 s23 z3
          go_upto_region 12 with (fail)
          generalize (w3.alloc (Obj.cells #[.int .i64 u, .slice A3 n3 c3] 25)) = W4 at *
          generalize w3.heap.size = g10 at *
          go_wp2_with fail
          refine (rf5Parse X2 m2 d2 _ W4 s24 hd2 (by omega)).mono ?_
          rintro e w5 ⟨hy5, hno5, b5⟩
          obtain ⟨A4, n4, c4, rfl, o4⟩ := hy5 u t hp
          have s45 := o4.bs.1
          have s35 := s34.below b5
          have hX5 := hX.below b5
          have hc5 := hc4.below b5
          have z5 := below_st z4 b5
          clear hy5 hno5 hX hc4 s24 z4
          have hY := Blk.new2 w5 (.int .i64 u) (.slice A4 n4 c4) 24
          have a6 := below_alloc1 w5 (.cells #[.int .i64 u, .slice A4 n4 c4] 24)
          have hX6 := hX5.below a6
          have hc6 := hc5.below a6
          have z6' := below_st z5 a6
          have s46 := s45.below a6
          have s36 := s35.below a6
          clear hX5 hc5 z5
          go_upto_region 14 with (fail)
          generalize (w5.alloc (Obj.cells #[.int .i64 u, .slice A4 n4 c4] 24)) = W5 at *
          generalize w5.heap.size = g12 at *
          have ST5 : Hid (∀ W, Below W5.heap.size W5 W → (W.cell? ⟨g10, 0, none⟩ = some (.int .i64 u) ∧ W.cell? ⟨g10, 1, none⟩ = some (.slice A3 n3 c3) ∧ W.cell? ⟨g12, 0, none⟩ = some (.int .i64 u) ∧ W.cell? ⟨g12, 1, none⟩ = some (.slice A4 n4 c4)) ∧ Bs W A3 n3 t ∧ Bs W A4 n4 t ∧ Cur W g sv b k' ∧ Below wr.heap.size wr W) :=
            fun W hW => ⟨⟨(hX6.below hW).two.1, (hX6.below hW).two.2.1, (hY.below hW).two.1, (hY.below hW).two.2.1⟩, s36.below hW, s46.below hW, hc6.below hW, below_st z6' hW⟩
          refine wp_region_held_drew (S := fun w' => w'.cell? ⟨g10, 0, none⟩ = some (.int .i64 u) ∧ w'.cell? ⟨g10, 1, none⟩ = some (.slice A3 n3 c3) ∧ w'.cell? ⟨g12, 0, none⟩ = some (.int .i64 u) ∧ w'.cell? ⟨g12, 1, none⟩ = some (.slice A4 n4 c4)) (by kernel_rfl) ?_ (fun hHeld => ?_)
          · (try dsimp only); exact (ST5.out _ (Below.refl _ _)).1
          refine wpAnyH_take (i := 0) (v := ?_) rfl (by kernel_rfl) (by kernel_rfl) (by kernel_rfl) (fun _ _ _ h => h) (Or.inl ⟨by kernel_rfl, ?_⟩) (by assumption) ?_
          rotate_left 1
          · (intro w hSw; (try dsimp only at hSw); go_simp) <;> (try with_reducible rfl)
          try simp only [Act.put, List.setIfInBounds_toArray, List.set_cons_zero, List.set_cons_succ, List.getElem_toArray, List.getElem_cons_succ, List.getElem_cons_zero]
          refine wpAnyH_take (i := 1) (v := ?_) rfl (by kernel_rfl) (by kernel_rfl) (by kernel_rfl) (fun _ _ _ h => h) (Or.inl ⟨by kernel_rfl, ?_⟩) (by assumption) ?_
          rotate_left 1
          · (intro w hSw; (try dsimp only at hSw); go_simp) <;> (try with_reducible rfl)
          try simp only [Act.put, List.setIfInBounds_toArray, List.set_cons_zero, List.set_cons_succ, List.getElem_toArray, List.getElem_cons_succ, List.getElem_cons_zero]
          refine wpAnyH_take (i := 2) (v := ?_) rfl (by kernel_rfl) (by kernel_rfl) (by kernel_rfl) (fun _ _ _ h => h) (Or.inl ⟨by kernel_rfl, ?_⟩) (by assumption) ?_
          rotate_left 1
          · (intro w hSw; (try dsimp only at hSw); go_simp) <;> (try with_reducible rfl)
          try simp only [Act.put, List.setIfInBounds_toArray, List.set_cons_zero, List.set_cons_succ, List.getElem_toArray, List.getElem_cons_succ, List.getElem_cons_zero]
          refine wpAnyH_take (i := 3) (v := undef) rfl (by kernel_rfl) (by kernel_rfl) (by kernel_rfl) (fun _ _ _ h => h) (Or.inr ⟨by kernel_rfl, rfl⟩) (by assumption) ?_
          try simp only [Act.put, List.setIfInBounds_toArray, List.set_cons_zero, List.set_cons_succ, List.getElem_toArray, List.getElem_cons_succ, List.getElem_cons_zero]
          refine wpAnyH_take (i := 4) (v := undef) rfl (by kernel_rfl) (by kernel_rfl) (by kernel_rfl) (fun _ _ _ h => h) (Or.inr ⟨by kernel_rfl, rfl⟩) (by assumption) ?_
          try simp only [Act.put, List.setIfInBounds_toArray, List.set_cons_zero, List.set_cons_succ, List.getElem_toArray, List.getElem_cons_succ, List.getElem_cons_zero]
          refine wpAnyH_take (i := 5) (v := undef) rfl (by kernel_rfl) (by kernel_rfl) (by kernel_rfl) (fun _ _ _ h => h) (Or.inr ⟨by kernel_rfl, rfl⟩) (by assumption) ?_
          try simp only [Act.put, List.setIfInBounds_toArray, List.set_cons_zero, List.set_cons_succ, List.getElem_toArray, List.getElem_cons_succ, List.getElem_cons_zero]
          refine wpAnyH_take (i := 6) (v := undef) rfl (by kernel_rfl) (by kernel_rfl) (by kernel_rfl) (fun _ _ _ h => h) (Or.inr ⟨by kernel_rfl, rfl⟩) (by assumption) ?_
          try simp only [Act.put, List.setIfInBounds_toArray, List.set_cons_zero, List.set_cons_succ, List.getElem_toArray, List.getElem_cons_succ, List.getElem_cons_zero]
          refine wpAnyH_take (i := 7) (v := ?_) rfl (by kernel_rfl) (by kernel_rfl) (by kernel_rfl) (fun _ _ _ h => h) (Or.inl ⟨by kernel_rfl, ?_⟩) (by assumption) ?_
          rotate_left 1
          · (intro w hSw; (try dsimp only at hSw); go_simp) <;> (try with_reducible rfl)
          try simp only [Act.put, List.setIfInBounds_toArray, List.set_cons_zero, List.set_cons_succ, List.getElem_toArray, List.getElem_cons_succ, List.getElem_cons_zero]
          refine wpAnyH_take (i := 8) (v := ?_) rfl (by kernel_rfl) (by kernel_rfl) (by kernel_rfl) (fun _ _ _ h => h) (Or.inl ⟨by kernel_rfl, ?_⟩) (by assumption) ?_
          rotate_left 1
          · (intro w hSw; (try dsimp only at hSw); go_simp) <;> (try with_reducible rfl)
          try simp only [Act.put, List.setIfInBounds_toArray, List.set_cons_zero, List.set_cons_succ, List.getElem_toArray, List.getElem_cons_succ, List.getElem_cons_zero]
          refine wpAnyH_take (i := 9) (v := ?_) rfl (by kernel_rfl) (by kernel_rfl) (by kernel_rfl) (fun _ _ _ h => h) (Or.inl ⟨by kernel_rfl, ?_⟩) (by assumption) ?_
          rotate_left 1
          · (intro w hSw; (try dsimp only at hSw); go_simp) <;> (try with_reducible rfl)
          try simp only [Act.put, List.setIfInBounds_toArray, List.set_cons_zero, List.set_cons_succ, List.getElem_toArray, List.getElem_cons_succ, List.getElem_cons_zero]
          refine wpAnyH_take (i := 10) (v := ?_) rfl (by kernel_rfl) (by kernel_rfl) (by kernel_rfl) (fun _ _ _ h => h) (Or.inl ⟨by kernel_rfl, ?_⟩) (by assumption) ?_
          rotate_left 1
          · (intro w hSw; (try dsimp only at hSw); go_simp) <;> (try with_reducible rfl)
          try simp only [Act.put, List.setIfInBounds_toArray, List.set_cons_zero, List.set_cons_succ, List.getElem_toArray, List.getElem_cons_succ, List.getElem_cons_zero]
          refine wpAnyH_take (i := 11) (v := ?_) rfl (by kernel_rfl) (by kernel_rfl) (by kernel_rfl) (fun _ _ _ h => h) (Or.inl ⟨by kernel_rfl, ?_⟩) (by assumption) ?_
          rotate_left 1
          · (intro w hSw; (try dsimp only at hSw); go_simp) <;> (try with_reducible rfl)
          try simp only [Act.put, List.setIfInBounds_toArray, List.set_cons_zero, List.set_cons_succ, List.getElem_toArray, List.getElem_cons_succ, List.getElem_cons_zero]
          refine wpAnyH_take (i := 12) (v := ?_) rfl (by kernel_rfl) (by kernel_rfl) (by kernel_rfl) (fun _ _ _ h => h) (Or.inl ⟨by kernel_rfl, ?_⟩) (by assumption) ?_
          rotate_left 1
          · (intro w hSw; (try dsimp only at hSw); go_simp) <;> (try with_reducible rfl)
          try simp only [Act.put, List.setIfInBounds_toArray, List.set_cons_zero, List.set_cons_succ, List.getElem_toArray, List.getElem_cons_succ, List.getElem_cons_zero]
          refine wpAnyH_take (i := 14) (v := ?_) rfl (by kernel_rfl) (by kernel_rfl) (by kernel_rfl) (fun _ _ _ h => h) (Or.inl ⟨by kernel_rfl, ?_⟩) (by assumption) ?_
          rotate_left 1
          · (intro w hSw; (try dsimp only at hSw); go_simp) <;> (try with_reducible rfl)
          try simp only [Act.put, List.setIfInBounds_toArray, List.set_cons_zero, List.set_cons_succ, List.getElem_toArray, List.getElem_cons_succ, List.getElem_cons_zero]
          refine wpAnyH_ready (rs := [13]) (by kernel_rfl) (by simp) ?_
          refine AllReadyH.cons rfl (fun K hK => ?_) AllReadyH.nil
          go_simp
          refine (lw5Of u A3 n3 c3 _).mono ?_
          rintro e w6 ⟨rfl, z6⟩
          have Z6 : Below W5.heap.size W5 w6 := Below.trans (Below.drew (Below.refl _ _)) z6
          go_wp2_with fail
          refine hK.out _ _ ?_ (fun hHeld => ?_)
          · (try dsimp only); exact (ST5.out _ Z6).1
          clear hK K
          try simp only [Act.put, List.setIfInBounds_toArray, List.set_cons_zero, List.set_cons_succ, List.getElem_toArray, List.getElem_cons_succ, List.getElem_cons_zero]
          refine wpAnyH_ready (rs := [15]) (by kernel_rfl) (by simp) ?_
          refine AllReadyH.cons rfl (fun K hK => ?_) AllReadyH.nil
          go_simp
          have SM := rf5Same u u A3 A4 n3 n4 c3 c4 t t w6 (ST5.out _ Z6).2.1 (ST5.out _ Z6).2.2.1
          rw [decide_eq_true rfl] at SM
          refine SM.mono ?_
          rintro e w7 ⟨rfl, z7⟩
          have Z7 := below_st Z6 z7
          go_wp2_with fail
          refine hK.out _ _ ?_ (fun hHeld => ?_)
          · (try dsimp only); exact (ST5.out _ Z7).1
          clear hK K
          try simp only [Act.put, List.setIfInBounds_toArray, List.set_cons_zero, List.set_cons_succ, List.getElem_toArray, List.getElem_cons_succ, List.getElem_cons_zero]
          refine wpAnyH_take (i := 16) (v := ?_) rfl (by kernel_rfl) (by kernel_rfl) (by kernel_rfl) (fun _ _ _ h => h) (Or.inl ⟨by kernel_rfl, ?_⟩) (by assumption) ?_
          rotate_left 1
          · (intro w hSw; (try dsimp only at hSw); go_simp) <;> (try with_reducible rfl)
          try simp only [Act.put, List.setIfInBounds_toArray, List.set_cons_zero, List.set_cons_succ, List.getElem_toArray, List.getElem_cons_succ, List.getElem_cons_zero]
          refine wpAnyH_take (i := 17) (v := ?_) rfl (by kernel_rfl) (by kernel_rfl) (by kernel_rfl) (fun _ _ _ h => h) (Or.inl ⟨by kernel_rfl, ?_⟩) (by assumption) ?_
          rotate_left 1
          · (intro w hSw; (try dsimp only at hSw); go_simp) <;> (try with_reducible rfl)
          try simp only [Act.put, List.setIfInBounds_toArray, List.set_cons_zero, List.set_cons_succ, List.getElem_toArray, List.getElem_cons_succ, List.getElem_cons_zero]
          refine wpAnyH_take (i := 18) (v := ?_) rfl (by kernel_rfl) (by kernel_rfl) (by kernel_rfl) (fun _ _ _ h => h) (Or.inl ⟨by kernel_rfl, ?_⟩) (by assumption) ?_
          rotate_left 1
          · (intro w hSw; (try dsimp only at hSw); go_simp) <;> (try with_reducible rfl)
          try simp only [Act.put, List.setIfInBounds_toArray, List.set_cons_zero, List.set_cons_succ, List.getElem_toArray, List.getElem_cons_succ, List.getElem_cons_zero]
          refine wpAnyH_done (by kernel_rfl) ?_ _
          obtain ⟨_, _, _, hc7, Z7'⟩ := ST5.out _ Z7
          clear ST5 hX6 hY hc6 z6'
          have B9 := below_st hB Z7'
          go_wp2_with fail
          refine (curAt g k' b _ hc7).mono ?_
          rintro e w9 ⟨rfl, hw9⟩
          obtain rfl : w7 = w9 := hw9
          go_wp2
          go_roundw
          case rel => exact ⟨1, by omega, rfl, B9⟩
          case measure => simp [intOf]
        | none =>
          go_wp2_with fail
          refine (octNew A n c b wr hbr (by omega)).mono ?_
          rintro e w1 ⟨g, sv, rfl, hg, hc1, b1⟩
          have hb1 := hbr.below b1
          go_wp2_with fail
          refine (rd0No A n c b _ hb1 hc (by omega) ct k' hT hp).mono ?_
          rintro e w2 ⟨X2, m2, d2, rfl, s2, hd2, b2⟩
          have hc2 := hc1.below b2
          have z2 := below_st b1 b2
          have hm2 : m2 ≤ 1099511 := by have := s2.len; (try simp at this); omega
          clear hb1 hc1 b1 b2
          go_wp2_with fail
          refine (btRead g 0 b w2 hc2 (by omega)).mono ?_
          rintro e w3 ⟨o3, c1, c2', c3'⟩
          have z3 : Below wr.heap.size wr w3 := Only.below o3 z2 hg z2.size
          obtain ⟨rfl, hc3⟩ := c2' (by rw [hT]) (by rw [hT]; exact hp)
          have s23 : Bs w3 X2 m2 _ := s2.only o3 (hc2.noByte)
          clear c1 c2' c3' hc2 s2 o3
          have hX := Blk.new2 w3 (.int .i64 0) (.slice none 0 0) 25
          have a4 := below_alloc1 w3 (.cells #[.int .i64 0, .slice none 0 0] 25)
          have hc4 := hc3.below a4
          have s24 := s23.below a4
          have z4 := below_st z3 a4
          clear hc3 s23 z3
          go_upto_region 12 with (fail)
          generalize (w3.alloc (Obj.cells #[.int .i64 0, .slice none 0 0] 25)) = W4 at *
          generalize w3.heap.size = g10 at *
          go_wp2_with fail
          refine (rf5Parse X2 m2 d2 _ W4 s24 hd2 (by omega)).mono ?_
          rintro e w5 ⟨hy5, hno5, b5⟩
          obtain rfl := hno5 rfl
          have hX5 := hX.below b5
          have hc5 := hc4.below b5
          have z5 := below_st z4 b5
          clear hy5 hno5 hX hc4 s24 z4
          have hY := Blk.new2 w5 (.int .i64 0) (.slice none 0 0) 24
          have a6 := below_alloc1 w5 (.cells #[.int .i64 0, .slice none 0 0] 24)
          have hX6 := hX5.below a6
          have hc6 := hc5.below a6
          have z6' := below_st z5 a6
          clear hX5 hc5 z5
          go_upto_region 14 with (fail)
          generalize (w5.alloc (Obj.cells #[.int .i64 0, .slice none 0 0] 24)) = W5 at *
          generalize w5.heap.size = g12 at *
          have ST5 : Hid (∀ W, Below W5.heap.size W5 W → (W.cell? ⟨g10, 0, none⟩ = some (.int .i64 0) ∧ W.cell? ⟨g10, 1, none⟩ = some (.slice none 0 0) ∧ W.cell? ⟨g12, 0, none⟩ = some (.int .i64 0) ∧ W.cell? ⟨g12, 1, none⟩ = some (.slice none 0 0)) ∧ Bs W none 0 [] ∧ Bs W none 0 [] ∧ Cur W g sv b 0 ∧ Below wr.heap.size wr W) :=
            fun W hW => ⟨⟨(hX6.below hW).two.1, (hX6.below hW).two.2.1, (hY.below hW).two.1, (hY.below hW).two.2.1⟩, Bs.nil _ _, Bs.nil _ _, hc6.below hW, below_st z6' hW⟩
          refine wp_region_held_drew (S := fun w' => w'.cell? ⟨g10, 0, none⟩ = some (.int .i64 0) ∧ w'.cell? ⟨g10, 1, none⟩ = some (.slice none 0 0) ∧ w'.cell? ⟨g12, 0, none⟩ = some (.int .i64 0) ∧ w'.cell? ⟨g12, 1, none⟩ = some (.slice none 0 0)) (by kernel_rfl) ?_ (fun hHeld => ?_)
          · (try dsimp only); exact (ST5.out _ (Below.refl _ _)).1
          refine wpAnyH_take (i := 0) (v := ?_) rfl (by kernel_rfl) (by kernel_rfl) (by kernel_rfl) (fun _ _ _ h => h) (Or.inl ⟨by kernel_rfl, ?_⟩) (by assumption) ?_
          rotate_left 1
          · (intro w hSw; (try dsimp only at hSw); go_simp) <;> (try with_reducible rfl)
          try simp only [Act.put, List.setIfInBounds_toArray, List.set_cons_zero, List.set_cons_succ, List.getElem_toArray, List.getElem_cons_succ, List.getElem_cons_zero]
          refine wpAnyH_take (i := 1) (v := ?_) rfl (by kernel_rfl) (by kernel_rfl) (by kernel_rfl) (fun _ _ _ h => h) (Or.inl ⟨by kernel_rfl, ?_⟩) (by assumption) ?_
          rotate_left 1
          · (intro w hSw; (try dsimp only at hSw); go_simp) <;> (try with_reducible rfl)
          try simp only [Act.put, List.setIfInBounds_toArray, List.set_cons_zero, List.set_cons_succ, List.getElem_toArray, List.getElem_cons_succ, List.getElem_cons_zero]
          refine wpAnyH_take (i := 2) (v := ?_) rfl (by kernel_rfl) (by kernel_rfl) (by kernel_rfl) (fun _ _ _ h => h) (Or.inl ⟨by kernel_rfl, ?_⟩) (by assumption) ?_
          rotate_left 1
          · (intro w hSw; (try dsimp only at hSw); go_simp) <;> (try with_reducible rfl)
          try simp only [Act.put, List.setIfInBounds_toArray, List.set_cons_zero, List.set_cons_succ, List.getElem_toArray, List.getElem_cons_succ, List.getElem_cons_zero]
          refine wpAnyH_take (i := 3) (v := ?_) rfl (by kernel_rfl) (by kernel_rfl) (by kernel_rfl) (fun _ _ _ h => h) (Or.inl ⟨by kernel_rfl, ?_⟩) (by assumption) ?_
          rotate_left 1
          · (intro w hSw; (try dsimp only at hSw); go_simp) <;> (try with_reducible rfl)
          try simp only [Act.put, List.setIfInBounds_toArray, List.set_cons_zero, List.set_cons_succ, List.getElem_toArray, List.getElem_cons_succ, List.getElem_cons_zero]
          refine wpAnyH_take (i := 5) (v := ?_) rfl (by kernel_rfl) (by kernel_rfl) (by kernel_rfl) (fun _ _ _ h => h) (Or.inl ⟨by kernel_rfl, ?_⟩) (by assumption) ?_
          rotate_left 1
          · (intro w hSw; (try dsimp only at hSw); go_simp) <;> (try with_reducible rfl)
          try simp only [Act.put, List.setIfInBounds_toArray, List.set_cons_zero, List.set_cons_succ, List.getElem_toArray, List.getElem_cons_succ, List.getElem_cons_zero]
          refine wpAnyH_ready (rs := [4]) (by kernel_rfl) (by simp) ?_
          refine AllReadyH.cons rfl (fun K hK => ?_) AllReadyH.nil
          go_simp
          refine (lw5Of 0 none 0 0 _).mono ?_
          rintro e w6 ⟨rfl, z6⟩
          have Z6 : Below W5.heap.size W5 w6 := Below.trans (Below.drew (Below.refl _ _)) z6
          go_wp2_with fail
          refine hK.out _ _ ?_ (fun hHeld => ?_)
          · (try dsimp only); exact (ST5.out _ Z6).1
          clear hK K
          try simp only [Act.put, List.setIfInBounds_toArray, List.set_cons_zero, List.set_cons_succ, List.getElem_toArray, List.getElem_cons_succ, List.getElem_cons_zero]
          refine wpAnyH_ready (rs := [6]) (by kernel_rfl) (by simp) ?_
          refine AllReadyH.cons rfl (fun K hK => ?_) AllReadyH.nil
          go_simp
          have SM := rf5Same 0 0 none none 0 0 0 0 [] [] w6 (Bs.nil _ _) (Bs.nil _ _)
          rw [decide_eq_true rfl] at SM
          refine SM.mono ?_
          rintro e w7 ⟨rfl, z7⟩
          have Z7 := below_st Z6 z7
          go_wp2_with fail
          refine hK.out _ _ ?_ (fun hHeld => ?_)
          · (try dsimp only); exact (ST5.out _ Z7).1
          clear hK K
          try simp only [Act.put, List.setIfInBounds_toArray, List.set_cons_zero, List.set_cons_succ, List.getElem_toArray, List.getElem_cons_succ, List.getElem_cons_zero]
          refine wpAnyH_take (i := 7) (v := ?_) rfl (by kernel_rfl) (by kernel_rfl) (by kernel_rfl) (fun _ _ _ h => h) (Or.inl ⟨by kernel_rfl, ?_⟩) (by assumption) ?_
          rotate_left 1
          · (intro w hSw; (try dsimp only at hSw); go_simp) <;> (try with_reducible rfl)
          try simp only [Act.put, List.setIfInBounds_toArray, List.set_cons_zero, List.set_cons_succ, List.getElem_toArray, List.getElem_cons_succ, List.getElem_cons_zero]
          refine wpAnyH_take (i := 8) (v := ?_) rfl (by kernel_rfl) (by kernel_rfl) (by kernel_rfl) (fun _ _ _ h => h) (Or.inl ⟨by kernel_rfl, ?_⟩) (by assumption) ?_
          rotate_left 1
          · (intro w hSw; (try dsimp only at hSw); go_simp) <;> (try with_reducible rfl)
          try simp only [Act.put, List.setIfInBounds_toArray, List.set_cons_zero, List.set_cons_succ, List.getElem_toArray, List.getElem_cons_succ, List.getElem_cons_zero]
          refine wpAnyH_take (i := 9) (v := undef) rfl (by kernel_rfl) (by kernel_rfl) (by kernel_rfl) (fun _ _ _ h => h) (Or.inr ⟨by kernel_rfl, rfl⟩) (by assumption) ?_
          try simp only [Act.put, List.setIfInBounds_toArray, List.set_cons_zero, List.set_cons_succ, List.getElem_toArray, List.getElem_cons_succ, List.getElem_cons_zero]
          refine wpAnyH_take (i := 10) (v := undef) rfl (by kernel_rfl) (by kernel_rfl) (by kernel_rfl) (fun _ _ _ h => h) (Or.inr ⟨by kernel_rfl, rfl⟩) (by assumption) ?_
          try simp only [Act.put, List.setIfInBounds_toArray, List.set_cons_zero, List.set_cons_succ, List.getElem_toArray, List.getElem_cons_succ, List.getElem_cons_zero]
          refine wpAnyH_take (i := 11) (v := undef) rfl (by kernel_rfl) (by kernel_rfl) (by kernel_rfl) (fun _ _ _ h => h) (Or.inr ⟨by kernel_rfl, rfl⟩) (by assumption) ?_
          try simp only [Act.put, List.setIfInBounds_toArray, List.set_cons_zero, List.set_cons_succ, List.getElem_toArray, List.getElem_cons_succ, List.getElem_cons_zero]
          refine wpAnyH_take (i := 12) (v := undef) rfl (by kernel_rfl) (by kernel_rfl) (by kernel_rfl) (fun _ _ _ h => h) (Or.inr ⟨by kernel_rfl, rfl⟩) (by assumption) ?_
          try simp only [Act.put, List.setIfInBounds_toArray, List.set_cons_zero, List.set_cons_succ, List.getElem_toArray, List.getElem_cons_succ, List.getElem_cons_zero]
          refine wpAnyH_take (i := 13) (v := undef) rfl (by kernel_rfl) (by kernel_rfl) (by kernel_rfl) (fun _ _ _ h => h) (Or.inr ⟨by kernel_rfl, rfl⟩) (by assumption) ?_
          try simp only [Act.put, List.setIfInBounds_toArray, List.set_cons_zero, List.set_cons_succ, List.getElem_toArray, List.getElem_cons_succ, List.getElem_cons_zero]
          refine wpAnyH_take (i := 14) (v := undef) rfl (by kernel_rfl) (by kernel_rfl) (by kernel_rfl) (fun _ _ _ h => h) (Or.inr ⟨by kernel_rfl, rfl⟩) (by assumption) ?_
          try simp only [Act.put, List.setIfInBounds_toArray, List.set_cons_zero, List.set_cons_succ, List.getElem_toArray, List.getElem_cons_succ, List.getElem_cons_zero]
          refine wpAnyH_take (i := 15) (v := undef) rfl (by kernel_rfl) (by kernel_rfl) (by kernel_rfl) (fun _ _ _ h => h) (Or.inr ⟨by kernel_rfl, rfl⟩) (by assumption) ?_
          try simp only [Act.put, List.setIfInBounds_toArray, List.set_cons_zero, List.set_cons_succ, List.getElem_toArray, List.getElem_cons_succ, List.getElem_cons_zero]
          refine wpAnyH_take (i := 16) (v := undef) rfl (by kernel_rfl) (by kernel_rfl) (by kernel_rfl) (fun _ _ _ h => h) (Or.inr ⟨by kernel_rfl, rfl⟩) (by assumption) ?_
          try simp only [Act.put, List.setIfInBounds_toArray, List.set_cons_zero, List.set_cons_succ, List.getElem_toArray, List.getElem_cons_succ, List.getElem_cons_zero]
          refine wpAnyH_take (i := 17) (v := ?_) rfl (by kernel_rfl) (by kernel_rfl) (by kernel_rfl) (fun _ _ _ h => h) (Or.inl ⟨by kernel_rfl, ?_⟩) (by assumption) ?_
          rotate_left 1
          · (intro w hSw; (try dsimp only at hSw); go_simp) <;> (try with_reducible rfl)
          try simp only [Act.put, List.setIfInBounds_toArray, List.set_cons_zero, List.set_cons_succ, List.getElem_toArray, List.getElem_cons_succ, List.getElem_cons_zero]
          refine wpAnyH_take (i := 18) (v := ?_) rfl (by kernel_rfl) (by kernel_rfl) (by kernel_rfl) (fun _ _ _ h => h) (Or.inl ⟨by kernel_rfl, ?_⟩) (by assumption) ?_
          rotate_left 1
          · (intro w hSw; (try dsimp only at hSw); go_simp) <;> (try with_reducible rfl)
          try simp only [Act.put, List.setIfInBounds_toArray, List.set_cons_zero, List.set_cons_succ, List.getElem_toArray, List.getElem_cons_succ, List.getElem_cons_zero]
          refine wpAnyH_done (by kernel_rfl) ?_ _
          obtain ⟨_, _, _, hc7, Z7'⟩ := ST5.out _ Z7
          clear ST5 hX6 hY hc6 z6'
          have B9 := below_st hB Z7'
          go_wp2_with fail
          refine (curAt g 0 b _ hc7).mono ?_
          rintro e w9 ⟨rfl, hw9⟩
          obtain rfl : w7 = w9 := hw9
          go_wp2
          go_roundw
          case rel => exact ⟨1, by omega, rfl, B9⟩
          case measure => simp [intOf]
      · have hno := rOpen_no b 0 (tg5 3) q
        obtain ⟨E, hEE⟩ : ∃ E, (rOpen b 0 (tg5 3)).2.2 = E := ⟨_, rfl⟩
        have qE : E ≠ 0 := by rw [← hEE]; exact q
        have eE : (E != E) = false := by simp
        have eE0 : (E != 0) = true := by simpa using qE
        have eE1 : (E == 0) = false := by simpa using qE
        go_wp2_with fail
        refine (octNew A n c b wr hbr (by omega)).mono ?_
        rintro e w1 ⟨g, sv, rfl, hg, hc1, b1⟩
        have hb1 := hbr.below b1
        go_wp2_with fail
        refine (hEE ▸ rd0Err A n c b _ hb1 hc (by omega) q).mono ?_
        rintro e w2 ⟨X2, m2, d2, rfl, s2, hd2, b2⟩
        have hc2 := hc1.below b2
        have z2 := below_st b1 b2
        have hm2 : m2 ≤ 1099511 := by have := s2.len; (try simp at this); omega
        clear hb1 hc1 b1 b2
        go_wp2_with fail
        refine (btRead g 0 b w2 hc2 (by omega)).mono ?_
        rintro e w3 ⟨o3, c1, c2', c3'⟩
        have z3 : Below wr.heap.size wr w3 := Only.below o3 z2 hg z2.size
        obtain ⟨rfl, hc3⟩ := c1 q
        rw [hEE]
        have s23 : Bs w3 X2 m2 _ := s2.only o3 (hc2.noByte)
        clear c1 c2' c3' hc2 s2 o3
        have hX := Blk.new2 w3 (.int .i64 0) (.slice none 0 0) 25
        have a4 := below_alloc1 w3 (.cells #[.int .i64 0, .slice none 0 0] 25)
        have hc4 := hc3.below a4
        have s24 := s23.below a4
        have z4 := below_st z3 a4
        clear hc3 s23 z3
        go_upto_region 12 with (fail)
        generalize (w3.alloc (Obj.cells #[.int .i64 0, .slice none 0 0] 25)) = W4 at *
        generalize w3.heap.size = g10 at *
        go_wp2_with fail
        refine (rf5Parse X2 m2 d2 _ W4 s24 hd2 (by omega)).mono ?_
        rintro e w5 ⟨hy5, hno5, b5⟩
        obtain rfl := hno5 rfl
        have hX5 := hX.below b5
        have hc5 := hc4.below b5
        have z5 := below_st z4 b5
        clear hy5 hno5 hX hc4 s24 z4
        have hY := Blk.new2 w5 (.int .i64 0) (.slice none 0 0) 24
        have a6 := below_alloc1 w5 (.cells #[.int .i64 0, .slice none 0 0] 24)
        have hX6 := hX5.below a6
        have hc6 := hc5.below a6
        have z6' := below_st z5 a6
        clear hX5 hc5 z5
        go_upto_region 14 with (fail)
        generalize (w5.alloc (Obj.cells #[.int .i64 0, .slice none 0 0] 24)) = W5 at *
        generalize w5.heap.size = g12 at *
        have ST5 : Hid (∀ W, Below W5.heap.size W5 W → (W.cell? ⟨g10, 0, none⟩ = some (.int .i64 0) ∧ W.cell? ⟨g10, 1, none⟩ = some (.slice none 0 0) ∧ W.cell? ⟨g12, 0, none⟩ = some (.int .i64 0) ∧ W.cell? ⟨g12, 1, none⟩ = some (.slice none 0 0)) ∧ Bs W none 0 [] ∧ Bs W none 0 [] ∧ Cur W g sv b 0 ∧ Below wr.heap.size wr W) :=
          fun W hW => ⟨⟨(hX6.below hW).two.1, (hX6.below hW).two.2.1, (hY.below hW).two.1, (hY.below hW).two.2.1⟩, Bs.nil _ _, Bs.nil _ _, hc6.below hW, below_st z6' hW⟩
        refine wp_region_held_drew (S := fun w' => w'.cell? ⟨g10, 0, none⟩ = some (.int .i64 0) ∧ w'.cell? ⟨g10, 1, none⟩ = some (.slice none 0 0) ∧ w'.cell? ⟨g12, 0, none⟩ = some (.int .i64 0) ∧ w'.cell? ⟨g12, 1, none⟩ = some (.slice none 0 0)) (by kernel_rfl) ?_ (fun hHeld => ?_)
        · (try dsimp only); exact (ST5.out _ (Below.refl _ _)).1
        refine wpAnyH_take (i := 0) (v := ?_) rfl (by kernel_rfl) (by kernel_rfl) (by kernel_rfl) (fun _ _ _ h => h) (Or.inl ⟨by kernel_rfl, ?_⟩) (by assumption) ?_
        rotate_left 1
        · (intro w hSw; (try dsimp only at hSw); go_simp) <;> (try with_reducible rfl)
        try simp only [Act.put, List.setIfInBounds_toArray, List.set_cons_zero, List.set_cons_succ, List.getElem_toArray, List.getElem_cons_succ, List.getElem_cons_zero]
        refine wpAnyH_take (i := 1) (v := ?_) rfl (by kernel_rfl) (by kernel_rfl) (by kernel_rfl) (fun _ _ _ h => h) (Or.inl ⟨by kernel_rfl, ?_⟩) (by assumption) ?_
        rotate_left 1
        · (intro w hSw; (try dsimp only at hSw); go_simp) <;> (try with_reducible rfl)
        try simp only [Act.put, List.setIfInBounds_toArray, List.set_cons_zero, List.set_cons_succ, List.getElem_toArray, List.getElem_cons_succ, List.getElem_cons_zero]
        refine wpAnyH_take (i := 2) (v := ?_) rfl (by kernel_rfl) (by kernel_rfl) (by kernel_rfl) (fun _ _ _ h => h) (Or.inl ⟨by kernel_rfl, ?_⟩) (by assumption) ?_
        rotate_left 1
        · (intro w hSw; (try dsimp only at hSw); go_simp) <;> (try with_reducible rfl)
        try simp only [Act.put, List.setIfInBounds_toArray, List.set_cons_zero, List.set_cons_succ, List.getElem_toArray, List.getElem_cons_succ, List.getElem_cons_zero]
        refine wpAnyH_take (i := 3) (v := ?_) rfl (by kernel_rfl) (by kernel_rfl) (by kernel_rfl) (fun _ _ _ h => h) (Or.inl ⟨by kernel_rfl, ?_⟩) (by assumption) ?_
        rotate_left 1
        · (intro w hSw; (try dsimp only at hSw); go_simp) <;> (try with_reducible rfl)
        try simp only [Act.put, List.setIfInBounds_toArray, List.set_cons_zero, List.set_cons_succ, List.getElem_toArray, List.getElem_cons_succ, List.getElem_cons_zero]
        refine wpAnyH_take (i := 5) (v := ?_) rfl (by kernel_rfl) (by kernel_rfl) (by kernel_rfl) (fun _ _ _ h => h) (Or.inl ⟨by kernel_rfl, ?_⟩) (by assumption) ?_
        rotate_left 1
        · (intro w hSw; (try dsimp only at hSw); go_simp) <;> (try with_reducible rfl)
        try simp only [Act.put, List.setIfInBounds_toArray, List.set_cons_zero, List.set_cons_succ, List.getElem_toArray, List.getElem_cons_succ, List.getElem_cons_zero]
        refine wpAnyH_ready (rs := [4]) (by kernel_rfl) (by simp) ?_
        refine AllReadyH.cons rfl (fun K hK => ?_) AllReadyH.nil
        go_simp
        refine (lw5Of 0 none 0 0 _).mono ?_
        rintro e w6 ⟨rfl, z6⟩
        have Z6 : Below W5.heap.size W5 w6 := Below.trans (Below.drew (Below.refl _ _)) z6
        go_wp2_with fail
        refine hK.out _ _ ?_ (fun hHeld => ?_)
        · (try dsimp only); exact (ST5.out _ Z6).1
        clear hK K
        try simp only [Act.put, List.setIfInBounds_toArray, List.set_cons_zero, List.set_cons_succ, List.getElem_toArray, List.getElem_cons_succ, List.getElem_cons_zero]
        refine wpAnyH_ready (rs := [6]) (by kernel_rfl) (by simp) ?_
        refine AllReadyH.cons rfl (fun K hK => ?_) AllReadyH.nil
        go_simp
        have SM := rf5Same 0 0 none none 0 0 0 0 [] [] w6 (Bs.nil _ _) (Bs.nil _ _)
        rw [decide_eq_true rfl] at SM
        refine SM.mono ?_
        rintro e w7 ⟨rfl, z7⟩
        have Z7 := below_st Z6 z7
        go_wp2_with fail
        refine hK.out _ _ ?_ (fun hHeld => ?_)
        · (try dsimp only); exact (ST5.out _ Z7).1
        clear hK K
        try simp only [Act.put, List.setIfInBounds_toArray, List.set_cons_zero, List.set_cons_succ, List.getElem_toArray, List.getElem_cons_succ, List.getElem_cons_zero]
        refine wpAnyH_take (i := 7) (v := ?_) rfl (by kernel_rfl) (by kernel_rfl) (by kernel_rfl) (fun _ _ _ h => h) (Or.inl ⟨by kernel_rfl, ?_⟩) (by assumption) ?_
        rotate_left 1
        · (intro w hSw; (try dsimp only at hSw); go_simp) <;> (try with_reducible rfl)
        try simp only [Act.put, List.setIfInBounds_toArray, List.set_cons_zero, List.set_cons_succ, List.getElem_toArray, List.getElem_cons_succ, List.getElem_cons_zero]
        refine wpAnyH_take (i := 8) (v := ?_) rfl (by kernel_rfl) (by kernel_rfl) (by kernel_rfl) (fun _ _ _ h => h) (Or.inl ⟨by kernel_rfl, ?_⟩) (by assumption) ?_
        rotate_left 1
        · (intro w hSw; (try dsimp only at hSw); go_simp) <;> (try with_reducible rfl)
        try simp only [Act.put, List.setIfInBounds_toArray, List.set_cons_zero, List.set_cons_succ, List.getElem_toArray, List.getElem_cons_succ, List.getElem_cons_zero]
        refine wpAnyH_take (i := 9) (v := undef) rfl (by kernel_rfl) (by kernel_rfl) (by kernel_rfl) (fun _ _ _ h => h) (Or.inr ⟨by kernel_rfl, rfl⟩) (by assumption) ?_
        try simp only [Act.put, List.setIfInBounds_toArray, List.set_cons_zero, List.set_cons_succ, List.getElem_toArray, List.getElem_cons_succ, List.getElem_cons_zero]
        refine wpAnyH_take (i := 10) (v := undef) rfl (by kernel_rfl) (by kernel_rfl) (by kernel_rfl) (fun _ _ _ h => h) (Or.inr ⟨by kernel_rfl, rfl⟩) (by assumption) ?_
        try simp only [Act.put, List.setIfInBounds_toArray, List.set_cons_zero, List.set_cons_succ, List.getElem_toArray, List.getElem_cons_succ, List.getElem_cons_zero]
        refine wpAnyH_take (i := 11) (v := undef) rfl (by kernel_rfl) (by kernel_rfl) (by kernel_rfl) (fun _ _ _ h => h) (Or.inr ⟨by kernel_rfl, rfl⟩) (by assumption) ?_
        try simp only [Act.put, List.setIfInBounds_toArray, List.set_cons_zero, List.set_cons_succ, List.getElem_toArray, List.getElem_cons_succ, List.getElem_cons_zero]
        refine wpAnyH_take (i := 12) (v := undef) rfl (by kernel_rfl) (by kernel_rfl) (by kernel_rfl) (fun _ _ _ h => h) (Or.inr ⟨by kernel_rfl, rfl⟩) (by assumption) ?_
        try simp only [Act.put, List.setIfInBounds_toArray, List.set_cons_zero, List.set_cons_succ, List.getElem_toArray, List.getElem_cons_succ, List.getElem_cons_zero]
        refine wpAnyH_take (i := 13) (v := undef) rfl (by kernel_rfl) (by kernel_rfl) (by kernel_rfl) (fun _ _ _ h => h) (Or.inr ⟨by kernel_rfl, rfl⟩) (by assumption) ?_
        try simp only [Act.put, List.setIfInBounds_toArray, List.set_cons_zero, List.set_cons_succ, List.getElem_toArray, List.getElem_cons_succ, List.getElem_cons_zero]
        refine wpAnyH_take (i := 14) (v := undef) rfl (by kernel_rfl) (by kernel_rfl) (by kernel_rfl) (fun _ _ _ h => h) (Or.inr ⟨by kernel_rfl, rfl⟩) (by assumption) ?_
        try simp only [Act.put, List.setIfInBounds_toArray, List.set_cons_zero, List.set_cons_succ, List.getElem_toArray, List.getElem_cons_succ, List.getElem_cons_zero]
        refine wpAnyH_take (i := 15) (v := undef) rfl (by kernel_rfl) (by kernel_rfl) (by kernel_rfl) (fun _ _ _ h => h) (Or.inr ⟨by kernel_rfl, rfl⟩) (by assumption) ?_
        try simp only [Act.put, List.setIfInBounds_toArray, List.set_cons_zero, List.set_cons_succ, List.getElem_toArray, List.getElem_cons_succ, List.getElem_cons_zero]
        refine wpAnyH_take (i := 16) (v := undef) rfl (by kernel_rfl) (by kernel_rfl) (by kernel_rfl) (fun _ _ _ h => h) (Or.inr ⟨by kernel_rfl, rfl⟩) (by assumption) ?_
        try simp only [Act.put, List.setIfInBounds_toArray, List.set_cons_zero, List.set_cons_succ, List.getElem_toArray, List.getElem_cons_succ, List.getElem_cons_zero]
        refine wpAnyH_take (i := 17) (v := ?_) rfl (by kernel_rfl) (by kernel_rfl) (by kernel_rfl) (fun _ _ _ h => h) (Or.inl ⟨by kernel_rfl, ?_⟩) (by assumption) ?_
        rotate_left 1
        · (intro w hSw; (try dsimp only at hSw); go_simp) <;> (try with_reducible rfl)
        try simp only [Act.put, List.setIfInBounds_toArray, List.set_cons_zero, List.set_cons_succ, List.getElem_toArray, List.getElem_cons_succ, List.getElem_cons_zero]
        refine wpAnyH_take (i := 18) (v := ?_) rfl (by kernel_rfl) (by kernel_rfl) (by kernel_rfl) (fun _ _ _ h => h) (Or.inl ⟨by kernel_rfl, ?_⟩) (by assumption) ?_
        rotate_left 1
        · (intro w hSw; (try dsimp only at hSw); go_simp) <;> (try with_reducible rfl)
        try simp only [Act.put, List.setIfInBounds_toArray, List.set_cons_zero, List.set_cons_succ, List.getElem_toArray, List.getElem_cons_succ, List.getElem_cons_zero]
        refine wpAnyH_done (by kernel_rfl) ?_ _
        obtain ⟨_, _, _, hc7, Z7'⟩ := ST5.out _ Z7
        clear ST5 hX6 hY hc6 z6'
        have B9 := below_st hB Z7'
        go_wp2_with fail
        refine (curAt g 0 b _ hc7).mono ?_
        rintro e w9 ⟨rfl, hw9⟩
        obtain rfl : w7 = w9 := hw9
        go_wp2
        go_roundw
        case rel => exact ⟨1, by omega, rfl, B9⟩
        case measure => simp [intOf]
    · by_cases q : (rOpen b 0 (tg5 1)).2.2 = 0
      · obtain ⟨ct, k', hT⟩ : ∃ ct k', rOpen b 0 (tg5 1) = (ct, k', 0) := ⟨_, _, by rw [← q]⟩
        have hctl : ct.length ≤ 300 := by have := rOpen_len b 0 (tg5 1); rw [hT] at this; simp only at this; omega
        have eK : ((k' : Int) != (k' : Int)) = false := by simp
        rcases prsB_err ct with hp | ⟨hp, hf⟩
        · have hone : ct.length = 1 := by
            by_cases h1 : ct.length = 1
            · exact h1
            · have := prsB_long h1; rw [this] at hp; simp at hp
          have hF := prsB_one hone
          have hcs : (nth ct 0 = 0 ∧ (prsB ct).1 = false) ∨ (nth ct 0 = 255 ∧ (prsB ct).1 = true) := by
            by_cases z0 : nth ct 0 = 0
            · exact .inl ⟨z0, by rw [hF, if_pos z0]⟩
            · by_cases z1 : nth ct 0 = 255
              · exact .inr ⟨z1, by rw [hF, if_neg z0, if_pos z1]⟩
              · rw [hF, if_neg z0, if_neg z1] at hp; simp at hp
          have hRB : rdBool b 0 = ((prsB ct).1, k', 0) := by unfold rdBool; rw [hT]; simp only; rw [if_pos trivial, if_pos hp]
          clear hF
          rcases hcs with ⟨hz, hy⟩ | ⟨hz, hy⟩
          all_goals
            rw [hy] at hRB
            clear hy
            go_wp2_with fail
            refine (octNew A n c b wr hbr (by omega)).mono ?_
            rintro e w1 ⟨g, sv, rfl, hg, hc1, b1⟩
            have hb1 := hbr.below b1
            go_wp2_with fail
            refine (rd1Ok A n c b _ hb1 hc (by omega) ct k' hT hp).mono ?_
            rintro e w2 ⟨X2, m2, d2, rfl, s2, hd2, b2⟩
            have hc2 := hc1.below b2
            have z2 := below_st b1 b2
            have hm2 : m2 ≤ 1099511 := by have := s2.len; (try simp at this); omega
            clear hb1 hc1 b1 b2
            go_wp2_with fail
            have RB := btReadBool g 0 b w2 hc2 (by omega)
            rw [hRB] at RB
            refine RB.mono ?_
            rintro e w3 ⟨rfl, hc3, o3⟩
            have z3 : Below wr.heap.size wr w3 := Only.below o3 z2 hg z2.size
            have s23 : Bs w3 X2 m2 _ := s2.only o3 (hc2.noByte)
            have hm1 : m2 = 1 := by have := s23.len; omega
            subst hm1
            obtain ⟨b', o, rfl, hcell⟩ := s23.at_ (k := 0) (by omega)
            rw [Nat.add_zero, hz] at hcell
            clear RB hc2 s2
            have B9 := below_st hB z3
            go_wp2_with fail
            refine (curAt g k' b _ hc3).mono ?_
            rintro e w9 ⟨rfl, hw9⟩
            obtain rfl : w3 = w9 := hw9
            go_wp2
            go_roundw
            case rel => exact ⟨2, by omega, rfl, B9⟩
            case measure => simp [intOf]
        · have hRB : rdBool b 0 = (false, 0, 6) := by unfold rdBool; rw [hT]; simp only; rw [if_pos trivial, if_neg (by rw [hp]; decide)]
          go_wp2_with fail
          refine (octNew A n c b wr hbr (by omega)).mono ?_
          rintro e w1 ⟨g, sv, rfl, hg, hc1, b1⟩
          have hb1 := hbr.below b1
          go_wp2_with fail
          refine (rd1No A n c b _ hb1 hc (by omega) ct k' hT hp).mono ?_
          rintro e w2 ⟨X2, m2, d2, rfl, s2, hd2, b2⟩
          have hc2 := hc1.below b2
          have z2 := below_st b1 b2
          have hm2 : m2 ≤ 1099511 := by have := s2.len; (try simp at this); omega
          clear hb1 hc1 b1 b2
          go_wp2_with fail
          have RB := btReadBool g 0 b w2 hc2 (by omega)
          rw [hRB] at RB
          refine RB.mono ?_
          rintro e w3 ⟨rfl, hc3, o3⟩
          have z3 : Below wr.heap.size wr w3 := Only.below o3 z2 hg z2.size
          clear RB hc2 s2
          have B9 := below_st hB z3
          go_wp2_with fail
          refine (curAt g 0 b _ hc3).mono ?_
          rintro e w9 ⟨rfl, hw9⟩
          obtain rfl : w3 = w9 := hw9
          go_wp2
          go_roundw
          case rel => exact ⟨2, by omega, rfl, B9⟩
          case measure => simp [intOf]
      · have hno := rOpen_no b 0 (tg5 1) q
        obtain ⟨E, hEE⟩ : ∃ E, (rOpen b 0 (tg5 1)).2.2 = E := ⟨_, rfl⟩
        have qE : E ≠ 0 := by rw [← hEE]; exact q
        have eE : (E != E) = false := by simp
        have eE0 : (E != 0) = true := by simpa using qE
        have eE1 : (E == 0) = false := by simpa using qE
        have hRB : rdBool b 0 = (false, 0, E) := by unfold rdBool; rw [if_neg q, hEE]
        go_wp2_with fail
        refine (octNew A n c b wr hbr (by omega)).mono ?_
        rintro e w1 ⟨g, sv, rfl, hg, hc1, b1⟩
        have hb1 := hbr.below b1
        go_wp2_with fail
        refine (hEE ▸ rd1Err A n c b _ hb1 hc (by omega) q).mono ?_
        rintro e w2 ⟨X2, m2, d2, rfl, s2, hd2, b2⟩
        have hc2 := hc1.below b2
        have z2 := below_st b1 b2
        have hm2 : m2 ≤ 1099511 := by have := s2.len; (try simp at this); omega
        clear hb1 hc1 b1 b2
        go_wp2_with fail
        have RB := btReadBool g 0 b w2 hc2 (by omega)
        rw [hRB] at RB
        refine RB.mono ?_
        rintro e w3 ⟨rfl, hc3, o3⟩
        have z3 : Below wr.heap.size wr w3 := Only.below o3 z2 hg z2.size
        clear RB hc2 s2
        have B9 := below_st hB z3
        go_wp2_with fail
        refine (curAt g 0 b _ hc3).mono ?_
        rintro e w9 ⟨rfl, hw9⟩
        obtain rfl : w3 = w9 := hw9
        go_wp2
        go_roundw
        case rel => exact ⟨2, by omega, rfl, B9⟩
        case measure => simp [intOf]
    · by_cases q : (rOpen b 0 (tg5 5)).2.2 = 0
      · obtain ⟨ct, k', hT⟩ : ∃ ct k', rOpen b 0 (tg5 5) = (ct, k', 0) := ⟨_, _, by rw [← q]⟩
        have hctl : ct.length ≤ 300 := by have := rOpen_len b 0 (tg5 5); rw [hT] at this; simp only at this; omega
        have eK : ((k' : Int) != (k' : Int)) = false := by simp
        by_cases hp : ct.length = 0
        · have hRN : rdNull b 0 = (k', 0) := by unfold rdNull; rw [hT]; simp only; rw [if_pos trivial, if_pos hp]
          go_wp2_with fail
          refine (octNew A n c b wr hbr (by omega)).mono ?_
          rintro e w1 ⟨g, sv, rfl, hg, hc1, b1⟩
          have hb1 := hbr.below b1
          go_wp2_with fail
          refine (rd2Ok A n c b _ hb1 hc (by omega) ct k' hT hp).mono ?_
          rintro e w2 ⟨X2, m2, d2, rfl, s2, hd2, b2⟩
          have hc2 := hc1.below b2
          have z2 := below_st b1 b2
          have hm2 : m2 ≤ 1099511 := by have := s2.len; (try simp at this); omega
          clear hb1 hc1 b1 b2
          go_wp2_with fail
          have RN := btReadNull g 0 b w2 hc2 (by omega)
          rw [hRN] at RN
          refine RN.mono ?_
          rintro e w3 ⟨rfl, hc3, o3⟩
          have z3 : Below wr.heap.size wr w3 := Only.below o3 z2 hg z2.size
          clear RN hc2 s2
          have B9 := below_st hB z3
          go_wp2_with fail
          refine (curAt g k' b _ hc3).mono ?_
          rintro e w9 ⟨rfl, hw9⟩
          obtain rfl : w3 = w9 := hw9
          go_wp2
          go_roundw
          case rel => exact ⟨3, by omega, rfl, B9⟩
          case measure => simp [intOf]
        · have hRN : rdNull b 0 = (0, 6) := by unfold rdNull; rw [hT]; simp only; rw [if_pos trivial, if_neg hp]
          go_wp2_with fail
          refine (octNew A n c b wr hbr (by omega)).mono ?_
          rintro e w1 ⟨g, sv, rfl, hg, hc1, b1⟩
          have hb1 := hbr.below b1
          go_wp2_with fail
          refine (rd2No A n c b _ hb1 hc (by omega) ct k' hT hp).mono ?_
          rintro e w2 ⟨X2, m2, d2, rfl, s2, hd2, b2⟩
          have hc2 := hc1.below b2
          have z2 := below_st b1 b2
          have hm2 : m2 ≤ 1099511 := by have := s2.len; (try simp at this); omega
          clear hb1 hc1 b1 b2
          go_wp2_with fail
          have RN := btReadNull g 0 b w2 hc2 (by omega)
          rw [hRN] at RN
          refine RN.mono ?_
          rintro e w3 ⟨rfl, hc3, o3⟩
          have z3 : Below wr.heap.size wr w3 := Only.below o3 z2 hg z2.size
          clear RN hc2 s2
          have B9 := below_st hB z3
          go_wp2_with fail
          refine (curAt g 0 b _ hc3).mono ?_
          rintro e w9 ⟨rfl, hw9⟩
          obtain rfl : w3 = w9 := hw9
          go_wp2
          go_roundw
          case rel => exact ⟨3, by omega, rfl, B9⟩
          case measure => simp [intOf]
      · have hno := rOpen_no b 0 (tg5 5) q
        obtain ⟨E, hEE⟩ : ∃ E, (rOpen b 0 (tg5 5)).2.2 = E := ⟨_, rfl⟩
        have qE : E ≠ 0 := by rw [← hEE]; exact q
        have eE : (E != E) = false := by simp
        have eE0 : (E != 0) = true := by simpa using qE
        have eE1 : (E == 0) = false := by simpa using qE
        have hRN : rdNull b 0 = (0, E) := by unfold rdNull; rw [if_neg q, hEE]
        go_wp2_with fail
        refine (octNew A n c b wr hbr (by omega)).mono ?_
        rintro e w1 ⟨g, sv, rfl, hg, hc1, b1⟩
        have hb1 := hbr.below b1
        go_wp2_with fail
        refine (hEE ▸ rd2Err A n c b _ hb1 hc (by omega) q).mono ?_
        rintro e w2 ⟨X2, m2, d2, rfl, s2, hd2, b2⟩
        have hc2 := hc1.below b2
        have z2 := below_st b1 b2
        have hm2 : m2 ≤ 1099511 := by have := s2.len; (try simp at this); omega
        clear hb1 hc1 b1 b2
        go_wp2_with fail
        have RN := btReadNull g 0 b w2 hc2 (by omega)
        rw [hRN] at RN
        refine RN.mono ?_
        rintro e w3 ⟨rfl, hc3, o3⟩
        have z3 : Below wr.heap.size wr w3 := Only.below o3 z2 hg z2.size
        clear RN hc2 s2
        have B9 := below_st hB z3
        go_wp2_with fail
        refine (curAt g 0 b _ hc3).mono ?_
        rintro e w9 ⟨rfl, hw9⟩
        obtain rfl : w3 = w9 := hw9
        go_wp2
        go_roundw
        case rel => exact ⟨3, by omega, rfl, B9⟩
        case measure => simp [intOf]
    · by_cases q : (rOpen b 0 (tg5 4)).2.2 = 0
      · obtain ⟨ct, k', hT⟩ : ∃ ct k', rOpen b 0 (tg5 4) = (ct, k', 0) := ⟨_, _, by rw [← q]⟩
        have hctl : ct.length ≤ 300 := by have := rOpen_len b 0 (tg5 4); rw [hT] at this; simp only at this; omega
        have eK : ((k' : Int) != (k' : Int)) = false := by simp
        go_wp2_with fail
        refine (octNew A n c b wr hbr (by omega)).mono ?_
        rintro e w1 ⟨g, sv, rfl, hg, hc1, b1⟩
        have hb1 := hbr.below b1
        go_wp2_with fail
        refine (rd3Ok A n c b _ hb1 hc (by omega) ct k' hT).mono ?_
        rintro e w2 ⟨X2, m2, d2, rfl, s2, hd2, b2⟩
        have hc2 := hc1.below b2
        have z2 := below_st b1 b2
        have hm2 : m2 ≤ 1099511 := by have := s2.len; (try simp at this); omega
        clear hb1 hc1 b1 b2
        go_wp2_with fail
        have RO := btReadOctets g 0 b w2 hc2 (by omega)
        rw [hT] at RO
        refine RO.mono ?_
        rintro e w3 ⟨A3, n3, c3, rfl, s3, hk3, hc3, o3⟩
        have z3 : Below wr.heap.size wr w3 := Only.below o3 z2 hg z2.size
        have s23 : Bs w3 X2 m2 _ := s2.only o3 (hc2.noByte)
        have SM := refSame A3 X2 n3 m2 c3 d2 _ _ w3 s3 s23 (by have h1 := s3.len; (try simp at h1); omega) (by omega)
        rw [decide_eq_true rfl] at SM
        clear RO hc2 s2
        go_wp2_with fail
        refine SM.mono ?_
        rintro e w4 ⟨rfl, q4⟩
        have hc4 := hc3.qt q4
        have z4 := z3.trans q4.below
        have B9 := below_st hB z4
        go_wp2_with fail
        refine (curAt g k' b _ hc4).mono ?_
        rintro e w9 ⟨rfl, hw9⟩
        obtain rfl : w4 = w9 := hw9
        go_wp2
        go_roundw
        case rel => exact ⟨4, by omega, rfl, B9⟩
        case measure => simp [intOf]
      · have hno := rOpen_no b 0 (tg5 4) q
        obtain ⟨E, hEE⟩ : ∃ E, (rOpen b 0 (tg5 4)).2.2 = E := ⟨_, rfl⟩
        have qE : E ≠ 0 := by rw [← hEE]; exact q
        have eE : (E != E) = false := by simp
        have eE0 : (E != 0) = true := by simpa using qE
        have eE1 : (E == 0) = false := by simpa using qE
        go_wp2_with fail
        refine (octNew A n c b wr hbr (by omega)).mono ?_
        rintro e w1 ⟨g, sv, rfl, hg, hc1, b1⟩
        have hb1 := hbr.below b1
        go_wp2_with fail
        refine (hEE ▸ rd3Err A n c b _ hb1 hc (by omega) q).mono ?_
        rintro e w2 ⟨X2, m2, d2, rfl, s2, hd2, b2⟩
        have hc2 := hc1.below b2
        have z2 := below_st b1 b2
        have hm2 : m2 ≤ 1099511 := by have := s2.len; (try simp at this); omega
        clear hb1 hc1 b1 b2
        go_wp2_with fail
        have RO := btReadOctets g 0 b w2 hc2 (by omega)
        rw [hno, hEE] at RO
        refine RO.mono ?_
        rintro e w3 ⟨A3, n3, c3, rfl, s3, hk3, hc3, o3⟩
        have z3 : Below wr.heap.size wr w3 := Only.below o3 z2 hg z2.size
        have s23 : Bs w3 X2 m2 _ := s2.only o3 (hc2.noByte)
        have SM := refSame A3 X2 n3 m2 c3 d2 _ _ w3 s3 s23 (by have h1 := s3.len; (try simp at h1); omega) (by omega)
        rw [decide_eq_true rfl] at SM
        clear RO hc2 s2
        go_wp2_with fail
        refine SM.mono ?_
        rintro e w4 ⟨rfl, q4⟩
        have hc4 := hc3.qt q4
        have z4 := z3.trans q4.below
        have B9 := below_st hB z4
        go_wp2_with fail
        refine (curAt g 0 b _ hc4).mono ?_
        rintro e w9 ⟨rfl, hw9⟩
        obtain rfl : w4 = w9 := hw9
        go_wp2
        go_roundw
        case rel => exact ⟨4, by omega, rfl, B9⟩
        case measure => simp [intOf]
    · go_wp2_with fail
      refine (known5 _).mono ?_
      rintro e w1 ⟨rfl, b1⟩
      have b1 := below_st hB b1
      go_wp2
      go_ret
      exact ⟨rfl, b1⟩

theorem lawReads (A : Option Addr) (n c : Nat) (l : List UInt8) (w : World) (hb : Bs w A n l) (hc : n ≤ c) :
    Calls Try.prog 6 #[.slice A n c] w fun e w' => e = .returned (.bool true) ∧ Below w.heap.size w w' :=
  lawReads1 A n (min n 300) c (l.take (min n 300)) w rfl (hb.take (Nat.min_le_left _ _)) hc
end Go.Proofs.Ytdebekedilogoaa
