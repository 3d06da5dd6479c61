/-
  The law BitsFlags.
-/
import Derived.Test.YtjcddbcokiaehaaBz
namespace Go.Proofs.Ytjcddbcokiaehaa
open Go.RowKit
set_option linter.unusedVariables false
set_option linter.unusedSimpArgs false
set_option maxRecDepth 4000


set_option maxHeartbeats 12800000 in
theorem lawFlagsCore (u : Int) (A : Option Addr) (n0 n c : Nat) (l : List UInt8) (B : Option Addr) (k0 k d : Nat) (fl : List Int) (p : Int) (m : Nat) (t : List UInt8) (q : Int) (f : Bool) (h : Nat) (fm : List Int) (g : Int) (w : World)
    (hk0 : Hid ((if (60 : Int) < (k0 : Int) then (60 : Int) else (k0 : Int)) = (k : Int))) (hkd : Hid (k0 ≤ d)) (hkl : Hid (k ≤ 60)) (hhl : Hid (h ≤ 1000000))
    (hb : Bs w A n l) (hz : Zs w B k fl)
    (TO : Hid (∀ W, Calls Try.prog 8 #[.agg #[.int .i64 u, .slice A n0 c]] W fun e w' => e = .returned (.agg #[.int .i64 u, .slice A n c]) ∧ Below W.heap.size W w'))
    (O1 : Hid (∀ W, Zs W B k fl → Calls Try.prog 24 #[.slice B k d] W fun e w' => ∃ A1 c1, e = .returned (.tuple #[.agg #[.int .i64 p, .slice A1 m c1], .int .i64 q]) ∧ Bs w' A1 m t ∧ m ≤ c1 ∧ Below W.heap.size W w'))
    (O2 : Hid (∀ W, Zs W B k fl → Calls Try.prog 25 #[.slice B k d] W fun e w' => ∃ A1 c1, e = .returned (.tuple #[.agg #[.int .i64 p, .slice A1 m c1], .bool f]) ∧ Bs w' A1 m t ∧ m ≤ c1 ∧ Below W.heap.size W w'))
    (F1 : Hid (∀ W, Bs W A n l → Calls Try.prog 26 #[.agg #[.int .i64 u, .slice A n c]] W fun e w' => ∃ A1 c1, e = .returned (.tuple #[.slice A1 h c1, .int .i64 g]) ∧ Zs w' A1 h fm ∧ h ≤ c1 ∧ Below W.heap.size W w'))
    (F2 : Hid (∀ W, Bs W A n l → Calls Try.prog 27 #[.agg #[.int .i64 u, .slice A n c]] W fun e w' => ∃ A1 c1, e = .returned (.tuple #[.slice A1 h c1, .int .i64 g]) ∧ Zs w' A1 h fm ∧ h ≤ c1 ∧ Below W.heap.size W w'))
    (AG : Hid (g = 0 → ∀ W A' c', Zs W A' h fm → Calls Try.prog 24 #[.slice A' h c'] W fun e w' => ∃ A1 c1, e = .returned (.tuple #[.agg #[.int .i64 u, .slice A1 n c1], .int .i64 0]) ∧ Bs w' A1 n l ∧ n ≤ c1 ∧ Below W.heap.size W w'))
    (BK : Hid (f = true → ∀ W A' c', Bs W A' m t → Calls Try.prog 26 #[.agg #[.int .i64 p, .slice A' m c']] W fun e w' => ∃ A1 c1, e = .returned (.tuple #[.slice A1 k c1, .int .i64 0]) ∧ Zs w' A1 k fl ∧ k ≤ c1 ∧ Below W.heap.size W w'))
    (BN : Hid (∀ W A' c', Bs W A' m t → Calls Try.prog 26 #[.agg #[.int .i64 p, .slice A' m c']] W fun e w' => ∃ A1 h1 c1 z, e = .returned (.tuple #[.slice A1 h1 c1, .int .i64 z]) ∧ Below W.heap.size W w'))
    (CS : Hid ((f = true ∧ q = 0) ∨ (f = false ∧ q = 1))) :
    Calls Try.prog 5 #[.slice B k0 d, .agg #[.int .i64 u, .slice A n0 c]] w fun e w' => e = .returned (.bool true) ∧ Below w.heap.size w w' := by
  have hR := Blk.new2 w (.int .i64 u) (.slice A n0 c) 24
  have b0 := below_alloc1 w (.cells #[.int .i64 u, .slice A n0 c] 24)
  have kd : (if (60 : Int) < (k0 : Int) then (60 : Int) else (k0 : Int)) ≤ (d : Int) := by have := hkd.out; split <;> omega
  have k1 : min (k0 : Int) 60 ≤ (d : Int) := by have := hkd.out; omega
  have K0 : Hid (∀ W, Below (w.alloc (.cells #[.int .i64 u, .slice A n0 c] 24)).heap.size (w.alloc (.cells #[.int .i64 u, .slice A n0 c] 24)) W → W.cell? ⟨w.heap.size, 0, none⟩ = some (.int .i64 u) ∧ W.cell? ⟨w.heap.size, 1, none⟩ = some (.slice A n0 c) ∧ Bs W A n l ∧ Zs W B k fl ∧ Below w.heap.size w W) :=
    fun W hW => ⟨(hR.below hW).two.1, (hR.below hW).two.2.1, (hb.below b0).below hW, (hz.below b0).below hW, below_st b0 hW⟩
  clear hR b0 hb hz
  go_enter Try.func5, Try.ntmps5
  go_upto_region 2 with (fail)
  simp only [hk0.out, Int.toNat_natCast]
  clear kd k1
  have hsz : w.heap.size < (w.alloc (.cells #[.int .i64 u, .slice A n0 c] 24)).heap.size := by simp
  have HSZ := Lib.hid hsz
  clear hsz
  generalize (w.alloc (Obj.cells #[.int .i64 u, .slice A n0 c] 24)) = W0 at *
  generalize hRe : w.heap.size = R at K0 HSZ ⊢
  have hRe := Lib.hid hRe
  obtain ⟨r0, r1, hb0, hz0, _⟩ := K0.out _ (Below.refl _ _)
  go_wp2_with fail
  refine (O1.out _ hz0).mono ?_
  rintro e w1 ⟨A1, c1, rfl, s1, hc1, b1⟩
  have hc1 := Lib.hid hc1
  clear r0 r1 hb0 hz0
  have hX := Blk.new2 w1 (.int .i64 p) (.slice A1 m c1) 25
  have bX := below_alloc1 w1 (.cells #[.int .i64 p, .slice A1 m c1] 25)
  have K2 : Hid (∀ W, Below (w1.alloc (.cells #[.int .i64 p, .slice A1 m c1] 25)).heap.size (w1.alloc (.cells #[.int .i64 p, .slice A1 m c1] 25)) W → (W.cell? ⟨w1.heap.size, 0, none⟩ = some (.int .i64 p) ∧ W.cell? ⟨w1.heap.size, 1, none⟩ = some (.slice A1 m c1)) ∧ Bs W A1 m t ∧ Below W0.heap.size W0 W) :=
    fun W hW => ⟨⟨(hX.below hW).two.1, (hX.below hW).two.2.1⟩, (s1.below bX).below hW, below_st (below_st b1 bX) hW⟩
  clear hX bX s1 b1
  go_upto_region 3 with (fail)
  generalize (w1.alloc (Obj.cells #[.int .i64 p, .slice A1 m c1] 25)) = W2 at *
  generalize w1.heap.size = g5 at *
  obtain ⟨_, _, hb2, hz2, _⟩ := K0.out _ (K2.out _ (Below.refl _ _)).2.2
  go_wp2_with fail
  refine (O2.out _ hz2).mono ?_
  rintro e w3 ⟨A2, c2, rfl, s2, hc2, b3⟩
  have hc2 := Lib.hid hc2
  clear hb2 hz2
  have hX := Blk.new2 w3 (.int .i64 p) (.slice A2 m c2) 24
  have bX := below_alloc1 w3 (.cells #[.int .i64 p, .slice A2 m c2] 24)
  have K4 : Hid (∀ W, Below (w3.alloc (.cells #[.int .i64 p, .slice A2 m c2] 24)).heap.size (w3.alloc (.cells #[.int .i64 p, .slice A2 m c2] 24)) W → (W.cell? ⟨w3.heap.size, 0, none⟩ = some (.int .i64 p) ∧ W.cell? ⟨w3.heap.size, 1, none⟩ = some (.slice A2 m c2)) ∧ Bs W A2 m t ∧ Below W2.heap.size W2 W) :=
    fun W hW => ⟨⟨(hX.below hW).two.1, (hX.below hW).two.2.1⟩, (s2.below bX).below hW, below_st (below_st b3 bX) hW⟩
  clear hX bX s2 b3
  go_upto_region 4 with (fail)
  generalize (w3.alloc (Obj.cells #[.int .i64 p, .slice A2 m c2] 24)) = W4 at *
  generalize w3.heap.size = g7 at *
  -- all that has been made so far
  have K : Hid (∀ W, Below W4.heap.size W4 W → (W.cell? ⟨g5, 0, none⟩ = some (.int .i64 p) ∧ W.cell? ⟨g5, 1, none⟩ = some (.slice A1 m c1) ∧ W.cell? ⟨g7, 0, none⟩ = some (.int .i64 p) ∧ W.cell? ⟨g7, 1, none⟩ = some (.slice A2 m c2) ∧ W.cell? ⟨R, 0, none⟩ = some (.int .i64 u) ∧ W.cell? ⟨R, 1, none⟩ = some (.slice A n0 c)) ∧ Bs W A n l ∧ Zs W B k fl ∧ Bs W A1 m t ∧ Bs W A2 m t ∧ Below R w W) := by
    intro W hW
    obtain ⟨⟨y0, y1⟩, sy, b4⟩ := K4.out W hW
    obtain ⟨⟨x0, x1⟩, sx, b2⟩ := K2.out W b4
    obtain ⟨r0, r1, hb, hz, bb⟩ := K0.out W b2
    exact ⟨⟨x0, x1, y0, y1, r0, r1⟩, hb, hz, sx, sy, bb⟩
  clear K0 K2 K4
  obtain ⟨⟨_, _, _, _, r0, r1⟩, hb4, _⟩ := K.out _ (Below.refl _ _)
  go_wp2_with fail
  refine (TO.out _).mono ?_
  rintro e w5 ⟨rfl, b5⟩
  clear r0 r1 hb4
  obtain ⟨_, hb5, _⟩ := K.out _ b5
  go_wp2_with fail
  refine (F1.out _ hb5).mono ?_
  rintro e w6 ⟨A3, c3, rfl, z3, hc3, b6⟩
  have hc3 := Lib.hid hc3
  have b6 := b5.trans (Below.mono b6 b5.size)
  clear hb5 b5
  obtain ⟨⟨_, _, _, _, r0, r1⟩, hb6, _⟩ := K.out _ b6
  go_upto_region 5 with (fail)
  go_wp2_with fail
  refine (TO.out _).mono ?_
  rintro e w7 ⟨rfl, b7⟩
  have z3 := z3.below b7
  have b7 := b6.trans (Below.mono b7 b6.size)
  clear r0 r1 hb6 b6
  go_wp2_with fail
  refine (lw5Of u A n c _).mono ?_
  rintro e w8 ⟨rfl, b8⟩
  have z3 := z3.below b8
  have b8 := b7.trans (Below.mono b8 b7.size)
  clear b7
  obtain ⟨_, hb8, _⟩ := K.out _ b8
  go_wp2_with fail
  refine (F2.out _ hb8).mono ?_
  rintro e w9 ⟨A4, c4, rfl, z4, hc4, b9⟩
  have hc4 := Lib.hid hc4
  have z3 := z3.below b9
  have b9 := b8.trans (Below.mono b9 b8.size)
  clear hb8 b8
  go_upto_region 6 with (fail)
  have K6 : Hid (∀ W, Below w9.heap.size w9 W → (W.cell? ⟨g5, 0, none⟩ = some (.int .i64 p) ∧ W.cell? ⟨g5, 1, none⟩ = some (.slice A1 m c1) ∧ W.cell? ⟨g7, 0, none⟩ = some (.int .i64 p) ∧ W.cell? ⟨g7, 1, none⟩ = some (.slice A2 m c2) ∧ W.cell? ⟨R, 0, none⟩ = some (.int .i64 u) ∧ W.cell? ⟨R, 1, none⟩ = some (.slice A n0 c)) ∧ Bs W A n l ∧ Zs W B k fl ∧ Bs W A1 m t ∧ Bs W A2 m t ∧ Zs W A3 h fm ∧ Zs W A4 h fm ∧ Below R w W) := by
    intro W hW
    obtain ⟨k1, k2, k3, k4, k5, k6⟩ := K.out W (b9.trans (Below.mono hW b9.size))
    exact ⟨k1, k2, k3, k4, k5, z3.below hW, z4.below hW, k6⟩
  clear K z3 z4 b9
  go_cut [78] from 45 (fun v78 wc => v78 = .bool false ∧ Below w9.heap.size w9 wc)
  case first =>
    rcases CS.out with ⟨rfl, rfl⟩ | ⟨rfl, rfl⟩
    · skip
      refine wp_region_held_drew (S := fun w' => w'.cell? ⟨g5, 0, none⟩ = some (.int .i64 p) ∧ w'.cell? ⟨g5, 1, none⟩ = some (.slice A1 m c1) ∧ w'.cell? ⟨g7, 0, none⟩ = some (.int .i64 p) ∧ w'.cell? ⟨g7, 1, none⟩ = some (.slice A2 m c2) ∧ w'.cell? ⟨R, 0, none⟩ = some (.int .i64 u) ∧ w'.cell? ⟨R, 1, none⟩ = some (.slice A n0 c)) (by kernel_rfl) ?_ (fun hHeld => ?_)
      · (try dsimp only); exact (K6.out _ (Below.refl _ _)).1
      refine wpAnyH_ready (rs := [0]) (by kernel_rfl) (by simp) ?_
      refine AllReadyH.cons rfl (fun K hK => ?_) AllReadyH.nil
      go_simp
      refine (known5 _).mono ?_
      rintro e w10 ⟨rfl, b10⟩
      have b10 := Below.trans (Below.drew (Below.refl _ _)) b10
      have k10 := K6.out _ b10
      go_wp2_with fail
      refine hK.out _ _ ?_ (fun hHeld => ?_)
      · (try dsimp only); exact k10.1
      clear hK K
      try simp only [Act.put, List.setIfInBounds_toArray, List.set_cons_zero, List.set_cons_succ, List.getElem_toArray, List.getElem_cons_succ, List.getElem_cons_zero]
      refine wpAnyH_take (i := 1) (v := ?_) rfl (by kernel_rfl) (by kernel_rfl) (by kernel_rfl) (fun _ _ _ h => h) (Or.inl ⟨by kernel_rfl, ?_⟩) (by assumption) ?_
      rotate_left 1
      · (intro w hSw; (try dsimp only at hSw); go_simp) <;> (try with_reducible rfl)
      try simp only [Act.put, List.setIfInBounds_toArray, List.set_cons_zero, List.set_cons_succ, List.getElem_toArray, List.getElem_cons_succ, List.getElem_cons_zero]
      refine wpAnyH_take (i := 2) (v := ?_) rfl (by kernel_rfl) (by kernel_rfl) (by kernel_rfl) (fun _ _ _ h => h) (Or.inl ⟨by kernel_rfl, ?_⟩) (by assumption) ?_
      rotate_left 1
      · (intro w hSw; (try dsimp only at hSw); go_simp) <;> (try with_reducible rfl)
      try simp only [Act.put, List.setIfInBounds_toArray, List.set_cons_zero, List.set_cons_succ, List.getElem_toArray, List.getElem_cons_succ, List.getElem_cons_zero]
      refine wpAnyH_take (i := 3) (v := ?_) rfl (by kernel_rfl) (by kernel_rfl) (by kernel_rfl) (fun _ _ _ h => h) (Or.inl ⟨by kernel_rfl, ?_⟩) (by assumption) ?_
      rotate_left 1
      · (intro w hSw; (try dsimp only at hSw); go_simp) <;> (try with_reducible rfl)
      try simp only [Act.put, List.setIfInBounds_toArray, List.set_cons_zero, List.set_cons_succ, List.getElem_toArray, List.getElem_cons_succ, List.getElem_cons_zero]
      refine wpAnyH_take (i := 4) (v := ?_) rfl (by kernel_rfl) (by kernel_rfl) (by kernel_rfl) (fun _ _ _ h => h) (Or.inl ⟨by kernel_rfl, ?_⟩) (by assumption) ?_
      rotate_left 1
      · (intro w hSw; (try dsimp only at hSw); go_simp) <;> (try with_reducible rfl)
      try simp only [Act.put, List.setIfInBounds_toArray, List.set_cons_zero, List.set_cons_succ, List.getElem_toArray, List.getElem_cons_succ, List.getElem_cons_zero]
      refine wpAnyH_take (i := 5) (v := ?_) rfl (by kernel_rfl) (by kernel_rfl) (by kernel_rfl) (fun _ _ _ h => h) (Or.inl ⟨by kernel_rfl, ?_⟩) (by assumption) ?_
      rotate_left 1
      · (intro w hSw; (try dsimp only at hSw); go_simp) <;> (try with_reducible rfl)
      try simp only [Act.put, List.setIfInBounds_toArray, List.set_cons_zero, List.set_cons_succ, List.getElem_toArray, List.getElem_cons_succ, List.getElem_cons_zero]
      refine wpAnyH_take (i := 6) (v := ?_) rfl (by kernel_rfl) (by kernel_rfl) (by kernel_rfl) (fun _ _ _ h => h) (Or.inl ⟨by kernel_rfl, ?_⟩) (by assumption) ?_
      rotate_left 1
      · (intro w hSw; (try dsimp only at hSw); go_simp) <;> (try with_reducible rfl)
      try simp only [Act.put, List.setIfInBounds_toArray, List.set_cons_zero, List.set_cons_succ, List.getElem_toArray, List.getElem_cons_succ, List.getElem_cons_zero]
      refine wpAnyH_take (i := 7) (v := ?_) rfl (by kernel_rfl) (by kernel_rfl) (by kernel_rfl) (fun _ _ _ h => h) (Or.inl ⟨by kernel_rfl, ?_⟩) (by assumption) ?_
      rotate_left 1
      · (intro w hSw; (try dsimp only at hSw); go_simp) <;> (try with_reducible rfl)
      try simp only [Act.put, List.setIfInBounds_toArray, List.set_cons_zero, List.set_cons_succ, List.getElem_toArray, List.getElem_cons_succ, List.getElem_cons_zero]
      refine wpAnyH_take (i := 8) (v := ?_) rfl (by kernel_rfl) (by kernel_rfl) (by kernel_rfl) (fun _ _ _ h => h) (Or.inl ⟨by kernel_rfl, ?_⟩) (by assumption) ?_
      rotate_left 1
      · (intro w hSw; (try dsimp only at hSw); go_simp) <;> (try with_reducible rfl)
      try simp only [Act.put, List.setIfInBounds_toArray, List.set_cons_zero, List.set_cons_succ, List.getElem_toArray, List.getElem_cons_succ, List.getElem_cons_zero]
      refine wpAnyH_take (i := 9) (v := ?_) rfl (by kernel_rfl) (by kernel_rfl) (by kernel_rfl) (fun _ _ _ h => h) (Or.inl ⟨by kernel_rfl, ?_⟩) (by assumption) ?_
      rotate_left 1
      · (intro w hSw; (try dsimp only at hSw); go_simp) <;> (try with_reducible rfl)
      try simp only [Act.put, List.setIfInBounds_toArray, List.set_cons_zero, List.set_cons_succ, List.getElem_toArray, List.getElem_cons_succ, List.getElem_cons_zero]
      refine wpAnyH_take (i := 10) (v := ?_) rfl (by kernel_rfl) (by kernel_rfl) (by kernel_rfl) (fun _ _ _ h => h) (Or.inl ⟨by kernel_rfl, ?_⟩) (by assumption) ?_
      rotate_left 1
      · (intro w hSw; (try dsimp only at hSw); go_simp) <;> (try with_reducible rfl)
      try simp only [Act.put, List.setIfInBounds_toArray, List.set_cons_zero, List.set_cons_succ, List.getElem_toArray, List.getElem_cons_succ, List.getElem_cons_zero]
      refine wpAnyH_take (i := 11) (v := ?_) rfl (by kernel_rfl) (by kernel_rfl) (by kernel_rfl) (fun _ _ _ h => h) (Or.inl ⟨by kernel_rfl, ?_⟩) (by assumption) ?_
      rotate_left 1
      · (intro w hSw; (try dsimp only at hSw); go_simp) <;> (try with_reducible rfl)
      try simp only [Act.put, List.setIfInBounds_toArray, List.set_cons_zero, List.set_cons_succ, List.getElem_toArray, List.getElem_cons_succ, List.getElem_cons_zero]
      refine wpAnyH_take (i := 12) (v := undef) rfl (by kernel_rfl) (by kernel_rfl) (by kernel_rfl) (fun _ _ _ h => h) (Or.inr ⟨by kernel_rfl, rfl⟩) (by assumption) ?_
      try simp only [Act.put, List.setIfInBounds_toArray, List.set_cons_zero, List.set_cons_succ, List.getElem_toArray, List.getElem_cons_succ, List.getElem_cons_zero]
      refine wpAnyH_take (i := 13) (v := undef) rfl (by kernel_rfl) (by kernel_rfl) (by kernel_rfl) (fun _ _ _ h => h) (Or.inr ⟨by kernel_rfl, rfl⟩) (by assumption) ?_
      try simp only [Act.put, List.setIfInBounds_toArray, List.set_cons_zero, List.set_cons_succ, List.getElem_toArray, List.getElem_cons_succ, List.getElem_cons_zero]
      refine wpAnyH_take (i := 14) (v := ?_) rfl (by kernel_rfl) (by kernel_rfl) (by kernel_rfl) (fun _ _ _ h => h) (Or.inl ⟨by kernel_rfl, ?_⟩) (by assumption) ?_
      rotate_left 1
      · (intro w hSw; (try dsimp only at hSw); go_simp) <;> (try with_reducible rfl)
      try simp only [Act.put, List.setIfInBounds_toArray, List.set_cons_zero, List.set_cons_succ, List.getElem_toArray, List.getElem_cons_succ, List.getElem_cons_zero]
      refine wpAnyH_take (i := 15) (v := ?_) rfl (by kernel_rfl) (by kernel_rfl) (by kernel_rfl) (fun _ _ _ h => h) (Or.inl ⟨by kernel_rfl, ?_⟩) (by assumption) ?_
      rotate_left 1
      · (intro w hSw; (try dsimp only at hSw); go_simp) <;> (try with_reducible rfl)
      try simp only [Act.put, List.setIfInBounds_toArray, List.set_cons_zero, List.set_cons_succ, List.getElem_toArray, List.getElem_cons_succ, List.getElem_cons_zero]
      refine wpAnyH_take (i := 16) (v := ?_) rfl (by kernel_rfl) (by kernel_rfl) (by kernel_rfl) (fun _ _ _ h => h) (Or.inl ⟨by kernel_rfl, ?_⟩) (by assumption) ?_
      rotate_left 1
      · (intro w hSw; (try dsimp only at hSw); go_simp) <;> (try with_reducible rfl)
      try simp only [Act.put, List.setIfInBounds_toArray, List.set_cons_zero, List.set_cons_succ, List.getElem_toArray, List.getElem_cons_succ, List.getElem_cons_zero]
      refine wpAnyH_take (i := 17) (v := ?_) rfl (by kernel_rfl) (by kernel_rfl) (by kernel_rfl) (fun _ _ _ h => h) (Or.inl ⟨by kernel_rfl, ?_⟩) (by assumption) ?_
      rotate_left 1
      · (intro w hSw; (try dsimp only at hSw); go_simp) <;> (try with_reducible rfl)
      try simp only [Act.put, List.setIfInBounds_toArray, List.set_cons_zero, List.set_cons_succ, List.getElem_toArray, List.getElem_cons_succ, List.getElem_cons_zero]
      refine wpAnyH_take (i := 19) (v := ?_) rfl (by kernel_rfl) (by kernel_rfl) (by kernel_rfl) (fun _ _ _ h => h) (Or.inl ⟨by kernel_rfl, ?_⟩) (by assumption) ?_
      rotate_left 1
      · (intro w hSw; (try dsimp only at hSw); go_simp) <;> (try with_reducible rfl)
      try simp only [Act.put, List.setIfInBounds_toArray, List.set_cons_zero, List.set_cons_succ, List.getElem_toArray, List.getElem_cons_succ, List.getElem_cons_zero]
      refine wpAnyH_ready (rs := [18]) (by kernel_rfl) (by simp) ?_
      refine AllReadyH.cons rfl (fun K hK => ?_) AllReadyH.nil
      go_simp
      refine (lw5Of p A1 m c1 _).mono ?_
      rintro e w11 ⟨rfl, b11⟩
      have b11 := b10.trans (Below.mono b11 b10.size)
      have k11 := K6.out _ b11
      go_wp2_with fail
      refine hK.out _ _ ?_ (fun hHeld => ?_)
      · (try dsimp only); exact k11.1
      clear hK K
      try simp only [Act.put, List.setIfInBounds_toArray, List.set_cons_zero, List.set_cons_succ, List.getElem_toArray, List.getElem_cons_succ, List.getElem_cons_zero]
      refine wpAnyH_ready (rs := [20]) (by kernel_rfl) (by simp) ?_
      refine AllReadyH.cons rfl (fun K hK => ?_) AllReadyH.nil
      go_simp
      refine (rf5Same p p A1 A2 m m c1 c2 t t _ k11.2.2.2.1 k11.2.2.2.2.1).mono ?_
      rw [decide_eq_true (show (p, t) = (p, t) from rfl)]
      rintro e w12 ⟨rfl, b12⟩
      have b12 := b11.trans (Below.mono b12 b11.size)
      have k12 := K6.out _ b12
      go_wp2_with fail
      refine hK.out _ _ ?_ (fun hHeld => ?_)
      · (try dsimp only); exact k12.1
      clear hK K
      try simp only [Act.put, List.setIfInBounds_toArray, List.set_cons_zero, List.set_cons_succ, List.getElem_toArray, List.getElem_cons_succ, List.getElem_cons_zero]
      refine wpAnyH_take (i := 21) (v := ?_) rfl (by kernel_rfl) (by kernel_rfl) (by kernel_rfl) (fun _ _ _ h => h) (Or.inl ⟨by kernel_rfl, ?_⟩) (by assumption) ?_
      rotate_left 1
      · (intro w hSw; (try dsimp only at hSw); go_simp) <;> (try with_reducible rfl)
      try simp only [Act.put, List.setIfInBounds_toArray, List.set_cons_zero, List.set_cons_succ, List.getElem_toArray, List.getElem_cons_succ, List.getElem_cons_zero]
      refine wpAnyH_take (i := 22) (v := ?_) rfl (by kernel_rfl) (by kernel_rfl) (by kernel_rfl) (fun _ _ _ h => h) (Or.inl ⟨by kernel_rfl, ?_⟩) (by assumption) ?_
      rotate_left 1
      · (intro w hSw; (try dsimp only at hSw); go_simp) <;> (try with_reducible rfl)
      try simp only [Act.put, List.setIfInBounds_toArray, List.set_cons_zero, List.set_cons_succ, List.getElem_toArray, List.getElem_cons_succ, List.getElem_cons_zero]
      refine wpAnyH_take (i := 23) (v := ?_) rfl (by kernel_rfl) (by kernel_rfl) (by kernel_rfl) (fun _ _ _ h => h) (Or.inl ⟨by kernel_rfl, ?_⟩) (by assumption) ?_
      rotate_left 1
      · (intro w hSw; (try dsimp only at hSw); go_simp) <;> (try with_reducible rfl)
      try simp only [Act.put, List.setIfInBounds_toArray, List.set_cons_zero, List.set_cons_succ, List.getElem_toArray, List.getElem_cons_succ, List.getElem_cons_zero]
      refine wpAnyH_take (i := 24) (v := ?_) rfl (by kernel_rfl) (by kernel_rfl) (by kernel_rfl) (fun _ _ _ h => h) (Or.inl ⟨by kernel_rfl, ?_⟩) (by assumption) ?_
      rotate_left 1
      · (intro w hSw; (try dsimp only at hSw); go_simp) <;> (try with_reducible rfl)
      try simp only [Act.put, List.setIfInBounds_toArray, List.set_cons_zero, List.set_cons_succ, List.getElem_toArray, List.getElem_cons_succ, List.getElem_cons_zero]
      refine wpAnyH_take (i := 25) (v := ?_) rfl (by kernel_rfl) (by kernel_rfl) (by kernel_rfl) (fun _ _ _ h => h) (Or.inl ⟨by kernel_rfl, ?_⟩) (by assumption) ?_
      rotate_left 1
      · (intro w hSw; (try dsimp only at hSw); go_simp) <;> (try with_reducible rfl)
      try simp only [Act.put, List.setIfInBounds_toArray, List.set_cons_zero, List.set_cons_succ, List.getElem_toArray, List.getElem_cons_succ, List.getElem_cons_zero]
      refine wpAnyH_take (i := 26) (v := ?_) rfl (by kernel_rfl) (by kernel_rfl) (by kernel_rfl) (fun _ _ _ h => h) (Or.inl ⟨by kernel_rfl, ?_⟩) (by assumption) ?_
      rotate_left 1
      · (intro w hSw; (try dsimp only at hSw); go_simp) <;> (try with_reducible rfl)
      try simp only [Act.put, List.setIfInBounds_toArray, List.set_cons_zero, List.set_cons_succ, List.getElem_toArray, List.getElem_cons_succ, List.getElem_cons_zero]
      refine wpAnyH_take (i := 27) (v := ?_) rfl (by kernel_rfl) (by kernel_rfl) (by kernel_rfl) (fun _ _ _ h => h) (Or.inl ⟨by kernel_rfl, ?_⟩) (by assumption) ?_
      rotate_left 1
      · (intro w hSw; (try dsimp only at hSw); go_simp) <;> (try with_reducible rfl)
      try simp only [Act.put, List.setIfInBounds_toArray, List.set_cons_zero, List.set_cons_succ, List.getElem_toArray, List.getElem_cons_succ, List.getElem_cons_zero]
      refine wpAnyH_take (i := 28) (v := ?_) rfl (by kernel_rfl) (by kernel_rfl) (by kernel_rfl) (fun _ _ _ h => h) (Or.inl ⟨by kernel_rfl, ?_⟩) (by assumption) ?_
      rotate_left 1
      · (intro w hSw; (try dsimp only at hSw); go_simp) <;> (try with_reducible rfl)
      try simp only [Act.put, List.setIfInBounds_toArray, List.set_cons_zero, List.set_cons_succ, List.getElem_toArray, List.getElem_cons_succ, List.getElem_cons_zero]
      refine wpAnyH_take (i := 29) (v := ?_) rfl (by kernel_rfl) (by kernel_rfl) (by kernel_rfl) (fun _ _ _ h => h) (Or.inl ⟨by kernel_rfl, ?_⟩) (by assumption) ?_
      rotate_left 1
      · (intro w hSw; (try dsimp only at hSw); go_simp) <;> (try with_reducible rfl)
      try simp only [Act.put, List.setIfInBounds_toArray, List.set_cons_zero, List.set_cons_succ, List.getElem_toArray, List.getElem_cons_succ, List.getElem_cons_zero]
      refine wpAnyH_take (i := 30) (v := ?_) rfl (by kernel_rfl) (by kernel_rfl) (by kernel_rfl) (fun _ _ _ h => h) (Or.inl ⟨by kernel_rfl, ?_⟩) (by assumption) ?_
      rotate_left 1
      · (intro w hSw; (try dsimp only at hSw); go_simp) <;> (try with_reducible rfl)
      try simp only [Act.put, List.setIfInBounds_toArray, List.set_cons_zero, List.set_cons_succ, List.getElem_toArray, List.getElem_cons_succ, List.getElem_cons_zero]
      refine wpAnyH_ready (rs := [31]) (by kernel_rfl) (by simp) ?_
      refine AllReadyH.cons rfl (fun K hK => ?_) AllReadyH.nil
      go_simp
      refine (ref4Same A3 A4 h h c3 c4 fm fm _ k12.2.2.2.2.2.1 k12.2.2.2.2.2.2.1 (by have := hhl.out; omega) (by have := hhl.out; omega)).mono ?_
      rw [decide_eq_true (show fm = fm from rfl)]
      rintro e w13 ⟨rfl, q13⟩
      have b13 := b12.trans (Below.mono q13.below b12.size)
      have k13 := K6.out _ b13
      go_wp2_with fail
      refine hK.out _ _ ?_ (fun hHeld => ?_)
      · (try dsimp only); exact k13.1
      clear hK K
      try simp only [Act.put, List.setIfInBounds_toArray, List.set_cons_zero, List.set_cons_succ, List.getElem_toArray, List.getElem_cons_succ, List.getElem_cons_zero]
      refine wpAnyH_take (i := 32) (v := ?_) rfl (by kernel_rfl) (by kernel_rfl) (by kernel_rfl) (fun _ _ _ h => h) (Or.inl ⟨by kernel_rfl, ?_⟩) (by assumption) ?_
      rotate_left 1
      · (intro w hSw; (try dsimp only at hSw); go_simp) <;> (try with_reducible rfl)
      try simp only [Act.put, List.setIfInBounds_toArray, List.set_cons_zero, List.set_cons_succ, List.getElem_toArray, List.getElem_cons_succ, List.getElem_cons_zero]
      refine wpAnyH_take (i := 33) (v := ?_) rfl (by kernel_rfl) (by kernel_rfl) (by kernel_rfl) (fun _ _ _ h => h) (Or.inl ⟨by kernel_rfl, ?_⟩) (by assumption) ?_
      rotate_left 1
      · (intro w hSw; (try dsimp only at hSw); go_simp) <;> (try with_reducible rfl)
      try simp only [Act.put, List.setIfInBounds_toArray, List.set_cons_zero, List.set_cons_succ, List.getElem_toArray, List.getElem_cons_succ, List.getElem_cons_zero]
      refine wpAnyH_done (by kernel_rfl) ?_ _
      go_wp2_with fail
      go_meet
      exact ⟨rfl, b13⟩
    · skip
      refine wp_region_held_drew (S := fun w' => w'.cell? ⟨g5, 0, none⟩ = some (.int .i64 p) ∧ w'.cell? ⟨g5, 1, none⟩ = some (.slice A1 m c1) ∧ w'.cell? ⟨g7, 0, none⟩ = some (.int .i64 p) ∧ w'.cell? ⟨g7, 1, none⟩ = some (.slice A2 m c2) ∧ w'.cell? ⟨R, 0, none⟩ = some (.int .i64 u) ∧ w'.cell? ⟨R, 1, none⟩ = some (.slice A n0 c)) (by kernel_rfl) ?_ (fun hHeld => ?_)
      · (try dsimp only); exact (K6.out _ (Below.refl _ _)).1
      refine wpAnyH_ready (rs := [0]) (by kernel_rfl) (by simp) ?_
      refine AllReadyH.cons rfl (fun K hK => ?_) AllReadyH.nil
      go_simp
      refine (known5 _).mono ?_
      rintro e w10 ⟨rfl, b10⟩
      have b10 := Below.trans (Below.drew (Below.refl _ _)) b10
      have k10 := K6.out _ b10
      go_wp2_with fail
      refine hK.out _ _ ?_ (fun hHeld => ?_)
      · (try dsimp only); exact k10.1
      clear hK K
      try simp only [Act.put, List.setIfInBounds_toArray, List.set_cons_zero, List.set_cons_succ, List.getElem_toArray, List.getElem_cons_succ, List.getElem_cons_zero]
      refine wpAnyH_take (i := 1) (v := ?_) rfl (by kernel_rfl) (by kernel_rfl) (by kernel_rfl) (fun _ _ _ h => h) (Or.inl ⟨by kernel_rfl, ?_⟩) (by assumption) ?_
      rotate_left 1
      · (intro w hSw; (try dsimp only at hSw); go_simp) <;> (try with_reducible rfl)
      try simp only [Act.put, List.setIfInBounds_toArray, List.set_cons_zero, List.set_cons_succ, List.getElem_toArray, List.getElem_cons_succ, List.getElem_cons_zero]
      refine wpAnyH_take (i := 2) (v := ?_) rfl (by kernel_rfl) (by kernel_rfl) (by kernel_rfl) (fun _ _ _ h => h) (Or.inl ⟨by kernel_rfl, ?_⟩) (by assumption) ?_
      rotate_left 1
      · (intro w hSw; (try dsimp only at hSw); go_simp) <;> (try with_reducible rfl)
      try simp only [Act.put, List.setIfInBounds_toArray, List.set_cons_zero, List.set_cons_succ, List.getElem_toArray, List.getElem_cons_succ, List.getElem_cons_zero]
      refine wpAnyH_take (i := 3) (v := ?_) rfl (by kernel_rfl) (by kernel_rfl) (by kernel_rfl) (fun _ _ _ h => h) (Or.inl ⟨by kernel_rfl, ?_⟩) (by assumption) ?_
      rotate_left 1
      · (intro w hSw; (try dsimp only at hSw); go_simp) <;> (try with_reducible rfl)
      try simp only [Act.put, List.setIfInBounds_toArray, List.set_cons_zero, List.set_cons_succ, List.getElem_toArray, List.getElem_cons_succ, List.getElem_cons_zero]
      refine wpAnyH_take (i := 4) (v := ?_) rfl (by kernel_rfl) (by kernel_rfl) (by kernel_rfl) (fun _ _ _ h => h) (Or.inl ⟨by kernel_rfl, ?_⟩) (by assumption) ?_
      rotate_left 1
      · (intro w hSw; (try dsimp only at hSw); go_simp) <;> (try with_reducible rfl)
      try simp only [Act.put, List.setIfInBounds_toArray, List.set_cons_zero, List.set_cons_succ, List.getElem_toArray, List.getElem_cons_succ, List.getElem_cons_zero]
      refine wpAnyH_take (i := 5) (v := ?_) rfl (by kernel_rfl) (by kernel_rfl) (by kernel_rfl) (fun _ _ _ h => h) (Or.inl ⟨by kernel_rfl, ?_⟩) (by assumption) ?_
      rotate_left 1
      · (intro w hSw; (try dsimp only at hSw); go_simp) <;> (try with_reducible rfl)
      try simp only [Act.put, List.setIfInBounds_toArray, List.set_cons_zero, List.set_cons_succ, List.getElem_toArray, List.getElem_cons_succ, List.getElem_cons_zero]
      refine wpAnyH_take (i := 6) (v := ?_) rfl (by kernel_rfl) (by kernel_rfl) (by kernel_rfl) (fun _ _ _ h => h) (Or.inl ⟨by kernel_rfl, ?_⟩) (by assumption) ?_
      rotate_left 1
      · (intro w hSw; (try dsimp only at hSw); go_simp) <;> (try with_reducible rfl)
      try simp only [Act.put, List.setIfInBounds_toArray, List.set_cons_zero, List.set_cons_succ, List.getElem_toArray, List.getElem_cons_succ, List.getElem_cons_zero]
      refine wpAnyH_take (i := 7) (v := ?_) rfl (by kernel_rfl) (by kernel_rfl) (by kernel_rfl) (fun _ _ _ h => h) (Or.inl ⟨by kernel_rfl, ?_⟩) (by assumption) ?_
      rotate_left 1
      · (intro w hSw; (try dsimp only at hSw); go_simp) <;> (try with_reducible rfl)
      try simp only [Act.put, List.setIfInBounds_toArray, List.set_cons_zero, List.set_cons_succ, List.getElem_toArray, List.getElem_cons_succ, List.getElem_cons_zero]
      refine wpAnyH_take (i := 8) (v := ?_) rfl (by kernel_rfl) (by kernel_rfl) (by kernel_rfl) (fun _ _ _ h => h) (Or.inl ⟨by kernel_rfl, ?_⟩) (by assumption) ?_
      rotate_left 1
      · (intro w hSw; (try dsimp only at hSw); go_simp) <;> (try with_reducible rfl)
      try simp only [Act.put, List.setIfInBounds_toArray, List.set_cons_zero, List.set_cons_succ, List.getElem_toArray, List.getElem_cons_succ, List.getElem_cons_zero]
      refine wpAnyH_take (i := 9) (v := ?_) rfl (by kernel_rfl) (by kernel_rfl) (by kernel_rfl) (fun _ _ _ h => h) (Or.inl ⟨by kernel_rfl, ?_⟩) (by assumption) ?_
      rotate_left 1
      · (intro w hSw; (try dsimp only at hSw); go_simp) <;> (try with_reducible rfl)
      try simp only [Act.put, List.setIfInBounds_toArray, List.set_cons_zero, List.set_cons_succ, List.getElem_toArray, List.getElem_cons_succ, List.getElem_cons_zero]
      refine wpAnyH_take (i := 10) (v := ?_) rfl (by kernel_rfl) (by kernel_rfl) (by kernel_rfl) (fun _ _ _ h => h) (Or.inl ⟨by kernel_rfl, ?_⟩) (by assumption) ?_
      rotate_left 1
      · (intro w hSw; (try dsimp only at hSw); go_simp) <;> (try with_reducible rfl)
      try simp only [Act.put, List.setIfInBounds_toArray, List.set_cons_zero, List.set_cons_succ, List.getElem_toArray, List.getElem_cons_succ, List.getElem_cons_zero]
      refine wpAnyH_take (i := 11) (v := ?_) rfl (by kernel_rfl) (by kernel_rfl) (by kernel_rfl) (fun _ _ _ h => h) (Or.inl ⟨by kernel_rfl, ?_⟩) (by assumption) ?_
      rotate_left 1
      · (intro w hSw; (try dsimp only at hSw); go_simp) <;> (try with_reducible rfl)
      try simp only [Act.put, List.setIfInBounds_toArray, List.set_cons_zero, List.set_cons_succ, List.getElem_toArray, List.getElem_cons_succ, List.getElem_cons_zero]
      refine wpAnyH_take (i := 12) (v := ?_) rfl (by kernel_rfl) (by kernel_rfl) (by kernel_rfl) (fun _ _ _ h => h) (Or.inl ⟨by kernel_rfl, ?_⟩) (by assumption) ?_
      rotate_left 1
      · (intro w hSw; (try dsimp only at hSw); go_simp) <;> (try with_reducible rfl)
      try simp only [Act.put, List.setIfInBounds_toArray, List.set_cons_zero, List.set_cons_succ, List.getElem_toArray, List.getElem_cons_succ, List.getElem_cons_zero]
      refine wpAnyH_take (i := 13) (v := ?_) rfl (by kernel_rfl) (by kernel_rfl) (by kernel_rfl) (fun _ _ _ h => h) (Or.inl ⟨by kernel_rfl, ?_⟩) (by assumption) ?_
      rotate_left 1
      · (intro w hSw; (try dsimp only at hSw); go_simp) <;> (try with_reducible rfl)
      try simp only [Act.put, List.setIfInBounds_toArray, List.set_cons_zero, List.set_cons_succ, List.getElem_toArray, List.getElem_cons_succ, List.getElem_cons_zero]
      refine wpAnyH_take (i := 14) (v := ?_) rfl (by kernel_rfl) (by kernel_rfl) (by kernel_rfl) (fun _ _ _ h => h) (Or.inl ⟨by kernel_rfl, ?_⟩) (by assumption) ?_
      rotate_left 1
      · (intro w hSw; (try dsimp only at hSw); go_simp) <;> (try with_reducible rfl)
      try simp only [Act.put, List.setIfInBounds_toArray, List.set_cons_zero, List.set_cons_succ, List.getElem_toArray, List.getElem_cons_succ, List.getElem_cons_zero]
      refine wpAnyH_take (i := 15) (v := ?_) rfl (by kernel_rfl) (by kernel_rfl) (by kernel_rfl) (fun _ _ _ h => h) (Or.inl ⟨by kernel_rfl, ?_⟩) (by assumption) ?_
      rotate_left 1
      · (intro w hSw; (try dsimp only at hSw); go_simp) <;> (try with_reducible rfl)
      try simp only [Act.put, List.setIfInBounds_toArray, List.set_cons_zero, List.set_cons_succ, List.getElem_toArray, List.getElem_cons_succ, List.getElem_cons_zero]
      refine wpAnyH_take (i := 16) (v := ?_) rfl (by kernel_rfl) (by kernel_rfl) (by kernel_rfl) (fun _ _ _ h => h) (Or.inl ⟨by kernel_rfl, ?_⟩) (by assumption) ?_
      rotate_left 1
      · (intro w hSw; (try dsimp only at hSw); go_simp) <;> (try with_reducible rfl)
      try simp only [Act.put, List.setIfInBounds_toArray, List.set_cons_zero, List.set_cons_succ, List.getElem_toArray, List.getElem_cons_succ, List.getElem_cons_zero]
      refine wpAnyH_take (i := 17) (v := ?_) rfl (by kernel_rfl) (by kernel_rfl) (by kernel_rfl) (fun _ _ _ h => h) (Or.inl ⟨by kernel_rfl, ?_⟩) (by assumption) ?_
      rotate_left 1
      · (intro w hSw; (try dsimp only at hSw); go_simp) <;> (try with_reducible rfl)
      try simp only [Act.put, List.setIfInBounds_toArray, List.set_cons_zero, List.set_cons_succ, List.getElem_toArray, List.getElem_cons_succ, List.getElem_cons_zero]
      refine wpAnyH_take (i := 19) (v := ?_) rfl (by kernel_rfl) (by kernel_rfl) (by kernel_rfl) (fun _ _ _ h => h) (Or.inl ⟨by kernel_rfl, ?_⟩) (by assumption) ?_
      rotate_left 1
      · (intro w hSw; (try dsimp only at hSw); go_simp) <;> (try with_reducible rfl)
      try simp only [Act.put, List.setIfInBounds_toArray, List.set_cons_zero, List.set_cons_succ, List.getElem_toArray, List.getElem_cons_succ, List.getElem_cons_zero]
      refine wpAnyH_ready (rs := [18]) (by kernel_rfl) (by simp) ?_
      refine AllReadyH.cons rfl (fun K hK => ?_) AllReadyH.nil
      go_simp
      refine (lw5Of p A1 m c1 _).mono ?_
      rintro e w11 ⟨rfl, b11⟩
      have b11 := b10.trans (Below.mono b11 b10.size)
      have k11 := K6.out _ b11
      go_wp2_with fail
      refine hK.out _ _ ?_ (fun hHeld => ?_)
      · (try dsimp only); exact k11.1
      clear hK K
      try simp only [Act.put, List.setIfInBounds_toArray, List.set_cons_zero, List.set_cons_succ, List.getElem_toArray, List.getElem_cons_succ, List.getElem_cons_zero]
      refine wpAnyH_ready (rs := [20]) (by kernel_rfl) (by simp) ?_
      refine AllReadyH.cons rfl (fun K hK => ?_) AllReadyH.nil
      go_simp
      refine (rf5Same p p A1 A2 m m c1 c2 t t _ k11.2.2.2.1 k11.2.2.2.2.1).mono ?_
      rw [decide_eq_true (show (p, t) = (p, t) from rfl)]
      rintro e w12 ⟨rfl, b12⟩
      have b12 := b11.trans (Below.mono b12 b11.size)
      have k12 := K6.out _ b12
      go_wp2_with fail
      refine hK.out _ _ ?_ (fun hHeld => ?_)
      · (try dsimp only); exact k12.1
      clear hK K
      try simp only [Act.put, List.setIfInBounds_toArray, List.set_cons_zero, List.set_cons_succ, List.getElem_toArray, List.getElem_cons_succ, List.getElem_cons_zero]
      refine wpAnyH_take (i := 21) (v := ?_) rfl (by kernel_rfl) (by kernel_rfl) (by kernel_rfl) (fun _ _ _ h => h) (Or.inl ⟨by kernel_rfl, ?_⟩) (by assumption) ?_
      rotate_left 1
      · (intro w hSw; (try dsimp only at hSw); go_simp) <;> (try with_reducible rfl)
      try simp only [Act.put, List.setIfInBounds_toArray, List.set_cons_zero, List.set_cons_succ, List.getElem_toArray, List.getElem_cons_succ, List.getElem_cons_zero]
      refine wpAnyH_take (i := 22) (v := ?_) rfl (by kernel_rfl) (by kernel_rfl) (by kernel_rfl) (fun _ _ _ h => h) (Or.inl ⟨by kernel_rfl, ?_⟩) (by assumption) ?_
      rotate_left 1
      · (intro w hSw; (try dsimp only at hSw); go_simp) <;> (try with_reducible rfl)
      try simp only [Act.put, List.setIfInBounds_toArray, List.set_cons_zero, List.set_cons_succ, List.getElem_toArray, List.getElem_cons_succ, List.getElem_cons_zero]
      refine wpAnyH_take (i := 23) (v := ?_) rfl (by kernel_rfl) (by kernel_rfl) (by kernel_rfl) (fun _ _ _ h => h) (Or.inl ⟨by kernel_rfl, ?_⟩) (by assumption) ?_
      rotate_left 1
      · (intro w hSw; (try dsimp only at hSw); go_simp) <;> (try with_reducible rfl)
      try simp only [Act.put, List.setIfInBounds_toArray, List.set_cons_zero, List.set_cons_succ, List.getElem_toArray, List.getElem_cons_succ, List.getElem_cons_zero]
      refine wpAnyH_take (i := 24) (v := ?_) rfl (by kernel_rfl) (by kernel_rfl) (by kernel_rfl) (fun _ _ _ h => h) (Or.inl ⟨by kernel_rfl, ?_⟩) (by assumption) ?_
      rotate_left 1
      · (intro w hSw; (try dsimp only at hSw); go_simp) <;> (try with_reducible rfl)
      try simp only [Act.put, List.setIfInBounds_toArray, List.set_cons_zero, List.set_cons_succ, List.getElem_toArray, List.getElem_cons_succ, List.getElem_cons_zero]
      refine wpAnyH_take (i := 25) (v := ?_) rfl (by kernel_rfl) (by kernel_rfl) (by kernel_rfl) (fun _ _ _ h => h) (Or.inl ⟨by kernel_rfl, ?_⟩) (by assumption) ?_
      rotate_left 1
      · (intro w hSw; (try dsimp only at hSw); go_simp) <;> (try with_reducible rfl)
      try simp only [Act.put, List.setIfInBounds_toArray, List.set_cons_zero, List.set_cons_succ, List.getElem_toArray, List.getElem_cons_succ, List.getElem_cons_zero]
      refine wpAnyH_take (i := 26) (v := ?_) rfl (by kernel_rfl) (by kernel_rfl) (by kernel_rfl) (fun _ _ _ h => h) (Or.inl ⟨by kernel_rfl, ?_⟩) (by assumption) ?_
      rotate_left 1
      · (intro w hSw; (try dsimp only at hSw); go_simp) <;> (try with_reducible rfl)
      try simp only [Act.put, List.setIfInBounds_toArray, List.set_cons_zero, List.set_cons_succ, List.getElem_toArray, List.getElem_cons_succ, List.getElem_cons_zero]
      refine wpAnyH_take (i := 27) (v := ?_) rfl (by kernel_rfl) (by kernel_rfl) (by kernel_rfl) (fun _ _ _ h => h) (Or.inl ⟨by kernel_rfl, ?_⟩) (by assumption) ?_
      rotate_left 1
      · (intro w hSw; (try dsimp only at hSw); go_simp) <;> (try with_reducible rfl)
      try simp only [Act.put, List.setIfInBounds_toArray, List.set_cons_zero, List.set_cons_succ, List.getElem_toArray, List.getElem_cons_succ, List.getElem_cons_zero]
      refine wpAnyH_take (i := 28) (v := ?_) rfl (by kernel_rfl) (by kernel_rfl) (by kernel_rfl) (fun _ _ _ h => h) (Or.inl ⟨by kernel_rfl, ?_⟩) (by assumption) ?_
      rotate_left 1
      · (intro w hSw; (try dsimp only at hSw); go_simp) <;> (try with_reducible rfl)
      try simp only [Act.put, List.setIfInBounds_toArray, List.set_cons_zero, List.set_cons_succ, List.getElem_toArray, List.getElem_cons_succ, List.getElem_cons_zero]
      refine wpAnyH_take (i := 29) (v := ?_) rfl (by kernel_rfl) (by kernel_rfl) (by kernel_rfl) (fun _ _ _ h => h) (Or.inl ⟨by kernel_rfl, ?_⟩) (by assumption) ?_
      rotate_left 1
      · (intro w hSw; (try dsimp only at hSw); go_simp) <;> (try with_reducible rfl)
      try simp only [Act.put, List.setIfInBounds_toArray, List.set_cons_zero, List.set_cons_succ, List.getElem_toArray, List.getElem_cons_succ, List.getElem_cons_zero]
      refine wpAnyH_take (i := 30) (v := ?_) rfl (by kernel_rfl) (by kernel_rfl) (by kernel_rfl) (fun _ _ _ h => h) (Or.inl ⟨by kernel_rfl, ?_⟩) (by assumption) ?_
      rotate_left 1
      · (intro w hSw; (try dsimp only at hSw); go_simp) <;> (try with_reducible rfl)
      try simp only [Act.put, List.setIfInBounds_toArray, List.set_cons_zero, List.set_cons_succ, List.getElem_toArray, List.getElem_cons_succ, List.getElem_cons_zero]
      refine wpAnyH_ready (rs := [31]) (by kernel_rfl) (by simp) ?_
      refine AllReadyH.cons rfl (fun K hK => ?_) AllReadyH.nil
      go_simp
      refine (ref4Same A3 A4 h h c3 c4 fm fm _ k12.2.2.2.2.2.1 k12.2.2.2.2.2.2.1 (by have := hhl.out; omega) (by have := hhl.out; omega)).mono ?_
      rw [decide_eq_true (show fm = fm from rfl)]
      rintro e w13 ⟨rfl, q13⟩
      have b13 := b12.trans (Below.mono q13.below b12.size)
      have k13 := K6.out _ b13
      go_wp2_with fail
      refine hK.out _ _ ?_ (fun hHeld => ?_)
      · (try dsimp only); exact k13.1
      clear hK K
      try simp only [Act.put, List.setIfInBounds_toArray, List.set_cons_zero, List.set_cons_succ, List.getElem_toArray, List.getElem_cons_succ, List.getElem_cons_zero]
      refine wpAnyH_take (i := 32) (v := ?_) rfl (by kernel_rfl) (by kernel_rfl) (by kernel_rfl) (fun _ _ _ h => h) (Or.inl ⟨by kernel_rfl, ?_⟩) (by assumption) ?_
      rotate_left 1
      · (intro w hSw; (try dsimp only at hSw); go_simp) <;> (try with_reducible rfl)
      try simp only [Act.put, List.setIfInBounds_toArray, List.set_cons_zero, List.set_cons_succ, List.getElem_toArray, List.getElem_cons_succ, List.getElem_cons_zero]
      refine wpAnyH_take (i := 33) (v := ?_) rfl (by kernel_rfl) (by kernel_rfl) (by kernel_rfl) (fun _ _ _ h => h) (Or.inl ⟨by kernel_rfl, ?_⟩) (by assumption) ?_
      rotate_left 1
      · (intro w hSw; (try dsimp only at hSw); go_simp) <;> (try with_reducible rfl)
      try simp only [Act.put, List.setIfInBounds_toArray, List.set_cons_zero, List.set_cons_succ, List.getElem_toArray, List.getElem_cons_succ, List.getElem_cons_zero]
      refine wpAnyH_done (by kernel_rfl) ?_ _
      go_wp2_with fail
      go_meet
      exact ⟨rfl, b13⟩
  case rest =>
    obtain ⟨rfl, b10⟩ := hcut
    obtain ⟨⟨x0, x1, _, _, r0, r1⟩, hb10, hz10, s10, _, z10, _, b10w⟩ := K6.out _ b10
    by_cases g0 : g = 0
    · subst g0
      go_wp2_with fail
      refine (AG.out (by first | exact trivial | rfl) _ A3 c3 z10).mono ?_
      rintro e w11 ⟨A5, c5, rfl, s5, hc5, b11⟩
      have hc5 := Lib.hid hc5
      have hX := Blk.new2 w11 (.int .i64 u) (.slice A5 n c5) 25
      have bX := below_alloc1 w11 (.cells #[.int .i64 u, .slice A5 n c5] 25)
      have K11 : Hid (∀ W, Below (w11.alloc (.cells #[.int .i64 u, .slice A5 n c5] 25)).heap.size (w11.alloc (.cells #[.int .i64 u, .slice A5 n c5] 25)) W → (W.cell? ⟨w11.heap.size, 0, none⟩ = some (.int .i64 u) ∧ W.cell? ⟨w11.heap.size, 1, none⟩ = some (.slice A5 n c5) ∧ W.cell? ⟨R, 0, none⟩ = some (.int .i64 u) ∧ W.cell? ⟨R, 1, none⟩ = some (.slice A n0 c)) ∧ Bs W A5 n l ∧ Bs W A n l ∧ Below w9.heap.size w9 W) := by
        intro W hW
        have bW := b10.trans (Below.mono (below_st (below_st b11 bX) hW) b10.size)
        obtain ⟨⟨_, _, _, _, r0, r1⟩, hb, _⟩ := K6.out W bW
        exact ⟨⟨(hX.below hW).two.1, (hX.below hW).two.2.1, r0, r1⟩, (s5.below bX).below hW, hb, bW⟩
      clear hX bX s5 b11 x0 x1 r0 r1 hb10 hz10 s10 z10 b10w b10
      go_upto_region 10 with (fail)
      generalize (w11.alloc (Obj.cells #[.int .i64 u, .slice A5 n c5] 25)) = W11 at *
      generalize w11.heap.size = g13 at *
      go_cut [96] from 86 (fun v96 wd => v96 = .bool false ∧ Below w9.heap.size w9 wd)
      case first =>
        refine wp_region_held_drew (S := fun w' => w'.cell? ⟨g13, 0, none⟩ = some (.int .i64 u) ∧ w'.cell? ⟨g13, 1, none⟩ = some (.slice A5 n c5) ∧ w'.cell? ⟨R, 0, none⟩ = some (.int .i64 u) ∧ w'.cell? ⟨R, 1, none⟩ = some (.slice A n0 c)) (by kernel_rfl) ?hb0 (fun hHeld => ?_)
        case hb0 => (try dsimp only); exact (K11.out _ (Below.refl _ _)).1
        refine wpAnyH_take (i := 0) (v := ?qv0) rfl (by kernel_rfl) (by kernel_rfl) (by kernel_rfl) (fun _ _ _ h => h) (Or.inl ⟨by kernel_rfl, ?qy0⟩) (by assumption) ?_
        case qy0 => (intro w hSw; (try dsimp only at hSw); go_simp) <;> (try with_reducible rfl)
        try simp only [Act.put, List.setIfInBounds_toArray, List.set_cons_zero, List.set_cons_succ, List.getElem_toArray, List.getElem_cons_succ, List.getElem_cons_zero]
        refine wpAnyH_take (i := 1) (v := ?qv1) rfl (by kernel_rfl) (by kernel_rfl) (by kernel_rfl) (fun _ _ _ h => h) (Or.inl ⟨by kernel_rfl, ?qy1⟩) (by assumption) ?_
        case qy1 => (intro w hSw; (try dsimp only at hSw); go_simp) <;> (try with_reducible rfl)
        try simp only [Act.put, List.setIfInBounds_toArray, List.set_cons_zero, List.set_cons_succ, List.getElem_toArray, List.getElem_cons_succ, List.getElem_cons_zero]
        refine wpAnyH_take (i := 2) (v := ?qv2) rfl (by kernel_rfl) (by kernel_rfl) (by kernel_rfl) (fun _ _ _ h => h) (Or.inl ⟨by kernel_rfl, ?qy2⟩) (by assumption) ?_
        case qy2 => (intro w hSw; (try dsimp only at hSw); go_simp) <;> (try with_reducible rfl)
        try simp only [Act.put, List.setIfInBounds_toArray, List.set_cons_zero, List.set_cons_succ, List.getElem_toArray, List.getElem_cons_succ, List.getElem_cons_zero]
        refine wpAnyH_take (i := 3) (v := ?qv3) rfl (by kernel_rfl) (by kernel_rfl) (by kernel_rfl) (fun _ _ _ h => h) (Or.inl ⟨by kernel_rfl, ?qy3⟩) (by assumption) ?_
        case qy3 => (intro w hSw; (try dsimp only at hSw); go_simp) <;> (try with_reducible rfl)
        try simp only [Act.put, List.setIfInBounds_toArray, List.set_cons_zero, List.set_cons_succ, List.getElem_toArray, List.getElem_cons_succ, List.getElem_cons_zero]
        refine wpAnyH_take (i := 5) (v := ?qv5) rfl (by kernel_rfl) (by kernel_rfl) (by kernel_rfl) (fun _ _ _ h => h) (Or.inl ⟨by kernel_rfl, ?qy5⟩) (by assumption) ?_
        case qy5 => (intro w hSw; (try dsimp only at hSw); go_simp) <;> (try with_reducible rfl)
        try simp only [Act.put, List.setIfInBounds_toArray, List.set_cons_zero, List.set_cons_succ, List.getElem_toArray, List.getElem_cons_succ, List.getElem_cons_zero]
        refine wpAnyH_ready (rs := [4]) (by kernel_rfl) (by simp) ?_
        refine AllReadyH.cons rfl (fun K hK => ?_) AllReadyH.nil
        go_simp
        refine (lw5Of u A5 n c5 _).mono ?_
        rintro e ww0 ⟨rfl, bb0⟩
        have bb0 := Below.trans (Below.drew (Below.refl _ _)) bb0
        have kk0 := K11.out _ bb0
        go_wp2_with fail
        refine hK.out _ _ ?hs4a (fun hHeld => ?_)
        case hs4a => (try dsimp only); exact kk0.1
        clear hK K
        try simp only [Act.put, List.setIfInBounds_toArray, List.set_cons_zero, List.set_cons_succ, List.getElem_toArray, List.getElem_cons_succ, List.getElem_cons_zero]
        refine wpAnyH_ready (rs := [6]) (by kernel_rfl) (by simp) ?_
        refine AllReadyH.cons rfl (fun K hK => ?_) AllReadyH.nil
        go_simp
        refine (TO.out _).mono ?_
        rintro e ww1 ⟨rfl, bb1⟩
        have bb1 := bb0.trans (Below.mono bb1 bb0.size)
        have kk1 := K11.out _ bb1
        go_wp2_with fail
        refine hK.out _ _ ?hs6a (fun hHeld => ?_)
        case hs6a => (try dsimp only); exact kk1.1
        clear hK K
        try simp only [Act.put, List.setIfInBounds_toArray, List.set_cons_zero, List.set_cons_succ, List.getElem_toArray, List.getElem_cons_succ, List.getElem_cons_zero]
        refine wpAnyH_ready (rs := [7]) (by kernel_rfl) (by simp) ?_
        refine AllReadyH.cons rfl (fun K hK => ?_) AllReadyH.nil
        go_simp
        refine (lw5Of u A n c _).mono ?_
        rintro e ww2 ⟨rfl, bb2⟩
        have bb2 := bb1.trans (Below.mono bb2 bb1.size)
        have kk2 := K11.out _ bb2
        go_wp2_with fail
        refine hK.out _ _ ?hs7a (fun hHeld => ?_)
        case hs7a => (try dsimp only); exact kk2.1
        clear hK K
        try simp only [Act.put, List.setIfInBounds_toArray, List.set_cons_zero, List.set_cons_succ, List.getElem_toArray, List.getElem_cons_succ, List.getElem_cons_zero]
        refine wpAnyH_ready (rs := [8]) (by kernel_rfl) (by simp) ?_
        refine AllReadyH.cons rfl (fun K hK => ?_) AllReadyH.nil
        go_simp
        refine (rf5Same u u A5 A n n c5 c l l _ kk2.2.1 kk2.2.2.1).mono ?_
        rw [decide_eq_true (show (u, l) = (u, l) from rfl)]
        rintro e ww3 ⟨rfl, bb3⟩
        have bb3 := bb2.trans (Below.mono bb3 bb2.size)
        have kk3 := K11.out _ bb3
        go_wp2_with fail
        refine hK.out _ _ ?hs8a (fun hHeld => ?_)
        case hs8a => (try dsimp only); exact kk3.1
        clear hK K
        try simp only [Act.put, List.setIfInBounds_toArray, List.set_cons_zero, List.set_cons_succ, List.getElem_toArray, List.getElem_cons_succ, List.getElem_cons_zero]
        refine wpAnyH_take (i := 9) (v := ?qv9) rfl (by kernel_rfl) (by kernel_rfl) (by kernel_rfl) (fun _ _ _ h => h) (Or.inl ⟨by kernel_rfl, ?qy9⟩) (by assumption) ?_
        case qy9 => (intro w hSw; (try dsimp only at hSw); go_simp) <;> (try with_reducible rfl)
        try simp only [Act.put, List.setIfInBounds_toArray, List.set_cons_zero, List.set_cons_succ, List.getElem_toArray, List.getElem_cons_succ, List.getElem_cons_zero]
        refine wpAnyH_take (i := 10) (v := ?qv10) rfl (by kernel_rfl) (by kernel_rfl) (by kernel_rfl) (fun _ _ _ h => h) (Or.inl ⟨by kernel_rfl, ?qy10⟩) (by assumption) ?_
        case qy10 => (intro w hSw; (try dsimp only at hSw); go_simp) <;> (try with_reducible rfl)
        try simp only [Act.put, List.setIfInBounds_toArray, List.set_cons_zero, List.set_cons_succ, List.getElem_toArray, List.getElem_cons_succ, List.getElem_cons_zero]
        refine wpAnyH_done (by kernel_rfl) ?_ _
        go_wp2_with fail
        go_meet
        exact ⟨rfl, kk3.2.2.2⟩
      case rest =>
        obtain ⟨rfl, b10⟩ := hcut
        obtain ⟨⟨x0, x1, _, _, r0, r1⟩, hb10, hz10, s10, _, z10, _, b10w⟩ := K6.out _ b10
        clear K11
        rcases CS.out with ⟨rfl, rfl⟩ | ⟨rfl, rfl⟩
        · go_wp2_with fail
          refine (BK.out (by first | exact trivial | rfl) _ A1 c1 s10).mono ?_
          rintro e w14 ⟨A6, c6, rfl, z6, hc6, b14⟩
          have hc6 := Lib.hid hc6
          have b14 := b10.trans (Below.mono b14 b10.size)
          clear x0 x1 r0 r1 hb10 hz10 s10 z10 b10w
          obtain ⟨_, _, hz14, _⟩ := K6.out _ b14
          go_upto_region 13 with (fail)
          go_wp2_with fail
          refine (ref4Same A6 B k k c6 d fl fl _ z6 hz14 (by have := hkl.out; omega) (by have := hkl.out; omega)).mono ?_
          rw [decide_eq_true (show fl = fl from rfl)]
          rintro e w15 ⟨rfl, q15⟩
          have b15 := (K6.out _ (b14.trans (Below.mono q15.below b14.size))).2.2.2.2.2.2.2
          go_wp2
          go_ret
          exact ⟨rfl, by rw [hRe.out]; exact b15⟩
        · go_wp2_with fail
          refine (BN.out _ A1 c1 s10).mono ?_
          rintro e w14 ⟨A6, h6, c6, z, rfl, b14⟩
          have b14 := (K6.out _ (b10.trans (Below.mono b14 b10.size))).2.2.2.2.2.2.2
          clear x0 x1 r0 r1 hb10 hz10 s10 z10 b10w
          go_wp2
          go_ret
          exact ⟨rfl, by rw [hRe.out]; exact b14⟩
    · have g1 : (g == 0) = false := by simpa using g0
      rcases CS.out with ⟨rfl, rfl⟩ | ⟨rfl, rfl⟩
      · go_wp2_with fail
        refine (BK.out (by first | exact trivial | rfl) _ A1 c1 s10).mono ?_
        rintro e w14 ⟨A6, c6, rfl, z6, hc6, b14⟩
        have hc6 := Lib.hid hc6
        have b14 := b10.trans (Below.mono b14 b10.size)
        clear x0 x1 r0 r1 hb10 hz10 s10 z10 b10w
        obtain ⟨_, _, hz14, _⟩ := K6.out _ b14
        go_upto_region 13 with (fail)
        go_wp2_with fail
        refine (ref4Same A6 B k k c6 d fl fl _ z6 hz14 (by have := hkl.out; omega) (by have := hkl.out; omega)).mono ?_
        rw [decide_eq_true (show fl = fl from rfl)]
        rintro e w15 ⟨rfl, q15⟩
        have b15 := (K6.out _ (b14.trans (Below.mono q15.below b14.size))).2.2.2.2.2.2.2
        go_wp2
        go_ret
        exact ⟨rfl, by rw [hRe.out]; exact b15⟩
      · go_wp2_with fail
        refine (BN.out _ A1 c1 s10).mono ?_
        rintro e w14 ⟨A6, h6, c6, z, rfl, b14⟩
        have b14 := (K6.out _ (b10.trans (Below.mono b14 b10.size))).2.2.2.2.2.2.2
        clear x0 x1 r0 r1 hb10 hz10 s10 z10 b10w
        go_wp2
        go_ret
        exact ⟨rfl, by rw [hRe.out]; exact b14⟩

end Go.Proofs.Ytjcddbcokiaehaa
