/-
  The law TextOfs: its walk, where the answer of the reference stands.
-/
import Derived.Test.YtalhdjjebcmloaaDoorTv
import Derived.Deep.RegionHeld3
namespace Go.Proofs.YtalhdjjebcmloaaDoor
open Go.RowKit Go.Shelf
set_option linter.unusedVariables false
set_option linter.unusedSimpArgs false
set_option maxRecDepth 4000


set_option maxHeartbeats 6400000 in
theorem ofsNoOk (k : Int) (A : Option Addr) (n0 c : Nat) (l0 : List Int) (s0 : ByteArray) (w : World) (hT : Tb w) (h : Zs w A n0 l0) (hc : n0 ≤ c) (ms : Nat) (hms : min s0.size 500 = ms) (hk : isK k = false) (hok : rightT 12 (s0.extract 0 ms).data.toList = true) :
    Calls Tryd.prog 4 #[.int .i64 k, .slice A n0 c, .string s0] w fun e w' => e = .returned (.bool true) ∧ Below w.heap.size w w' := by
  obtain ⟨n, hnn⟩ : ∃ n, min n0 200 = n := ⟨_, rfl⟩
  have hn200 : n ≤ 200 := by omega
  have hl := h.take (m := n) (by omega)
  generalize l0.take n = l at hl
  have hq1 : min (n0 : Int) 200 = (n : Int) := by omega
  have hq2 : (if (200 : Int) < (n0 : Int) then (200 : Int) else (n0 : Int)) = (n : Int) := by split <;> omega
  have hcut := cutToI A n0 c n (by omega) hc
  have hm1 : min (s0.size : Int) 500 = (ms : Int) := by omega
  have hm2 : (if (500 : Int) < (s0.size : Int) then (500 : Int) else (s0.size : Int)) = (ms : Int) := by split <;> omega
  have hsl : ∀ W : World, (Instr.slice 9 (.string s0) none (some (.int .i64 (ms : Int))) none).run Tryd.prog W = .ok (.string (s0.extract 0 ms)) W := fun W => by
    rw [run_slice_string_to_if W 9 s0 .i64 (ms : Int) Tryd.underlying9, if_pos (by omega), Int.toNat_natCast]
  have hs1 : (s0.extract 0 ms).size ≤ 500 := by simp; omega
  generalize s0.extract 0 ms = s1 at *
  have hHs := Lib.hid hs1
  have hHn := Lib.hid hn200
  obtain ⟨V1, hV1⟩ : ∃ V1, ofV k l = V1 := ⟨_, rfl⟩
  obtain ⟨u1, b1, e1⟩ := V1
  have hO1 := txOfR k A n c l w hl (by omega)
  rw [hV1] at hO1
  have hO2 := Lib.hid (fun (W : World) (hW : Zs W A n l) => ref6Of k A n c l W hW (by have := hHn.out; omega))
  rw [hV1] at hO2
  have hee : (e1 == e1) = true := by simp
  clear hnn h hc hms hs1 hn200 hV1
  go_enter Tryd.func4, Tryd.ntmps4
  go_wp2_with fail
  refine hO1.mono ?_
  rintro e w1 ⟨A1, n1, c1, rfl, hb1, hc1, bl1⟩
  dsimp only at hb1 ⊢
  have hX7 := Blk.new2 w1 (.int .i64 u1) (.slice A1 n1 c1) 25
  have bl2 := below_alloc1 w1 (.cells #[.int .i64 u1, .slice A1 n1 c1] 25)
  have hb1 := hb1.below bl2
  have hB2 := bl1.trans (Below.mono bl2 bl1.size)
  have hl2 := hl.below hB2
  have hT2 := hT.below hB2
  obtain ⟨f0, f1, f2, f3⟩ := hX7.two
  go_wp2_with fail
  generalize hW2 : w1.alloc (.cells #[.int .i64 u1, .slice A1 n1 c1] 25) = W2 at *
  generalize hG7 : w1.heap.size = X7 at *
  clear hO1 bl1 bl2 hW2 f0 f1 f2 f3 hl hT hcut hsl hm1 hm2 hq1 hq2
  refine (hO2.out _ hl2).mono ?_
  rintro e w3 ⟨A2, n2, c2, rfl, hb2, hc2, bl3⟩
  dsimp only at hb2 ⊢
  have hX9 := Blk.new2 w3 (.int .i64 u1) (.slice A2 n2 c2) 24
  have bl4 := below_alloc1 w3 (.cells #[.int .i64 u1, .slice A2 n2 c2] 24)
  have bl5 := below_tr bl3 bl4
  have hb1 := hb1.below bl5
  have hb2 := hb2.below bl4
  have hX7 := hX7.below bl5
  have hT4 := hT2.below bl5
  have hB4 := hB2.trans (Below.mono bl5 hB2.size)
  have hF := txFromR k s1 _ hT4 (by have := hHs.out; omega)
  obtain ⟨f0, f1, f2, f3⟩ := hX9.two
  go_wp2_with fail
  generalize hW4 : w3.alloc (.cells #[.int .i64 u1, .slice A2 n2 c2] 24) = W4 at *
  generalize hG9 : w3.heap.size = X9 at *
  clear bl3 bl4 bl5 hW4 f0 f1 f2 f3 hO2 hl2 hT2 hB2

  have hHok := Lib.hid hok
  obtain ⟨u2, hu2⟩ : ∃ u2 : Int, u2 = 0 := ⟨_, rfl⟩
  obtain ⟨b2, hb2e⟩ : ∃ b2 : List UInt8, [] = b2 := ⟨_, rfl⟩
  have hV2 : ofV k (runesT 12 s1.data.toList) = (u2, b2, 1) := by rw [ofV_no hk, hu2, ← hb2e]
  have hV3 := hV2
  clear hk hok hu2 hb2e
  rw [hV2] at hF
  refine hF.mono ?_
  rintro e w5 ⟨A3, n3, c3, rfl, hb3, hc3, bl6⟩
  dsimp only at hb3 ⊢
  have hX11 := Blk.new2 w5 (.int .i64 u2) (.slice A3 n3 c3) 25
  have bl7 := below_alloc1 w5 (.cells #[.int .i64 u2, .slice A3 n3 c3] 25)
  have bl8 := below_tr bl6 bl7
  have hb1 := hb1.below bl8
  have hb2 := hb2.below bl8
  have hb3 := hb3.below bl7
  have hX7 := hX7.below bl8
  have hX9 := hX9.below bl8
  have hT6 := hT4.below bl8
  have hB6 := hB4.trans (Below.mono bl8 hB4.size)
  obtain ⟨cs, Wc, hcv, hcs, hbs, hbc, _⟩ := strBytes s1 (w5.alloc (.cells #[.int .i64 u2, .slice A3 n3 c3] 25))
  rw [World.size_alloc] at hcv hbs
  have hSg := ref6Signs 12 _ s1.size cs _ Wc hbs (by have := hHs.out; omega)
  obtain ⟨f0, f1, f2, f3⟩ := hX11.two
  go_wp2_with fail
  have hb1 := hb1.below hbc
  have hb2 := hb2.below hbc
  have hb3 := hb3.below hbc
  have hX7 := hX7.below hbc
  have hX9 := hX9.below hbc
  have hX11 := hX11.below hbc
  have hT7 := hT6.below hbc
  have hB7 := hB6.trans (Below.mono hbc hB6.size)
  generalize hG11 : w5.heap.size = X11 at *
  clear bl6 bl7 bl8 hcv hbs hF f0 f1 f2 f3 hbc hT4 hT6 hB4 hB6
  refine hSg.mono ?_
  rintro e w8 ⟨hyes, hno, bl9⟩
  obtain ⟨v8, rfl, hov8⟩ := hyes hHok.out
  obtain ⟨A4, c4, rfl, hc4, hvs4⟩ := hov8.slice
  have hz8 : Zs w8 A4 (runesT 12 s1.data.toList).length (runesT 12 s1.data.toList) := by unfold Zs; rw [List.length_map] at hvs4; exact hvs4
  rw [List.length_map]
  have hO3 := ref6Of k A4 _ c4 (runesT 12 s1.data.toList) w8 hz8 (by have := runesT_length 12 s1.data.toList; have h9 : s1.data.toList.length = s1.size := rfl; have := hHs.out; omega)
  rw [hV3] at hO3
  clear hov8 hvs4 hc4 hz8
  have hb1 := hb1.below bl9
  have hb2 := hb2.below bl9
  have hb3 := hb3.below bl9
  have hX7 := hX7.below bl9
  have hX9 := hX9.below bl9
  have hX11 := hX11.below bl9
  have hT8 := hT7.below bl9
  have hB8 := hB7.trans (Below.mono bl9 hB7.size)
  clear hyes hno hSg bl9 hT7 hB7
  go_wp2_with fail
  refine hO3.mono ?_
  rintro e w9 ⟨A5, n5, c5, rfl, hb5, hc5, bl10⟩
  dsimp only at hb5 ⊢
  have hX15 := Blk.new2 w9 (.int .i64 u2) (.slice A5 n5 c5) 24
  have bl11 := below_alloc1 w9 (.cells #[.int .i64 u2, .slice A5 n5 c5] 24)
  have bl12 := below_tr bl10 bl11
  have hb1 := hb1.below bl12
  have hb2 := hb2.below bl12
  have hb3 := hb3.below bl12
  have hb5 := hb5.below bl11
  have hX7 := hX7.below bl12
  have hX9 := hX9.below bl12
  have hX11 := hX11.below bl12
  have hT9 := hT8.below bl12
  have hB9 := hB8.trans (Below.mono bl12 hB8.size)
  obtain ⟨f0, f1, f2, f3⟩ := hX15.two
  clear hO3 bl10 bl11 bl12 hT8 hB8

  go_wp2_with fail
  generalize hW9 : w9.alloc (.cells #[.int .i64 u2, .slice A5 n5 c5] 24) = W9 at *
  generalize hG15 : w9.heap.size = X15 at *
  clear hW9 f0 f1 f2 f3
  have K8 : Hid (∀ W : World, Below W9.heap.size W9 W → ((fun w' => w'.cell? ⟨X7, 0, none⟩ = some (.int .i64 u1) ∧ w'.cell? ⟨X7, 1, none⟩ = some (.slice A1 n1 c1) ∧ w'.cell? ⟨X9, 0, none⟩ = some (.int .i64 u1) ∧ w'.cell? ⟨X9, 1, none⟩ = some (.slice A2 n2 c2) ∧ w'.cell? ⟨X11, 0, none⟩ = some (.int .i64 u2) ∧ w'.cell? ⟨X11, 1, none⟩ = some (.slice A3 n3 c3) ∧ w'.cell? ⟨X15, 0, none⟩ = some (.int .i64 u2) ∧ w'.cell? ⟨X15, 1, none⟩ = some (.slice A5 n5 c5)) W) ∧ Tb W ∧ Bs W A1 n1 b1 ∧ Bs W A2 n2 b1 ∧ Bs W A3 n3 b2 ∧ Bs W A5 n5 b2) := Lib.hid (fun W hW => ⟨⟨(hX7.below hW).two.1, (hX7.below hW).two.2.1, (hX9.below hW).two.1, (hX9.below hW).two.2.1, (hX11.below hW).two.1, (hX11.below hW).two.2.1, (hX15.below hW).two.1, (hX15.below hW).two.2.1⟩, hT9.below hW, hb1.below hW, hb2.below hW, hb3.below hW, hb5.below hW⟩)
  clear hX7 hX9 hX11 hX15 hT9 hb1 hb2 hb3 hb5
  refine wp_region_held_drew (S := fun w' => w'.cell? ⟨X7, 0, none⟩ = some (.int .i64 u1) ∧ w'.cell? ⟨X7, 1, none⟩ = some (.slice A1 n1 c1) ∧ w'.cell? ⟨X9, 0, none⟩ = some (.int .i64 u1) ∧ w'.cell? ⟨X9, 1, none⟩ = some (.slice A2 n2 c2) ∧ w'.cell? ⟨X11, 0, none⟩ = some (.int .i64 u2) ∧ w'.cell? ⟨X11, 1, none⟩ = some (.slice A3 n3 c3) ∧ w'.cell? ⟨X15, 0, none⟩ = some (.int .i64 u2) ∧ w'.cell? ⟨X15, 1, none⟩ = some (.slice A5 n5 c5)) (by kernel_rfl) ?_ (fun hHeld => ?_)
  · (try dsimp only); exact (K8.out _ (Below.drew (Below.refl _ _))).1
  refine wpAnyH_ready (rs := [0]) (by kernel_rfl) (by simp) ?_
  refine AllReadyH.cons rfl (fun K hK => ?_) AllReadyH.nil
  go_simp
  refine (known6 _ (K8.out _ (Below.drew (Below.refl _ _))).2.1).mono ?_
  rintro e wq0 ⟨rfl, bq0⟩
  have bq0 := Below.trans (Below.drew (Below.refl _ _)) bq0
  have kq0 := K8.out _ bq0
  go_wp2_with fail
  refine hK.out _ _ ?_ (fun hHeld => ?_)
  · (try dsimp only); exact kq0.1
  clear hK K
  try simp only [Act.put, List.setIfInBounds_toArray, List.set_cons_zero, List.set_cons_succ, List.getElem_toArray, List.getElem_cons_succ, List.getElem_cons_zero]
  refine wpAnyH_take (i := 1) (v := ?_) rfl (by kernel_rfl) (by kernel_rfl) (by kernel_rfl) (fun _ _ _ h => h) (Or.inl ⟨by kernel_rfl, ?_⟩) (by assumption) ?_
  rotate_left 1
  · (intro w hSw; (try dsimp only at hSw); go_simp) <;> (try with_reducible rfl)
  try simp only [Act.put, List.setIfInBounds_toArray, List.set_cons_zero, List.set_cons_succ, List.getElem_toArray, List.getElem_cons_succ, List.getElem_cons_zero]
  refine wpAnyH_take (i := 2) (v := ?_) rfl (by kernel_rfl) (by kernel_rfl) (by kernel_rfl) (fun _ _ _ h => h) (Or.inl ⟨by kernel_rfl, ?_⟩) (by assumption) ?_
  rotate_left 1
  · (intro w hSw; (try dsimp only at hSw); go_simp) <;> (try with_reducible rfl)
  try simp only [Act.put, List.setIfInBounds_toArray, List.set_cons_zero, List.set_cons_succ, List.getElem_toArray, List.getElem_cons_succ, List.getElem_cons_zero]
  refine wpAnyH_take (i := 3) (v := ?_) rfl (by kernel_rfl) (by kernel_rfl) (by kernel_rfl) (fun _ _ _ h => h) (Or.inl ⟨by kernel_rfl, ?_⟩) (by assumption) ?_
  rotate_left 1
  · (intro w hSw; (try dsimp only at hSw); go_simp) <;> (try with_reducible rfl)
  try simp only [Act.put, List.setIfInBounds_toArray, List.set_cons_zero, List.set_cons_succ, List.getElem_toArray, List.getElem_cons_succ, List.getElem_cons_zero]
  refine wpAnyH_take (i := 4) (v := ?_) rfl (by kernel_rfl) (by kernel_rfl) (by kernel_rfl) (fun _ _ _ h => h) (Or.inl ⟨by kernel_rfl, ?_⟩) (by assumption) ?_
  rotate_left 1
  · (intro w hSw; (try dsimp only at hSw); go_simp) <;> (try with_reducible rfl)
  try simp only [Act.put, List.setIfInBounds_toArray, List.set_cons_zero, List.set_cons_succ, List.getElem_toArray, List.getElem_cons_succ, List.getElem_cons_zero]
  refine wpAnyH_take (i := 5) (v := ?_) rfl (by kernel_rfl) (by kernel_rfl) (by kernel_rfl) (fun _ _ _ h => h) (Or.inl ⟨by kernel_rfl, ?_⟩) (by assumption) ?_
  rotate_left 1
  · (intro w hSw; (try dsimp only at hSw); go_simp) <;> (try with_reducible rfl)
  try simp only [Act.put, List.setIfInBounds_toArray, List.set_cons_zero, List.set_cons_succ, List.getElem_toArray, List.getElem_cons_succ, List.getElem_cons_zero]
  refine wpAnyH_take (i := 6) (v := ?_) rfl (by kernel_rfl) (by kernel_rfl) (by kernel_rfl) (fun _ _ _ h => h) (Or.inl ⟨by kernel_rfl, ?_⟩) (by assumption) ?_
  rotate_left 1
  · (intro w hSw; (try dsimp only at hSw); go_simp) <;> (try with_reducible rfl)
  try simp only [Act.put, List.setIfInBounds_toArray, List.set_cons_zero, List.set_cons_succ, List.getElem_toArray, List.getElem_cons_succ, List.getElem_cons_zero]
  refine wpAnyH_take (i := 7) (v := ?_) rfl (by kernel_rfl) (by kernel_rfl) (by kernel_rfl) (fun _ _ _ h => h) (Or.inl ⟨by kernel_rfl, ?_⟩) (by assumption) ?_
  rotate_left 1
  · (intro w hSw; (try dsimp only at hSw); go_simp) <;> (try with_reducible rfl)
  try simp only [Act.put, List.setIfInBounds_toArray, List.set_cons_zero, List.set_cons_succ, List.getElem_toArray, List.getElem_cons_succ, List.getElem_cons_zero]
  refine wpAnyH_take (i := 9) (v := ?_) rfl (by kernel_rfl) (by kernel_rfl) (by kernel_rfl) (fun _ _ _ h => h) (Or.inl ⟨by kernel_rfl, ?_⟩) (by assumption) ?_
  rotate_left 1
  · (intro w hSw; (try dsimp only at hSw); go_simp) <;> (try with_reducible rfl)
  try simp only [Act.put, List.setIfInBounds_toArray, List.set_cons_zero, List.set_cons_succ, List.getElem_toArray, List.getElem_cons_succ, List.getElem_cons_zero]
  refine wpAnyH_ready (rs := [8]) (by kernel_rfl) (by simp) ?_
  refine AllReadyH.cons rfl (fun K hK => ?_) AllReadyH.nil
  go_simp
  refine (lw6Of u1 A1 n1 c1 _).mono ?_
  rintro e wq1 ⟨rfl, bq1⟩
  have bq1 := bq0.trans (Below.mono bq1 bq0.size)
  have kq1 := K8.out _ bq1
  go_wp2_with fail
  refine hK.out _ _ ?_ (fun hHeld => ?_)
  · (try dsimp only); exact kq1.1
  clear hK K
  try simp only [Act.put, List.setIfInBounds_toArray, List.set_cons_zero, List.set_cons_succ, List.getElem_toArray, List.getElem_cons_succ, List.getElem_cons_zero]
  refine wpAnyH_ready (rs := [10]) (by kernel_rfl) (by simp) ?_
  refine AllReadyH.cons rfl (fun K hK => ?_) AllReadyH.nil
  go_simp
  refine (rf6SameT u1 A1 A2 n1 n2 c1 c2 _ _ kq1.2.2.1 kq1.2.2.2.1).mono ?_
  rintro e wq2 ⟨rfl, bq2⟩
  have bq2 := bq1.trans (Below.mono bq2 bq1.size)
  have kq2 := K8.out _ bq2
  go_wp2_with fail
  refine hK.out _ _ ?_ (fun hHeld => ?_)
  · (try dsimp only); exact kq2.1
  clear hK K
  try simp only [Act.put, List.setIfInBounds_toArray, List.set_cons_zero, List.set_cons_succ, List.getElem_toArray, List.getElem_cons_succ, List.getElem_cons_zero]
  refine wpAnyH_take (i := 11) (v := ?_) rfl (by kernel_rfl) (by kernel_rfl) (by kernel_rfl) (fun _ _ _ h => h) (Or.inl ⟨by kernel_rfl, ?_⟩) (by assumption) ?_
  rotate_left 1
  · (intro w hSw; (try dsimp only at hSw); go_simp) <;> (try with_reducible rfl)
  try simp only [Act.put, List.setIfInBounds_toArray, List.set_cons_zero, List.set_cons_succ, List.getElem_toArray, List.getElem_cons_succ, List.getElem_cons_zero]
  refine wpAnyH_take (i := 12) (v := ?_) rfl (by kernel_rfl) (by kernel_rfl) (by kernel_rfl) (fun _ _ _ h => h) (Or.inl ⟨by kernel_rfl, ?_⟩) (by assumption) ?_
  rotate_left 1
  · (intro w hSw; (try dsimp only at hSw); go_simp) <;> (try with_reducible rfl)
  try simp only [Act.put, List.setIfInBounds_toArray, List.set_cons_zero, List.set_cons_succ, List.getElem_toArray, List.getElem_cons_succ, List.getElem_cons_zero]
  refine wpAnyH_take (i := 13) (v := ?_) rfl (by kernel_rfl) (by kernel_rfl) (by kernel_rfl) (fun _ _ _ h => h) (Or.inl ⟨by kernel_rfl, ?_⟩) (by assumption) ?_
  rotate_left 1
  · (intro w hSw; (try dsimp only at hSw); go_simp) <;> (try with_reducible rfl)
  try simp only [Act.put, List.setIfInBounds_toArray, List.set_cons_zero, List.set_cons_succ, List.getElem_toArray, List.getElem_cons_succ, List.getElem_cons_zero]
  refine wpAnyH_take (i := 14) (v := ?_) rfl (by kernel_rfl) (by kernel_rfl) (by kernel_rfl) (fun _ _ _ h => h) (Or.inl ⟨by kernel_rfl, ?_⟩) (by assumption) ?_
  rotate_left 1
  · (intro w hSw; (try dsimp only at hSw); go_simp) <;> (try with_reducible rfl)
  try simp only [Act.put, List.setIfInBounds_toArray, List.set_cons_zero, List.set_cons_succ, List.getElem_toArray, List.getElem_cons_succ, List.getElem_cons_zero]
  refine wpAnyH_take (i := 15) (v := ?_) rfl (by kernel_rfl) (by kernel_rfl) (by kernel_rfl) (fun _ _ _ h => h) (Or.inl ⟨by kernel_rfl, ?_⟩) (by assumption) ?_
  rotate_left 1
  · (intro w hSw; (try dsimp only at hSw); go_simp) <;> (try with_reducible rfl)
  try simp only [Act.put, List.setIfInBounds_toArray, List.set_cons_zero, List.set_cons_succ, List.getElem_toArray, List.getElem_cons_succ, List.getElem_cons_zero]
  refine wpAnyH_take (i := 16) (v := ?_) rfl (by kernel_rfl) (by kernel_rfl) (by kernel_rfl) (fun _ _ _ h => h) (Or.inl ⟨by kernel_rfl, ?_⟩) (by assumption) ?_
  rotate_left 1
  · (intro w hSw; (try dsimp only at hSw); go_simp) <;> (try with_reducible rfl)
  try simp only [Act.put, List.setIfInBounds_toArray, List.set_cons_zero, List.set_cons_succ, List.getElem_toArray, List.getElem_cons_succ, List.getElem_cons_zero]
  refine wpAnyH_take (i := 17) (v := ?_) rfl (by kernel_rfl) (by kernel_rfl) (by kernel_rfl) (fun _ _ _ h => h) (Or.inl ⟨by kernel_rfl, ?_⟩) (by assumption) ?_
  rotate_left 1
  · (intro w hSw; (try dsimp only at hSw); go_simp) <;> (try with_reducible rfl)
  try simp only [Act.put, List.setIfInBounds_toArray, List.set_cons_zero, List.set_cons_succ, List.getElem_toArray, List.getElem_cons_succ, List.getElem_cons_zero]
  refine wpAnyH_take (i := 18) (v := ?_) rfl (by kernel_rfl) (by kernel_rfl) (by kernel_rfl) (fun _ _ _ h => h) (Or.inl ⟨by kernel_rfl, ?_⟩) (by assumption) ?_
  rotate_left 1
  · (intro w hSw; (try dsimp only at hSw); go_simp) <;> (try with_reducible rfl)
  try simp only [Act.put, List.setIfInBounds_toArray, List.set_cons_zero, List.set_cons_succ, List.getElem_toArray, List.getElem_cons_succ, List.getElem_cons_zero]
  refine wpAnyH_take (i := 20) (v := ?_) rfl (by kernel_rfl) (by kernel_rfl) (by kernel_rfl) (fun _ _ _ h => h) (Or.inl ⟨by kernel_rfl, ?_⟩) (by assumption) ?_
  rotate_left 1
  · (intro w hSw; (try dsimp only at hSw); go_simp) <;> (try with_reducible rfl)
  try simp only [Act.put, List.setIfInBounds_toArray, List.set_cons_zero, List.set_cons_succ, List.getElem_toArray, List.getElem_cons_succ, List.getElem_cons_zero]
  refine wpAnyH_ready (rs := [19]) (by kernel_rfl) (by simp) ?_
  refine AllReadyH.cons rfl (fun K hK => ?_) AllReadyH.nil
  go_simp
  refine (lw6Of u2 A3 n3 c3 _).mono ?_
  rintro e wq3 ⟨rfl, bq3⟩
  have bq3 := bq2.trans (Below.mono bq3 bq2.size)
  have kq3 := K8.out _ bq3
  go_wp2_with fail
  refine hK.out _ _ ?_ (fun hHeld => ?_)
  · (try dsimp only); exact kq3.1
  clear hK K
  try simp only [Act.put, List.setIfInBounds_toArray, List.set_cons_zero, List.set_cons_succ, List.getElem_toArray, List.getElem_cons_succ, List.getElem_cons_zero]
  refine wpAnyH_ready (rs := [21]) (by kernel_rfl) (by simp) ?_
  refine AllReadyH.cons rfl (fun K hK => ?_) AllReadyH.nil
  go_simp
  refine (rf6SameT u2 A3 A5 n3 n5 c3 c5 _ _ kq3.2.2.2.2.1 kq3.2.2.2.2.2).mono ?_
  rintro e wq4 ⟨rfl, bq4⟩
  have bq4 := bq3.trans (Below.mono bq4 bq3.size)
  have kq4 := K8.out _ bq4
  go_wp2_with fail
  refine hK.out _ _ ?_ (fun hHeld => ?_)
  · (try dsimp only); exact kq4.1
  clear hK K
  try simp only [Act.put, List.setIfInBounds_toArray, List.set_cons_zero, List.set_cons_succ, List.getElem_toArray, List.getElem_cons_succ, List.getElem_cons_zero]
  refine wpAnyH_take (i := 22) (v := ?_) rfl (by kernel_rfl) (by kernel_rfl) (by kernel_rfl) (fun _ _ _ h => h) (Or.inl ⟨by kernel_rfl, ?_⟩) (by assumption) ?_
  rotate_left 1
  · (intro w hSw; (try dsimp only at hSw); go_simp) <;> (try with_reducible rfl)
  try simp only [Act.put, List.setIfInBounds_toArray, List.set_cons_zero, List.set_cons_succ, List.getElem_toArray, List.getElem_cons_succ, List.getElem_cons_zero]
  refine wpAnyH_take (i := 23) (v := ?_) rfl (by kernel_rfl) (by kernel_rfl) (by kernel_rfl) (fun _ _ _ h => h) (Or.inl ⟨by kernel_rfl, ?_⟩) (by assumption) ?_
  rotate_left 1
  · (intro w hSw; (try dsimp only at hSw); go_simp) <;> (try with_reducible rfl)
  try simp only [Act.put, List.setIfInBounds_toArray, List.set_cons_zero, List.set_cons_succ, List.getElem_toArray, List.getElem_cons_succ, List.getElem_cons_zero]
  refine wpAnyH_done (by kernel_rfl) ?_ _

  have hBz := hB9.trans (Below.mono bq4 hB9.size)
  go_wp2
  refine bodyPost_ret (v := .bool true) (by simp [results, Tryd.results4, go_sem]) rfl ?_
  exact ⟨rfl, hBz⟩

end Go.Proofs.YtalhdjjebcmloaaDoor
