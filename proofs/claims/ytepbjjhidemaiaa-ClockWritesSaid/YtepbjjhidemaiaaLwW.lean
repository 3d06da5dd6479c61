/-
  The law ClockWrites.
-/
import Derived.Test.YtepbjjhidemaiaaKm
import Derived.Test.YtepbjjhidemaiaaKn
import Derived.Deep.RegionHeld3
namespace Go.Proofs.Ytepbjjhidemaiaa
open Go.RowKit
set_option linter.unusedVariables false
set_option linter.unusedSimpArgs false
set_option maxRecDepth 4000

theorem strBytes (s : ByteArray) (w : World) : ∃ c W', (convert 9 24 (.string s)).run Try.prog w = .ok (.slice (some ⟨w.heap.size, 0, none⟩) s.size c) W' ∧ s.size ≤ c ∧ Bs W' (some ⟨w.heap.size, 0, none⟩) s.size s.data.toList ∧ Below w.heap.size w W' ∧ W'.heap.size = w.heap.size + 1 := by
  refine ⟨_, _, run_bytes_of_string w _ _ 5 s Try.underlying9 Try.underlying24 Try.underlying5, grownCap_ge _ _ _ _, ⟨by simp, fun i x hx => ⟨_, _, rfl, ?_⟩⟩, ?_, by simp⟩
  · have hi : i < s.data.size := by have := (List.getElem?_eq_some_iff.1 hx).1; simpa using this
    have hsz : w.drew.heap.size = w.heap.size := rfl
    rw [Nat.zero_add, ← hsz, World.cell?_alloc_mark, bytesRow_at s _ i hi]
    have e : s.data[i] = x := by
      have := (List.getElem?_eq_some_iff.1 hx).2
      simpa using this
    rw [e]
  · have := below_alloc1 w.drew (.cells (bytesRow s (grownCap w s.size 0 5)) 5 ((bytesRow s (grownCap w s.size 0 5)).size, (bytesRow s (grownCap w s.size 0 5)).size + 1))
    exact ⟨this.os, this.tape, this.output, this.size, this.block⟩

theorem eqCT (w : World) (a b : Int) : (binOp .neq 28 (.agg #[.int .i64 a, .int .i64 b]) (.agg #[.int .i64 a, .int .i64 b])).run Try.prog w = .ok (.bool false) w := by go_simp
theorem below_cell2 {w w' : World} {p : Addr} {v : Value} (hb : Below w.heap.size w w') (h : w.cell? p = some v) : w'.cell? p = some v := (hb.cell (World.block_lt_of_cell? w _ h)).trans h

set_option maxHeartbeats 12800000 in
theorem lawWritesA (k s : Int) (w : World) (hs : I64 s) (h : ¬ rightT k s) (hK : kindS s = 0) :
    Calls Try.prog 3 #[tmv k s] w fun e w' => e = .returned (.bool true) ∧ Below w.heap.size w w' := by
  have HC0 : ∀ W, Calls Try.prog 7 #[tmv k s] W fun e w' => ∃ A n c, e = .returned (.tuple #[.slice A n c, .int .i64 1]) ∧ Bs w' A n ([] : List UInt8) ∧ n ≤ c ∧ Below W.heap.size W w' := by
    intro W
    refine (ckContentsNo k s W hs h).mono ?_
    rintro e w' ⟨rfl, hB⟩
    exact ⟨_, _, _, rfl, Bs.nil _ _, Nat.le_refl _, hB⟩
  have HW0 : ∀ W, Calls Try.prog 9 #[tmv k s] W fun e w' => ∃ A n c, e = .returned (.tuple #[.slice A n c, .int .i64 1]) ∧ Bs w' A n ([] : List UInt8) ∧ n ≤ c ∧ Below W.heap.size W w' := by
    intro W
    refine (ckWriteNo k s W hs h).mono ?_
    rintro e w' ⟨rfl, hB⟩
    exact ⟨_, _, _, rfl, Bs.nil _ _, Nat.le_refl _, hB⟩
  have hrt : decide (rightT k s) = false := by simpa using h
  have HO0 := fun W => ckOf s W hs
  have HG0 := fun W => ckGeneral s W hs
  rw [if_neg (by simpa using hK)] at HO0 HG0
  have HK0 := fun W => rfKind s W hs
  have HK20 := fun W => ckKind s W hs
  rw [hK] at HK0 HK20
  unfold tmv
  have HTo0 := lwaTo k s
  have HRR0 := fun W => rfRight k s W hs
  have HPR0 := fun W => ckRight k s W hs
  rw [hrt] at HRR0 HPR0
  unfold tmv at HTo0 HRR0 HPR0 HC0 HW0 HO0 HG0
  have HTo := Lib.hid HTo0
  have HRR := Lib.hid HRR0
  have HPR := Lib.hid HPR0
  have HC := Lib.hid HC0
  have HW := Lib.hid HW0
  have HO := Lib.hid HO0
  have HG := Lib.hid HG0
  have HK := Lib.hid HK0
  have HK2 := Lib.hid HK20
  have HKn := Lib.hid known10
  have X0 := Lib.hid (Blk.two_new w (.int .i64 k) (.int .i64 s) 23)
  have HB0 := Lib.hid (below_alloc1 w (.cells #[.int .i64 k, .int .i64 s] 23))
  clear HTo0 HRR0 HPR0 HC0 HW0 HO0 HG0 HK0 HK20 hs
  obtain ⟨p0, p1, _, _⟩ := X0.out.two
  go_enter Try.func3, Try.ntmps3
  go_upto_region 1 with (fail)
  generalize w.alloc (.cells #[.int .i64 k, .int .i64 s] 23) = W0 at *
  go_wp2_with fail
  refine (HTo.out _).mono ?_
  rintro e w1 ⟨rfl, hB1⟩
  have HB1 := Lib.hid (HB0.out.trans (hB1.mono HB0.out.size))
  have X1 := Lib.hid (X0.out.below hB1)
  clear hB1 p0 p1 HB0 X0
  obtain ⟨p0, p1, _, _⟩ := X1.out.two
  go_wp2_with fail
  refine (HC.out _).mono ?_
  rintro e w2 ⟨A2, n2, c2, rfl, s2, k2, hB2⟩
  have HB2 := Lib.hid (HB1.out.trans (hB2.mono HB1.out.size))
  have X2 := Lib.hid (X1.out.below hB2)
  have S2 := Lib.hid s2
  clear hB2 p0 p1 HB1 X1 s2 HC
  obtain ⟨p0, p1, _, _⟩ := X2.out.two
  go_wp2_with fail
  refine (HTo.out _).mono ?_
  rintro e w3 ⟨rfl, hB3⟩
  have HB3 := Lib.hid (HB2.out.trans (hB3.mono HB2.out.size))
  have X3 := Lib.hid (X2.out.below hB3)
  have S3 := Lib.hid (S2.out.below hB3)
  clear hB3 p0 p1 HB2 X2 S2
  obtain ⟨p0, p1, _, _⟩ := X3.out.two
  go_wp2_with fail
  refine (HW.out _).mono ?_
  rintro e w4 ⟨A4, n4, c4, rfl, s4, k4, hB4⟩
  have HB4 := Lib.hid (HB3.out.trans (hB4.mono HB3.out.size))
  have X4 := Lib.hid (X3.out.below hB4)
  have S4 := Lib.hid (S3.out.below hB4)
  have T4 := Lib.hid s4
  clear hB4 p0 p1 HB3 X3 S3 s4 HW
  obtain ⟨p0, p1, _, _⟩ := X4.out.two
  go_wp2_with fail
  refine (HO.out _).mono ?_
  rintro e w5 ⟨rfl, hB5⟩
  have hB6 := hB5.alloc hB5.size (.cells #[.int .i64 0, .int .i64 0] 28)
  have HB6 := Lib.hid (HB4.out.trans (hB6.mono HB4.out.size))
  have X6 := Lib.hid (X4.out.below hB6)
  have S6 := Lib.hid (S4.out.below hB6)
  have T6 := Lib.hid (T4.out.below hB6)
  have Y6 := Lib.hid (Blk.two_new w5 (.int .i64 0) (.int .i64 0) 28)
  clear hB5 hB6 p0 p1 HB4 X4 S4 T4 HO
  go_upto_region 4 with (fail)
  generalize w5.alloc (.cells #[.int .i64 0, .int .i64 0] 28) = W6 at *
  generalize w5.heap.size = D1 at *
  obtain ⟨p0, p1, _, _⟩ := X6.out.two
  go_wp2_with fail
  refine (HG.out _).mono ?_
  rintro e w7 ⟨rfl, hB7⟩
  have hB8 := hB7.alloc hB7.size (.cells #[.int .i64 0, .int .i64 0] 28)
  have HB8 := Lib.hid (HB6.out.trans (hB8.mono HB6.out.size))
  have X8 := Lib.hid (X6.out.below hB8)
  have S8 := Lib.hid (S6.out.below hB8)
  have T8 := Lib.hid (T6.out.below hB8)
  have Y8 := Lib.hid (Y6.out.below hB8)
  have Z8 := Lib.hid (Blk.two_new w7 (.int .i64 0) (.int .i64 0) 28)
  clear hB7 hB8 p0 p1 HB6 X6 S6 T6 Y6 HG
  go_upto_region 5 with (fail)
  generalize w7.alloc (.cells #[.int .i64 0, .int .i64 0] 28) = W8 at *
  generalize w7.heap.size = D2 at *
  obtain ⟨p0, p1, _, _⟩ := X8.out.two
  go_wp2_with fail
  refine (HK.out _).mono ?_
  rintro e w9 ⟨rfl, hB9⟩
  have HB9 := Lib.hid (HB8.out.trans (hB9.mono HB8.out.size))
  have X9 := Lib.hid (X8.out.below hB9)
  have S9 := Lib.hid (S8.out.below hB9)
  have T9 := Lib.hid (T8.out.below hB9)
  have Y9 := Lib.hid (Y8.out.below hB9)
  have Z9 := Lib.hid (Z8.out.below hB9)
  clear hB9 p0 p1 HB8 X8 S8 T8 Y8 Z8 HK
  go_upto_region 6 with (fail)
  have ST : Hid (∀ W, Below w9.heap.size w9 W → (W.cell? ⟨w.heap.size, 0, none⟩ = some (.int .i64 k) ∧ W.cell? ⟨w.heap.size, 1, none⟩ = some (.int .i64 s)) ∧ (W.cell? ⟨D1, 0, none⟩ = some (.int .i64 0) ∧ W.cell? ⟨D1, 1, none⟩ = some (.int .i64 0)) ∧
      (W.cell? ⟨D2, 0, none⟩ = some (.int .i64 0) ∧ W.cell? ⟨D2, 1, none⟩ = some (.int .i64 0)) ∧ Bs W A2 n2 ([] : List UInt8) ∧ Bs W A4 n4 ([] : List UInt8) ∧ Below w.heap.size w W) :=
    fun W hW => ⟨⟨(X9.out.below hW).two.1, (X9.out.below hW).two.2.1⟩, ⟨(Y9.out.below hW).two.1, (Y9.out.below hW).two.2.1⟩, ⟨(Z9.out.below hW).two.1, (Z9.out.below hW).two.2.1⟩, S9.out.below hW, T9.out.below hW, HB9.out.trans (hW.mono HB9.out.size)⟩
  clear HB9 X9 S9 T9 Y9 Z9
  refine wp_region_held_drew (S := fun W => W.cell? ⟨w.heap.size, 0, none⟩ = some (.int .i64 k) ∧ W.cell? ⟨w.heap.size, 1, none⟩ = some (.int .i64 s)) (by kernel_rfl) ?_ (fun hHeld => ?_)
  · (try dsimp only); exact (ST.out _ (Below.drew (Below.refl _ _))).1
  refine wpAnyH_ready (rs := [0]) (by kernel_rfl) (by simp) ?_
  refine AllReadyH.cons rfl (fun K hK => ?_) AllReadyH.nil
  go_simp
  refine (HKn.out _).mono ?_
  rintro e u1 ⟨rfl, hy1⟩
  have z1 := (Below.drew (Below.refl w9.heap.size w9)).trans (hy1.mono (Below.drew (Below.refl w9.heap.size w9)).size)
  clear hy1
  go_wp2_with fail
  refine hK.out _ _ ?_ (fun hHeld => ?_)
  · (try dsimp only); exact (ST.out _ z1).1
  clear hK K
  try simp only [Act.put, List.setIfInBounds_toArray, List.set_cons_zero, List.set_cons_succ, List.getElem_toArray, List.getElem_cons_succ, List.getElem_cons_zero]
  refine wpAnyH_take (i := 1) (v := ?_) rfl (by kernel_rfl) (by kernel_rfl) (by kernel_rfl) (fun _ _ _ h => h) (Or.inl ⟨by kernel_rfl, ?_⟩) (by assumption) ?_
  rotate_left 1
  · (intro w hSw; (try dsimp only at hSw); go_simp) <;> (try with_reducible rfl)
  try simp only [Act.put, List.setIfInBounds_toArray, List.set_cons_zero, List.set_cons_succ, List.getElem_toArray, List.getElem_cons_succ, List.getElem_cons_zero]
  refine wpAnyH_take (i := 2) (v := ?_) rfl (by kernel_rfl) (by kernel_rfl) (by kernel_rfl) (fun _ _ _ h => h) (Or.inl ⟨by kernel_rfl, ?_⟩) (by assumption) ?_
  rotate_left 1
  · (intro w hSw; (try dsimp only at hSw); go_simp) <;> (try with_reducible rfl)
  try simp only [Act.put, List.setIfInBounds_toArray, List.set_cons_zero, List.set_cons_succ, List.getElem_toArray, List.getElem_cons_succ, List.getElem_cons_zero]
  refine wpAnyH_take (i := 3) (v := ?_) rfl (by kernel_rfl) (by kernel_rfl) (by kernel_rfl) (fun _ _ _ h => h) (Or.inl ⟨by kernel_rfl, ?_⟩) (by assumption) ?_
  rotate_left 1
  · (intro w hSw; (try dsimp only at hSw); go_simp) <;> (try with_reducible rfl)
  try simp only [Act.put, List.setIfInBounds_toArray, List.set_cons_zero, List.set_cons_succ, List.getElem_toArray, List.getElem_cons_succ, List.getElem_cons_zero]
  refine wpAnyH_take (i := 6) (v := ?_) rfl (by kernel_rfl) (by kernel_rfl) (by kernel_rfl) (fun _ _ _ h => h) (Or.inl ⟨by kernel_rfl, ?_⟩) (by assumption) ?_
  rotate_left 1
  · (intro w hSw; (try dsimp only at hSw); go_simp) <;> (try with_reducible rfl)
  try simp only [Act.put, List.setIfInBounds_toArray, List.set_cons_zero, List.set_cons_succ, List.getElem_toArray, List.getElem_cons_succ, List.getElem_cons_zero]
  refine wpAnyH_ready (rs := [4]) (by kernel_rfl) (by simp) ?_
  refine AllReadyH.cons rfl (fun K hK => ?_) AllReadyH.nil
  go_simp
  refine (HTo.out _).mono ?_
  rintro e u2 ⟨rfl, hy2⟩
  have z2 := z1.trans (hy2.mono z1.size)
  clear hy2
  go_wp2_with fail
  refine hK.out _ _ ?_ (fun hHeld => ?_)
  · (try dsimp only); exact (ST.out _ z2).1
  clear hK K
  try simp only [Act.put, List.setIfInBounds_toArray, List.set_cons_zero, List.set_cons_succ, List.getElem_toArray, List.getElem_cons_succ, List.getElem_cons_zero]
  refine wpAnyH_ready (rs := [5]) (by kernel_rfl) (by simp) ?_
  refine AllReadyH.cons rfl (fun K hK => ?_) AllReadyH.nil
  go_simp
  refine (HPR.out _).mono ?_
  rintro e u3 ⟨rfl, hy3⟩
  have z3 := z2.trans (hy3.mono z2.size)
  clear hy3
  go_wp2_with fail
  refine hK.out _ _ ?_ (fun hHeld => ?_)
  · (try dsimp only); exact (ST.out _ z3).1
  clear hK K
  try simp only [Act.put, List.setIfInBounds_toArray, List.set_cons_zero, List.set_cons_succ, List.getElem_toArray, List.getElem_cons_succ, List.getElem_cons_zero]
  refine wpAnyH_ready (rs := [7]) (by kernel_rfl) (by simp) ?_
  refine AllReadyH.cons rfl (fun K hK => ?_) AllReadyH.nil
  go_simp
  refine (HRR.out _).mono ?_
  rintro e u4 ⟨rfl, hy4⟩
  have z4 := z3.trans (hy4.mono z3.size)
  clear hy4
  go_wp2_with fail
  refine hK.out _ _ ?_ (fun hHeld => ?_)
  · (try dsimp only); exact (ST.out _ z4).1
  clear hK K
  try simp only [Act.put, List.setIfInBounds_toArray, List.set_cons_zero, List.set_cons_succ, List.getElem_toArray, List.getElem_cons_succ, List.getElem_cons_zero]
  refine wpAnyH_take (i := 8) (v := ?_) rfl (by kernel_rfl) (by kernel_rfl) (by kernel_rfl) (fun _ _ _ h => h) (Or.inl ⟨by kernel_rfl, ?_⟩) (by assumption) ?_
  rotate_left 1
  · (intro w hSw; (try dsimp only at hSw); go_simp) <;> (try with_reducible rfl)
  try simp only [Act.put, List.setIfInBounds_toArray, List.set_cons_zero, List.set_cons_succ, List.getElem_toArray, List.getElem_cons_succ, List.getElem_cons_zero]
  refine wpAnyH_take (i := 9) (v := ?_) rfl (by kernel_rfl) (by kernel_rfl) (by kernel_rfl) (fun _ _ _ h => h) (Or.inl ⟨by kernel_rfl, ?_⟩) (by assumption) ?_
  rotate_left 1
  · (intro w hSw; (try dsimp only at hSw); go_simp) <;> (try with_reducible rfl)
  try simp only [Act.put, List.setIfInBounds_toArray, List.set_cons_zero, List.set_cons_succ, List.getElem_toArray, List.getElem_cons_succ, List.getElem_cons_zero]
  refine wpAnyH_take (i := 10) (v := ?_) rfl (by kernel_rfl) (by kernel_rfl) (by kernel_rfl) (fun _ _ _ h => h) (Or.inl ⟨by kernel_rfl, ?_⟩) (by assumption) ?_
  rotate_left 1
  · (intro w hSw; (try dsimp only at hSw); go_simp) <;> (try with_reducible rfl)
  try simp only [Act.put, List.setIfInBounds_toArray, List.set_cons_zero, List.set_cons_succ, List.getElem_toArray, List.getElem_cons_succ, List.getElem_cons_zero]
  refine wpAnyH_take (i := 11) (v := ?_) rfl (by kernel_rfl) (by kernel_rfl) (by kernel_rfl) (fun _ _ _ h => h) (Or.inl ⟨by kernel_rfl, ?_⟩) (by assumption) ?_
  rotate_left 1
  · (intro w hSw; (try dsimp only at hSw); go_simp) <;> (try with_reducible rfl)
  try simp only [Act.put, List.setIfInBounds_toArray, List.set_cons_zero, List.set_cons_succ, List.getElem_toArray, List.getElem_cons_succ, List.getElem_cons_zero]
  refine wpAnyH_take (i := 12) (v := ?_) rfl (by kernel_rfl) (by kernel_rfl) (by kernel_rfl) (fun _ _ _ h => h) (Or.inl ⟨by kernel_rfl, ?_⟩) (by assumption) ?_
  rotate_left 1
  · (intro w hSw; (try dsimp only at hSw); go_simp) <;> (try with_reducible rfl)
  try simp only [Act.put, List.setIfInBounds_toArray, List.set_cons_zero, List.set_cons_succ, List.getElem_toArray, List.getElem_cons_succ, List.getElem_cons_zero]
  refine wpAnyH_take (i := 14) (v := ?_) rfl (by kernel_rfl) (by kernel_rfl) (by kernel_rfl) (fun _ _ _ h => h) (Or.inl ⟨by kernel_rfl, ?_⟩) (by assumption) ?_
  rotate_left 1
  · (intro w hSw; (try dsimp only at hSw); go_simp) <;> (try with_reducible rfl)
  try simp only [Act.put, List.setIfInBounds_toArray, List.set_cons_zero, List.set_cons_succ, List.getElem_toArray, List.getElem_cons_succ, List.getElem_cons_zero]
  refine wpAnyH_ready (rs := [13]) (by kernel_rfl) (by simp) ?_
  refine AllReadyH.cons rfl (fun K hK => ?_) AllReadyH.nil
  go_simp
  refine (HK2.out _).mono ?_
  rintro e u5 ⟨rfl, hy5⟩
  have z5 := z4.trans (hy5.mono z4.size)
  clear hy5
  go_wp2_with fail
  refine hK.out _ _ ?_ (fun hHeld => ?_)
  · (try dsimp only); exact (ST.out _ z5).1
  clear hK K
  try simp only [Act.put, List.setIfInBounds_toArray, List.set_cons_zero, List.set_cons_succ, List.getElem_toArray, List.getElem_cons_succ, List.getElem_cons_zero]
  refine wpAnyH_take (i := 15) (v := ?_) rfl (by kernel_rfl) (by kernel_rfl) (by kernel_rfl) (fun _ _ _ h => h) (Or.inl ⟨by kernel_rfl, ?_⟩) (by assumption) ?_
  rotate_left 1
  · (intro w hSw; (try dsimp only at hSw); go_simp) <;> (try with_reducible rfl)
  try simp only [Act.put, List.setIfInBounds_toArray, List.set_cons_zero, List.set_cons_succ, List.getElem_toArray, List.getElem_cons_succ, List.getElem_cons_zero]
  refine wpAnyH_take (i := 16) (v := ?_) rfl (by kernel_rfl) (by kernel_rfl) (by kernel_rfl) (fun _ _ _ h => h) (Or.inl ⟨by kernel_rfl, ?_⟩) (by assumption) ?_
  rotate_left 1
  · (intro w hSw; (try dsimp only at hSw); go_simp) <;> (try with_reducible rfl)
  try simp only [Act.put, List.setIfInBounds_toArray, List.set_cons_zero, List.set_cons_succ, List.getElem_toArray, List.getElem_cons_succ, List.getElem_cons_zero]
  refine wpAnyH_done (by kernel_rfl) ?_ _
  obtain ⟨⟨p0, p1⟩, ⟨q0, q1⟩, ⟨r0, r1⟩, hs2, hs4, hBx⟩ := ST.out _ z5
  have NQ := fun W => eqCT W 0 0
  have NR := fun W => eqCT W 0 0
  have HBx := Lib.hid hBx
  have HS2 := Lib.hid hs2
  have HS4 := Lib.hid hs4
  have PX := Lib.hid (fun W (hW : Below u5.heap.size u5 W) => (ST.out W (z5.trans (hW.mono z5.size))))
  clear z1 z2 z3 z4 z5 hs2 hs4 hBx HK2 HTo HPR HKn ST
  go_upto_region 10 with (fail)
  go_wp2_with fail
  refine (HRR.out _).mono ?_
  rintro e w10 ⟨rfl, hB10⟩
  obtain ⟨⟨p0', p1'⟩, _, _, hs2, hs4, hBy⟩ := PX.out _ hB10
  have HS2' := Lib.hid hs2
  have HS4' := Lib.hid hs4
  have HBy := Lib.hid hBy
  clear p0 p1 q0 q1 r0 r1 hs2 hs4 hBy PX NQ NR HS2 HS4 HBx
  have l2 := HS2'.out.len
  have l4 := HS4'.out.len
  simp only [List.length_nil] at l2 l4
  subst l2 l4
  go_wp2
  go_ret
  exact ⟨rfl, HBy.out⟩

set_option maxHeartbeats 12800000 in
theorem lawWritesB (k s : Int) (w : World) (hs : I64 s) (h : ¬ rightT k s) (hK : kindS s ≠ 0) :
    Calls Try.prog 3 #[tmv k s] w fun e w' => e = .returned (.bool true) ∧ Below w.heap.size w w' := by
  have HC0 : ∀ W, Calls Try.prog 7 #[tmv k s] W fun e w' => ∃ A n c, e = .returned (.tuple #[.slice A n c, .int .i64 1]) ∧ Bs w' A n ([] : List UInt8) ∧ n ≤ c ∧ Below W.heap.size W w' := by
    intro W
    refine (ckContentsNo k s W hs h).mono ?_
    rintro e w' ⟨rfl, hB⟩
    exact ⟨_, _, _, rfl, Bs.nil _ _, Nat.le_refl _, hB⟩
  have HW0 : ∀ W, Calls Try.prog 9 #[tmv k s] W fun e w' => ∃ A n c, e = .returned (.tuple #[.slice A n c, .int .i64 1]) ∧ Bs w' A n ([] : List UInt8) ∧ n ≤ c ∧ Below W.heap.size W w' := by
    intro W
    refine (ckWriteNo k s W hs h).mono ?_
    rintro e w' ⟨rfl, hB⟩
    exact ⟨_, _, _, rfl, Bs.nil _ _, Nat.le_refl _, hB⟩
  have hrt : decide (rightT k s) = false := by simpa using h
  have HO0 := fun W => ckOf s W hs
  have HG0 := fun W => ckGeneral s W hs
  rw [if_pos hK] at HO0 HG0
  have HK0 := fun W => rfKind s W hs
  have HK20 := fun W => ckKind s W hs
  generalize kindS s = K at *
  have k0 : (K == 0) = false := by simpa using hK
  have k0' : (K != 0) = true := by simpa using hK
  clear hK
  unfold tmv
  have HTo0 := lwaTo k s
  have HRR0 := fun W => rfRight k s W hs
  have HPR0 := fun W => ckRight k s W hs
  rw [hrt] at HRR0 HPR0
  unfold tmv at HTo0 HRR0 HPR0 HC0 HW0 HO0 HG0
  have HTo := Lib.hid HTo0
  have HRR := Lib.hid HRR0
  have HPR := Lib.hid HPR0
  have HC := Lib.hid HC0
  have HW := Lib.hid HW0
  have HO := Lib.hid HO0
  have HG := Lib.hid HG0
  have HK := Lib.hid HK0
  have HK2 := Lib.hid HK20
  have HKn := Lib.hid known10
  have X0 := Lib.hid (Blk.two_new w (.int .i64 k) (.int .i64 s) 23)
  have HB0 := Lib.hid (below_alloc1 w (.cells #[.int .i64 k, .int .i64 s] 23))
  clear HTo0 HRR0 HPR0 HC0 HW0 HO0 HG0 HK0 HK20 hs
  obtain ⟨p0, p1, _, _⟩ := X0.out.two
  go_enter Try.func3, Try.ntmps3
  go_upto_region 1 with (fail)
  generalize w.alloc (.cells #[.int .i64 k, .int .i64 s] 23) = W0 at *
  go_wp2_with fail
  refine (HTo.out _).mono ?_
  rintro e w1 ⟨rfl, hB1⟩
  have HB1 := Lib.hid (HB0.out.trans (hB1.mono HB0.out.size))
  have X1 := Lib.hid (X0.out.below hB1)
  clear hB1 p0 p1 HB0 X0
  obtain ⟨p0, p1, _, _⟩ := X1.out.two
  go_wp2_with fail
  refine (HC.out _).mono ?_
  rintro e w2 ⟨A2, n2, c2, rfl, s2, k2, hB2⟩
  have HB2 := Lib.hid (HB1.out.trans (hB2.mono HB1.out.size))
  have X2 := Lib.hid (X1.out.below hB2)
  have S2 := Lib.hid s2
  clear hB2 p0 p1 HB1 X1 s2 HC
  obtain ⟨p0, p1, _, _⟩ := X2.out.two
  go_wp2_with fail
  refine (HTo.out _).mono ?_
  rintro e w3 ⟨rfl, hB3⟩
  have HB3 := Lib.hid (HB2.out.trans (hB3.mono HB2.out.size))
  have X3 := Lib.hid (X2.out.below hB3)
  have S3 := Lib.hid (S2.out.below hB3)
  clear hB3 p0 p1 HB2 X2 S2
  obtain ⟨p0, p1, _, _⟩ := X3.out.two
  go_wp2_with fail
  refine (HW.out _).mono ?_
  rintro e w4 ⟨A4, n4, c4, rfl, s4, k4, hB4⟩
  have HB4 := Lib.hid (HB3.out.trans (hB4.mono HB3.out.size))
  have X4 := Lib.hid (X3.out.below hB4)
  have S4 := Lib.hid (S3.out.below hB4)
  have T4 := Lib.hid s4
  clear hB4 p0 p1 HB3 X3 S3 s4 HW
  obtain ⟨p0, p1, _, _⟩ := X4.out.two
  go_wp2_with fail
  refine (HO.out _).mono ?_
  rintro e w5 ⟨rfl, hB5⟩
  have hB6 := hB5.alloc hB5.size (.cells #[.int .i64 K, .int .i64 s] 28)
  have HB6 := Lib.hid (HB4.out.trans (hB6.mono HB4.out.size))
  have X6 := Lib.hid (X4.out.below hB6)
  have S6 := Lib.hid (S4.out.below hB6)
  have T6 := Lib.hid (T4.out.below hB6)
  have Y6 := Lib.hid (Blk.two_new w5 (.int .i64 K) (.int .i64 s) 28)
  clear hB5 hB6 p0 p1 HB4 X4 S4 T4 HO
  go_upto_region 4 with (fail)
  generalize w5.alloc (.cells #[.int .i64 K, .int .i64 s] 28) = W6 at *
  generalize w5.heap.size = D1 at *
  obtain ⟨p0, p1, _, _⟩ := X6.out.two
  go_wp2_with fail
  refine (HG.out _).mono ?_
  rintro e w7 ⟨rfl, hB7⟩
  have hB8 := hB7.alloc hB7.size (.cells #[.int .i64 24, .int .i64 s] 28)
  have HB8 := Lib.hid (HB6.out.trans (hB8.mono HB6.out.size))
  have X8 := Lib.hid (X6.out.below hB8)
  have S8 := Lib.hid (S6.out.below hB8)
  have T8 := Lib.hid (T6.out.below hB8)
  have Y8 := Lib.hid (Y6.out.below hB8)
  have Z8 := Lib.hid (Blk.two_new w7 (.int .i64 24) (.int .i64 s) 28)
  clear hB7 hB8 p0 p1 HB6 X6 S6 T6 Y6 HG
  go_upto_region 5 with (fail)
  generalize w7.alloc (.cells #[.int .i64 24, .int .i64 s] 28) = W8 at *
  generalize w7.heap.size = D2 at *
  obtain ⟨p0, p1, _, _⟩ := X8.out.two
  go_wp2_with fail
  refine (HK.out _).mono ?_
  rintro e w9 ⟨rfl, hB9⟩
  have HB9 := Lib.hid (HB8.out.trans (hB9.mono HB8.out.size))
  have X9 := Lib.hid (X8.out.below hB9)
  have S9 := Lib.hid (S8.out.below hB9)
  have T9 := Lib.hid (T8.out.below hB9)
  have Y9 := Lib.hid (Y8.out.below hB9)
  have Z9 := Lib.hid (Z8.out.below hB9)
  clear hB9 p0 p1 HB8 X8 S8 T8 Y8 Z8 HK
  go_upto_region 6 with (fail)
  have ST : Hid (∀ W, Below w9.heap.size w9 W → (W.cell? ⟨w.heap.size, 0, none⟩ = some (.int .i64 k) ∧ W.cell? ⟨w.heap.size, 1, none⟩ = some (.int .i64 s)) ∧ (W.cell? ⟨D1, 0, none⟩ = some (.int .i64 K) ∧ W.cell? ⟨D1, 1, none⟩ = some (.int .i64 s)) ∧
      (W.cell? ⟨D2, 0, none⟩ = some (.int .i64 24) ∧ W.cell? ⟨D2, 1, none⟩ = some (.int .i64 s)) ∧ Bs W A2 n2 ([] : List UInt8) ∧ Bs W A4 n4 ([] : List UInt8) ∧ Below w.heap.size w W) :=
    fun W hW => ⟨⟨(X9.out.below hW).two.1, (X9.out.below hW).two.2.1⟩, ⟨(Y9.out.below hW).two.1, (Y9.out.below hW).two.2.1⟩, ⟨(Z9.out.below hW).two.1, (Z9.out.below hW).two.2.1⟩, S9.out.below hW, T9.out.below hW, HB9.out.trans (hW.mono HB9.out.size)⟩
  clear HB9 X9 S9 T9 Y9 Z9
  refine wp_region_held_drew (S := fun W => W.cell? ⟨w.heap.size, 0, none⟩ = some (.int .i64 k) ∧ W.cell? ⟨w.heap.size, 1, none⟩ = some (.int .i64 s)) (by kernel_rfl) ?_ (fun hHeld => ?_)
  · (try dsimp only); exact (ST.out _ (Below.drew (Below.refl _ _))).1
  refine wpAnyH_ready (rs := [0]) (by kernel_rfl) (by simp) ?_
  refine AllReadyH.cons rfl (fun K hK => ?_) AllReadyH.nil
  go_simp
  refine (HKn.out _).mono ?_
  rintro e u1 ⟨rfl, hy1⟩
  have z1 := (Below.drew (Below.refl w9.heap.size w9)).trans (hy1.mono (Below.drew (Below.refl w9.heap.size w9)).size)
  clear hy1
  go_wp2_with fail
  refine hK.out _ _ ?_ (fun hHeld => ?_)
  · (try dsimp only); exact (ST.out _ z1).1
  clear hK K
  try simp only [Act.put, List.setIfInBounds_toArray, List.set_cons_zero, List.set_cons_succ, List.getElem_toArray, List.getElem_cons_succ, List.getElem_cons_zero]
  refine wpAnyH_take (i := 1) (v := ?_) rfl (by kernel_rfl) (by kernel_rfl) (by kernel_rfl) (fun _ _ _ h => h) (Or.inl ⟨by kernel_rfl, ?_⟩) (by assumption) ?_
  rotate_left 1
  · (intro w hSw; (try dsimp only at hSw); go_simp) <;> (try with_reducible rfl)
  try simp only [Act.put, List.setIfInBounds_toArray, List.set_cons_zero, List.set_cons_succ, List.getElem_toArray, List.getElem_cons_succ, List.getElem_cons_zero]
  refine wpAnyH_take (i := 2) (v := ?_) rfl (by kernel_rfl) (by kernel_rfl) (by kernel_rfl) (fun _ _ _ h => h) (Or.inl ⟨by kernel_rfl, ?_⟩) (by assumption) ?_
  rotate_left 1
  · (intro w hSw; (try dsimp only at hSw); go_simp) <;> (try with_reducible rfl)
  try simp only [Act.put, List.setIfInBounds_toArray, List.set_cons_zero, List.set_cons_succ, List.getElem_toArray, List.getElem_cons_succ, List.getElem_cons_zero]
  refine wpAnyH_take (i := 3) (v := ?_) rfl (by kernel_rfl) (by kernel_rfl) (by kernel_rfl) (fun _ _ _ h => h) (Or.inl ⟨by kernel_rfl, ?_⟩) (by assumption) ?_
  rotate_left 1
  · (intro w hSw; (try dsimp only at hSw); go_simp) <;> (try with_reducible rfl)
  try simp only [Act.put, List.setIfInBounds_toArray, List.set_cons_zero, List.set_cons_succ, List.getElem_toArray, List.getElem_cons_succ, List.getElem_cons_zero]
  refine wpAnyH_take (i := 6) (v := ?_) rfl (by kernel_rfl) (by kernel_rfl) (by kernel_rfl) (fun _ _ _ h => h) (Or.inl ⟨by kernel_rfl, ?_⟩) (by assumption) ?_
  rotate_left 1
  · (intro w hSw; (try dsimp only at hSw); go_simp) <;> (try with_reducible rfl)
  try simp only [Act.put, List.setIfInBounds_toArray, List.set_cons_zero, List.set_cons_succ, List.getElem_toArray, List.getElem_cons_succ, List.getElem_cons_zero]
  refine wpAnyH_ready (rs := [4]) (by kernel_rfl) (by simp) ?_
  refine AllReadyH.cons rfl (fun K hK => ?_) AllReadyH.nil
  go_simp
  refine (HTo.out _).mono ?_
  rintro e u2 ⟨rfl, hy2⟩
  have z2 := z1.trans (hy2.mono z1.size)
  clear hy2
  go_wp2_with fail
  refine hK.out _ _ ?_ (fun hHeld => ?_)
  · (try dsimp only); exact (ST.out _ z2).1
  clear hK K
  try simp only [Act.put, List.setIfInBounds_toArray, List.set_cons_zero, List.set_cons_succ, List.getElem_toArray, List.getElem_cons_succ, List.getElem_cons_zero]
  refine wpAnyH_ready (rs := [5]) (by kernel_rfl) (by simp) ?_
  refine AllReadyH.cons rfl (fun K hK => ?_) AllReadyH.nil
  go_simp
  refine (HPR.out _).mono ?_
  rintro e u3 ⟨rfl, hy3⟩
  have z3 := z2.trans (hy3.mono z2.size)
  clear hy3
  go_wp2_with fail
  refine hK.out _ _ ?_ (fun hHeld => ?_)
  · (try dsimp only); exact (ST.out _ z3).1
  clear hK K
  try simp only [Act.put, List.setIfInBounds_toArray, List.set_cons_zero, List.set_cons_succ, List.getElem_toArray, List.getElem_cons_succ, List.getElem_cons_zero]
  refine wpAnyH_ready (rs := [7]) (by kernel_rfl) (by simp) ?_
  refine AllReadyH.cons rfl (fun K hK => ?_) AllReadyH.nil
  go_simp
  refine (HRR.out _).mono ?_
  rintro e u4 ⟨rfl, hy4⟩
  have z4 := z3.trans (hy4.mono z3.size)
  clear hy4
  go_wp2_with fail
  refine hK.out _ _ ?_ (fun hHeld => ?_)
  · (try dsimp only); exact (ST.out _ z4).1
  clear hK K
  try simp only [Act.put, List.setIfInBounds_toArray, List.set_cons_zero, List.set_cons_succ, List.getElem_toArray, List.getElem_cons_succ, List.getElem_cons_zero]
  refine wpAnyH_take (i := 8) (v := ?_) rfl (by kernel_rfl) (by kernel_rfl) (by kernel_rfl) (fun _ _ _ h => h) (Or.inl ⟨by kernel_rfl, ?_⟩) (by assumption) ?_
  rotate_left 1
  · (intro w hSw; (try dsimp only at hSw); go_simp) <;> (try with_reducible rfl)
  try simp only [Act.put, List.setIfInBounds_toArray, List.set_cons_zero, List.set_cons_succ, List.getElem_toArray, List.getElem_cons_succ, List.getElem_cons_zero]
  refine wpAnyH_take (i := 9) (v := ?_) rfl (by kernel_rfl) (by kernel_rfl) (by kernel_rfl) (fun _ _ _ h => h) (Or.inl ⟨by kernel_rfl, ?_⟩) (by assumption) ?_
  rotate_left 1
  · (intro w hSw; (try dsimp only at hSw); go_simp) <;> (try with_reducible rfl)
  try simp only [Act.put, List.setIfInBounds_toArray, List.set_cons_zero, List.set_cons_succ, List.getElem_toArray, List.getElem_cons_succ, List.getElem_cons_zero]
  refine wpAnyH_take (i := 10) (v := ?_) rfl (by kernel_rfl) (by kernel_rfl) (by kernel_rfl) (fun _ _ _ h => h) (Or.inl ⟨by kernel_rfl, ?_⟩) (by assumption) ?_
  rotate_left 1
  · (intro w hSw; (try dsimp only at hSw); go_simp) <;> (try with_reducible rfl)
  try simp only [Act.put, List.setIfInBounds_toArray, List.set_cons_zero, List.set_cons_succ, List.getElem_toArray, List.getElem_cons_succ, List.getElem_cons_zero]
  refine wpAnyH_take (i := 11) (v := ?_) rfl (by kernel_rfl) (by kernel_rfl) (by kernel_rfl) (fun _ _ _ h => h) (Or.inl ⟨by kernel_rfl, ?_⟩) (by assumption) ?_
  rotate_left 1
  · (intro w hSw; (try dsimp only at hSw); go_simp) <;> (try with_reducible rfl)
  try simp only [Act.put, List.setIfInBounds_toArray, List.set_cons_zero, List.set_cons_succ, List.getElem_toArray, List.getElem_cons_succ, List.getElem_cons_zero]
  refine wpAnyH_take (i := 12) (v := ?_) rfl (by kernel_rfl) (by kernel_rfl) (by kernel_rfl) (fun _ _ _ h => h) (Or.inl ⟨by kernel_rfl, ?_⟩) (by assumption) ?_
  rotate_left 1
  · (intro w hSw; (try dsimp only at hSw); go_simp) <;> (try with_reducible rfl)
  try simp only [Act.put, List.setIfInBounds_toArray, List.set_cons_zero, List.set_cons_succ, List.getElem_toArray, List.getElem_cons_succ, List.getElem_cons_zero]
  refine wpAnyH_take (i := 14) (v := ?_) rfl (by kernel_rfl) (by kernel_rfl) (by kernel_rfl) (fun _ _ _ h => h) (Or.inl ⟨by kernel_rfl, ?_⟩) (by assumption) ?_
  rotate_left 1
  · (intro w hSw; (try dsimp only at hSw); go_simp) <;> (try with_reducible rfl)
  try simp only [Act.put, List.setIfInBounds_toArray, List.set_cons_zero, List.set_cons_succ, List.getElem_toArray, List.getElem_cons_succ, List.getElem_cons_zero]
  refine wpAnyH_ready (rs := [13]) (by kernel_rfl) (by simp) ?_
  refine AllReadyH.cons rfl (fun K hK => ?_) AllReadyH.nil
  go_simp
  refine (HK2.out _).mono ?_
  rintro e u5 ⟨rfl, hy5⟩
  have z5 := z4.trans (hy5.mono z4.size)
  clear hy5
  go_wp2_with fail
  refine hK.out _ _ ?_ (fun hHeld => ?_)
  · (try dsimp only); exact (ST.out _ z5).1
  clear hK K
  try simp only [Act.put, List.setIfInBounds_toArray, List.set_cons_zero, List.set_cons_succ, List.getElem_toArray, List.getElem_cons_succ, List.getElem_cons_zero]
  refine wpAnyH_take (i := 15) (v := ?_) rfl (by kernel_rfl) (by kernel_rfl) (by kernel_rfl) (fun _ _ _ h => h) (Or.inl ⟨by kernel_rfl, ?_⟩) (by assumption) ?_
  rotate_left 1
  · (intro w hSw; (try dsimp only at hSw); go_simp) <;> (try with_reducible rfl)
  try simp only [Act.put, List.setIfInBounds_toArray, List.set_cons_zero, List.set_cons_succ, List.getElem_toArray, List.getElem_cons_succ, List.getElem_cons_zero]
  refine wpAnyH_take (i := 16) (v := ?_) rfl (by kernel_rfl) (by kernel_rfl) (by kernel_rfl) (fun _ _ _ h => h) (Or.inl ⟨by kernel_rfl, ?_⟩) (by assumption) ?_
  rotate_left 1
  · (intro w hSw; (try dsimp only at hSw); go_simp) <;> (try with_reducible rfl)
  try simp only [Act.put, List.setIfInBounds_toArray, List.set_cons_zero, List.set_cons_succ, List.getElem_toArray, List.getElem_cons_succ, List.getElem_cons_zero]
  refine wpAnyH_done (by kernel_rfl) ?_ _
  obtain ⟨⟨p0, p1⟩, ⟨q0, q1⟩, ⟨r0, r1⟩, hs2, hs4, hBx⟩ := ST.out _ z5
  have NQ := fun W => eqCT W K s
  have NR := fun W => eqCT W 24 s
  have HBx := Lib.hid hBx
  have HS2 := Lib.hid hs2
  have HS4 := Lib.hid hs4
  have PX := Lib.hid (fun W (hW : Below u5.heap.size u5 W) => (ST.out W (z5.trans (hW.mono z5.size))))
  clear z1 z2 z3 z4 z5 hs2 hs4 hBx HK2 HTo HPR HKn ST
  go_upto_region 10 with (fail)
  go_wp2_with fail
  refine (HRR.out _).mono ?_
  rintro e w10 ⟨rfl, hB10⟩
  obtain ⟨⟨p0', p1'⟩, _, _, hs2, hs4, hBy⟩ := PX.out _ hB10
  have HS2' := Lib.hid hs2
  have HS4' := Lib.hid hs4
  have HBy := Lib.hid hBy
  clear p0 p1 q0 q1 r0 r1 hs2 hs4 hBy PX NQ NR HS2 HS4 HBx
  have l2 := HS2'.out.len
  have l4 := HS4'.out.len
  simp only [List.length_nil] at l2 l4
  subst l2 l4
  go_wp2
  go_ret
  exact ⟨rfl, HBy.out⟩

set_option maxHeartbeats 12800000 in
theorem lawWritesC (k s : Int) (w : World) (hs : I64 s) (h : rightT k s) :
    Calls Try.prog 3 #[tmv k s] w fun e w' => e = .returned (.bool true) ∧ Below w.heap.size w w' := by
  obtain ⟨y, m, d, a, b, c, hr, he⟩ := sec_of s h.range.1 h.range.2
  have hK := h.1
  have hl : (contC k y m d a b c).length ≤ 15 := by rw [contC_len]; split <;> omega
  have HC0 : ∀ W, Calls Try.prog 7 #[tmv k s] W fun e w' => ∃ A n c', e = .returned (.tuple #[.slice A n c', .int .i64 0]) ∧ Bs w' A n (contC k y m d a b c) ∧ n ≤ c' ∧ Below W.heap.size W w' := by
    intro W
    refine (ckContents k s y m d a b c W hs h hr he).mono ?_
    rintro e w' ⟨A, n, c', rfl, ho, hB⟩
    exact ⟨_, _, _, rfl, ho.bs.1, ho.bs.2, hB⟩
  have HW0 : ∀ W, Calls Try.prog 9 #[tmv k s] W fun e w' => ∃ A n c', e = .returned (.tuple #[.slice A n c', .int .i64 0]) ∧ Bs w' A n (wrapB (tgU k) (contC k y m d a b c)) ∧ n ≤ c' ∧ Below W.heap.size W w' := by
    intro W
    refine (ckWrite k s y m d a b c W hs h hr he).mono ?_
    rintro e w' ⟨A, n, c', rfl, ho, hB⟩
    exact ⟨_, _, _, rfl, ho.bs.1, ho.bs.2, hB⟩
  have hrt : decide (rightT k s) = true := by simpa using h
  have HO0 := fun W => ckOf s W hs
  have HG0 := fun W => ckGeneral s W hs
  rw [if_pos hK] at HO0 HG0
  have HK0 := fun W => rfKind s W hs
  have HK20 := fun W => ckKind s W hs
  have HT0 := fun W => rfContents k s y m d a b c W h hr he
  unfold tmv strV at HT0
  have HT := Lib.hid HT0
  have HRO0 := fun W => refOf k W
  have htr := (Tg.rightB_iff _).1 (tgU_right h.kind)
  have HRW0 := fun A n c' W (hW : Bs W A n (contC k y m d a b c)) hn => refWrap (tgU k) A n c' _ W htr hW hn
  have hwl : (wrapB (tgU k) (contC k y m d a b c)).length ≤ 24 := by
    have h1 := tagB_len (tgU k)
    have h2 := lenB_len (contC k y m d a b c).length
    unfold wrapB; simp only [List.length_append]; omega
  generalize wrapB (tgU k) (contC k y m d a b c) = L at *
  generalize contC k y m d a b c = C at *
  have HLC := Lib.hid hl
  have HLL := Lib.hid hwl
  unfold tgU Tg.v at HRW0
  unfold Tg.v at HRO0
  have HRO := Lib.hid HRO0
  have HRW := Lib.hid HRW0
  have HSame := Lib.hid (fun A n c B m d (x y : List UInt8) W hx hy hn hm => refSame A B n m c d x y W hx hy hn hm)
  clear HT0 HRO0 HRW0 htr h he hr
  generalize kindS s = K at *
  have k0 : (K == 0) = false := by simpa using hK
  have k0' : (K != 0) = true := by simpa using hK
  clear hK
  unfold tmv
  have HTo0 := lwaTo k s
  have HRR0 := fun W => rfRight k s W hs
  have HPR0 := fun W => ckRight k s W hs
  rw [hrt] at HRR0 HPR0
  unfold tmv at HTo0 HRR0 HPR0 HC0 HW0 HO0 HG0
  have HTo := Lib.hid HTo0
  have HRR := Lib.hid HRR0
  have HPR := Lib.hid HPR0
  have HC := Lib.hid HC0
  have HW := Lib.hid HW0
  have HO := Lib.hid HO0
  have HG := Lib.hid HG0
  have HK := Lib.hid HK0
  have HK2 := Lib.hid HK20
  have HKn := Lib.hid known10
  have X0 := Lib.hid (Blk.two_new w (.int .i64 k) (.int .i64 s) 23)
  have HB0 := Lib.hid (below_alloc1 w (.cells #[.int .i64 k, .int .i64 s] 23))
  clear HTo0 HRR0 HPR0 HC0 HW0 HO0 HG0 HK0 HK20 hs
  obtain ⟨p0, p1, _, _⟩ := X0.out.two
  go_enter Try.func3, Try.ntmps3
  go_upto_region 1 with (fail)
  generalize w.alloc (.cells #[.int .i64 k, .int .i64 s] 23) = W0 at *
  go_wp2_with fail
  refine (HTo.out _).mono ?_
  rintro e w1 ⟨rfl, hB1⟩
  have HB1 := Lib.hid (HB0.out.trans (hB1.mono HB0.out.size))
  have X1 := Lib.hid (X0.out.below hB1)
  clear hB1 p0 p1 HB0 X0
  obtain ⟨p0, p1, _, _⟩ := X1.out.two
  go_wp2_with fail
  refine (HC.out _).mono ?_
  rintro e w2 ⟨A2, n2, c2, rfl, s2, k2, hB2⟩
  have HB2 := Lib.hid (HB1.out.trans (hB2.mono HB1.out.size))
  have X2 := Lib.hid (X1.out.below hB2)
  have S2 := Lib.hid s2
  clear hB2 p0 p1 HB1 X1 s2 HC
  obtain ⟨p0, p1, _, _⟩ := X2.out.two
  go_wp2_with fail
  refine (HTo.out _).mono ?_
  rintro e w3 ⟨rfl, hB3⟩
  have HB3 := Lib.hid (HB2.out.trans (hB3.mono HB2.out.size))
  have X3 := Lib.hid (X2.out.below hB3)
  have S3 := Lib.hid (S2.out.below hB3)
  clear hB3 p0 p1 HB2 X2 S2
  obtain ⟨p0, p1, _, _⟩ := X3.out.two
  go_wp2_with fail
  refine (HW.out _).mono ?_
  rintro e w4 ⟨A4, n4, c4, rfl, s4, k4, hB4⟩
  have HB4 := Lib.hid (HB3.out.trans (hB4.mono HB3.out.size))
  have X4 := Lib.hid (X3.out.below hB4)
  have S4 := Lib.hid (S3.out.below hB4)
  have T4 := Lib.hid s4
  clear hB4 p0 p1 HB3 X3 S3 s4 HW
  obtain ⟨p0, p1, _, _⟩ := X4.out.two
  go_wp2_with fail
  refine (HO.out _).mono ?_
  rintro e w5 ⟨rfl, hB5⟩
  have hB6 := hB5.alloc hB5.size (.cells #[.int .i64 K, .int .i64 s] 28)
  have HB6 := Lib.hid (HB4.out.trans (hB6.mono HB4.out.size))
  have X6 := Lib.hid (X4.out.below hB6)
  have S6 := Lib.hid (S4.out.below hB6)
  have T6 := Lib.hid (T4.out.below hB6)
  have Y6 := Lib.hid (Blk.two_new w5 (.int .i64 K) (.int .i64 s) 28)
  clear hB5 hB6 p0 p1 HB4 X4 S4 T4 HO
  go_upto_region 4 with (fail)
  generalize w5.alloc (.cells #[.int .i64 K, .int .i64 s] 28) = W6 at *
  generalize w5.heap.size = D1 at *
  obtain ⟨p0, p1, _, _⟩ := X6.out.two
  go_wp2_with fail
  refine (HG.out _).mono ?_
  rintro e w7 ⟨rfl, hB7⟩
  have hB8 := hB7.alloc hB7.size (.cells #[.int .i64 24, .int .i64 s] 28)
  have HB8 := Lib.hid (HB6.out.trans (hB8.mono HB6.out.size))
  have X8 := Lib.hid (X6.out.below hB8)
  have S8 := Lib.hid (S6.out.below hB8)
  have T8 := Lib.hid (T6.out.below hB8)
  have Y8 := Lib.hid (Y6.out.below hB8)
  have Z8 := Lib.hid (Blk.two_new w7 (.int .i64 24) (.int .i64 s) 28)
  clear hB7 hB8 p0 p1 HB6 X6 S6 T6 Y6 HG
  go_upto_region 5 with (fail)
  generalize w7.alloc (.cells #[.int .i64 24, .int .i64 s] 28) = W8 at *
  generalize w7.heap.size = D2 at *
  obtain ⟨p0, p1, _, _⟩ := X8.out.two
  go_wp2_with fail
  refine (HK.out _).mono ?_
  rintro e w9 ⟨rfl, hB9⟩
  have HB9 := Lib.hid (HB8.out.trans (hB9.mono HB8.out.size))
  have X9 := Lib.hid (X8.out.below hB9)
  have S9 := Lib.hid (S8.out.below hB9)
  have T9 := Lib.hid (T8.out.below hB9)
  have Y9 := Lib.hid (Y8.out.below hB9)
  have Z9 := Lib.hid (Z8.out.below hB9)
  clear hB9 p0 p1 HB8 X8 S8 T8 Y8 Z8 HK
  go_upto_region 6 with (fail)
  have ST : Hid (∀ W, Below w9.heap.size w9 W → (W.cell? ⟨w.heap.size, 0, none⟩ = some (.int .i64 k) ∧ W.cell? ⟨w.heap.size, 1, none⟩ = some (.int .i64 s)) ∧ (W.cell? ⟨D1, 0, none⟩ = some (.int .i64 K) ∧ W.cell? ⟨D1, 1, none⟩ = some (.int .i64 s)) ∧
      (W.cell? ⟨D2, 0, none⟩ = some (.int .i64 24) ∧ W.cell? ⟨D2, 1, none⟩ = some (.int .i64 s)) ∧ Bs W A2 n2 C ∧ Bs W A4 n4 L ∧ Below w.heap.size w W) :=
    fun W hW => ⟨⟨(X9.out.below hW).two.1, (X9.out.below hW).two.2.1⟩, ⟨(Y9.out.below hW).two.1, (Y9.out.below hW).two.2.1⟩, ⟨(Z9.out.below hW).two.1, (Z9.out.below hW).two.2.1⟩, S9.out.below hW, T9.out.below hW, HB9.out.trans (hW.mono HB9.out.size)⟩
  clear HB9 X9 S9 T9 Y9 Z9
  refine wp_region_held_drew (S := fun W => W.cell? ⟨w.heap.size, 0, none⟩ = some (.int .i64 k) ∧ W.cell? ⟨w.heap.size, 1, none⟩ = some (.int .i64 s)) (by kernel_rfl) ?_ (fun hHeld => ?_)
  · (try dsimp only); exact (ST.out _ (Below.drew (Below.refl _ _))).1
  refine wpAnyH_ready (rs := [0]) (by kernel_rfl) (by simp) ?_
  refine AllReadyH.cons rfl (fun K hK => ?_) AllReadyH.nil
  go_simp
  refine (HKn.out _).mono ?_
  rintro e u1 ⟨rfl, hy1⟩
  have z1 := (Below.drew (Below.refl w9.heap.size w9)).trans (hy1.mono (Below.drew (Below.refl w9.heap.size w9)).size)
  clear hy1
  go_wp2_with fail
  refine hK.out _ _ ?_ (fun hHeld => ?_)
  · (try dsimp only); exact (ST.out _ z1).1
  clear hK K
  try simp only [Act.put, List.setIfInBounds_toArray, List.set_cons_zero, List.set_cons_succ, List.getElem_toArray, List.getElem_cons_succ, List.getElem_cons_zero]
  refine wpAnyH_take (i := 1) (v := ?_) rfl (by kernel_rfl) (by kernel_rfl) (by kernel_rfl) (fun _ _ _ h => h) (Or.inl ⟨by kernel_rfl, ?_⟩) (by assumption) ?_
  rotate_left 1
  · (intro w hSw; (try dsimp only at hSw); go_simp) <;> (try with_reducible rfl)
  try simp only [Act.put, List.setIfInBounds_toArray, List.set_cons_zero, List.set_cons_succ, List.getElem_toArray, List.getElem_cons_succ, List.getElem_cons_zero]
  refine wpAnyH_take (i := 2) (v := ?_) rfl (by kernel_rfl) (by kernel_rfl) (by kernel_rfl) (fun _ _ _ h => h) (Or.inl ⟨by kernel_rfl, ?_⟩) (by assumption) ?_
  rotate_left 1
  · (intro w hSw; (try dsimp only at hSw); go_simp) <;> (try with_reducible rfl)
  try simp only [Act.put, List.setIfInBounds_toArray, List.set_cons_zero, List.set_cons_succ, List.getElem_toArray, List.getElem_cons_succ, List.getElem_cons_zero]
  refine wpAnyH_take (i := 3) (v := ?_) rfl (by kernel_rfl) (by kernel_rfl) (by kernel_rfl) (fun _ _ _ h => h) (Or.inl ⟨by kernel_rfl, ?_⟩) (by assumption) ?_
  rotate_left 1
  · (intro w hSw; (try dsimp only at hSw); go_simp) <;> (try with_reducible rfl)
  try simp only [Act.put, List.setIfInBounds_toArray, List.set_cons_zero, List.set_cons_succ, List.getElem_toArray, List.getElem_cons_succ, List.getElem_cons_zero]
  refine wpAnyH_take (i := 6) (v := ?_) rfl (by kernel_rfl) (by kernel_rfl) (by kernel_rfl) (fun _ _ _ h => h) (Or.inl ⟨by kernel_rfl, ?_⟩) (by assumption) ?_
  rotate_left 1
  · (intro w hSw; (try dsimp only at hSw); go_simp) <;> (try with_reducible rfl)
  try simp only [Act.put, List.setIfInBounds_toArray, List.set_cons_zero, List.set_cons_succ, List.getElem_toArray, List.getElem_cons_succ, List.getElem_cons_zero]
  refine wpAnyH_ready (rs := [4]) (by kernel_rfl) (by simp) ?_
  refine AllReadyH.cons rfl (fun K hK => ?_) AllReadyH.nil
  go_simp
  refine (HTo.out _).mono ?_
  rintro e u2 ⟨rfl, hy2⟩
  have z2 := z1.trans (hy2.mono z1.size)
  clear hy2
  go_wp2_with fail
  refine hK.out _ _ ?_ (fun hHeld => ?_)
  · (try dsimp only); exact (ST.out _ z2).1
  clear hK K
  try simp only [Act.put, List.setIfInBounds_toArray, List.set_cons_zero, List.set_cons_succ, List.getElem_toArray, List.getElem_cons_succ, List.getElem_cons_zero]
  refine wpAnyH_ready (rs := [5]) (by kernel_rfl) (by simp) ?_
  refine AllReadyH.cons rfl (fun K hK => ?_) AllReadyH.nil
  go_simp
  refine (HPR.out _).mono ?_
  rintro e u3 ⟨rfl, hy3⟩
  have z3 := z2.trans (hy3.mono z2.size)
  clear hy3
  go_wp2_with fail
  refine hK.out _ _ ?_ (fun hHeld => ?_)
  · (try dsimp only); exact (ST.out _ z3).1
  clear hK K
  try simp only [Act.put, List.setIfInBounds_toArray, List.set_cons_zero, List.set_cons_succ, List.getElem_toArray, List.getElem_cons_succ, List.getElem_cons_zero]
  refine wpAnyH_ready (rs := [7]) (by kernel_rfl) (by simp) ?_
  refine AllReadyH.cons rfl (fun K hK => ?_) AllReadyH.nil
  go_simp
  refine (HRR.out _).mono ?_
  rintro e u4 ⟨rfl, hy4⟩
  have z4 := z3.trans (hy4.mono z3.size)
  clear hy4
  go_wp2_with fail
  refine hK.out _ _ ?_ (fun hHeld => ?_)
  · (try dsimp only); exact (ST.out _ z4).1
  clear hK K
  try simp only [Act.put, List.setIfInBounds_toArray, List.set_cons_zero, List.set_cons_succ, List.getElem_toArray, List.getElem_cons_succ, List.getElem_cons_zero]
  refine wpAnyH_take (i := 8) (v := ?_) rfl (by kernel_rfl) (by kernel_rfl) (by kernel_rfl) (fun _ _ _ h => h) (Or.inl ⟨by kernel_rfl, ?_⟩) (by assumption) ?_
  rotate_left 1
  · (intro w hSw; (try dsimp only at hSw); go_simp) <;> (try with_reducible rfl)
  try simp only [Act.put, List.setIfInBounds_toArray, List.set_cons_zero, List.set_cons_succ, List.getElem_toArray, List.getElem_cons_succ, List.getElem_cons_zero]
  refine wpAnyH_take (i := 9) (v := ?_) rfl (by kernel_rfl) (by kernel_rfl) (by kernel_rfl) (fun _ _ _ h => h) (Or.inl ⟨by kernel_rfl, ?_⟩) (by assumption) ?_
  rotate_left 1
  · (intro w hSw; (try dsimp only at hSw); go_simp) <;> (try with_reducible rfl)
  try simp only [Act.put, List.setIfInBounds_toArray, List.set_cons_zero, List.set_cons_succ, List.getElem_toArray, List.getElem_cons_succ, List.getElem_cons_zero]
  refine wpAnyH_take (i := 10) (v := ?_) rfl (by kernel_rfl) (by kernel_rfl) (by kernel_rfl) (fun _ _ _ h => h) (Or.inl ⟨by kernel_rfl, ?_⟩) (by assumption) ?_
  rotate_left 1
  · (intro w hSw; (try dsimp only at hSw); go_simp) <;> (try with_reducible rfl)
  try simp only [Act.put, List.setIfInBounds_toArray, List.set_cons_zero, List.set_cons_succ, List.getElem_toArray, List.getElem_cons_succ, List.getElem_cons_zero]
  refine wpAnyH_take (i := 11) (v := ?_) rfl (by kernel_rfl) (by kernel_rfl) (by kernel_rfl) (fun _ _ _ h => h) (Or.inl ⟨by kernel_rfl, ?_⟩) (by assumption) ?_
  rotate_left 1
  · (intro w hSw; (try dsimp only at hSw); go_simp) <;> (try with_reducible rfl)
  try simp only [Act.put, List.setIfInBounds_toArray, List.set_cons_zero, List.set_cons_succ, List.getElem_toArray, List.getElem_cons_succ, List.getElem_cons_zero]
  refine wpAnyH_take (i := 12) (v := ?_) rfl (by kernel_rfl) (by kernel_rfl) (by kernel_rfl) (fun _ _ _ h => h) (Or.inl ⟨by kernel_rfl, ?_⟩) (by assumption) ?_
  rotate_left 1
  · (intro w hSw; (try dsimp only at hSw); go_simp) <;> (try with_reducible rfl)
  try simp only [Act.put, List.setIfInBounds_toArray, List.set_cons_zero, List.set_cons_succ, List.getElem_toArray, List.getElem_cons_succ, List.getElem_cons_zero]
  refine wpAnyH_take (i := 14) (v := ?_) rfl (by kernel_rfl) (by kernel_rfl) (by kernel_rfl) (fun _ _ _ h => h) (Or.inl ⟨by kernel_rfl, ?_⟩) (by assumption) ?_
  rotate_left 1
  · (intro w hSw; (try dsimp only at hSw); go_simp) <;> (try with_reducible rfl)
  try simp only [Act.put, List.setIfInBounds_toArray, List.set_cons_zero, List.set_cons_succ, List.getElem_toArray, List.getElem_cons_succ, List.getElem_cons_zero]
  refine wpAnyH_ready (rs := [13]) (by kernel_rfl) (by simp) ?_
  refine AllReadyH.cons rfl (fun K hK => ?_) AllReadyH.nil
  go_simp
  refine (HK2.out _).mono ?_
  rintro e u5 ⟨rfl, hy5⟩
  have z5 := z4.trans (hy5.mono z4.size)
  clear hy5
  go_wp2_with fail
  refine hK.out _ _ ?_ (fun hHeld => ?_)
  · (try dsimp only); exact (ST.out _ z5).1
  clear hK K
  try simp only [Act.put, List.setIfInBounds_toArray, List.set_cons_zero, List.set_cons_succ, List.getElem_toArray, List.getElem_cons_succ, List.getElem_cons_zero]
  refine wpAnyH_take (i := 15) (v := ?_) rfl (by kernel_rfl) (by kernel_rfl) (by kernel_rfl) (fun _ _ _ h => h) (Or.inl ⟨by kernel_rfl, ?_⟩) (by assumption) ?_
  rotate_left 1
  · (intro w hSw; (try dsimp only at hSw); go_simp) <;> (try with_reducible rfl)
  try simp only [Act.put, List.setIfInBounds_toArray, List.set_cons_zero, List.set_cons_succ, List.getElem_toArray, List.getElem_cons_succ, List.getElem_cons_zero]
  refine wpAnyH_take (i := 16) (v := ?_) rfl (by kernel_rfl) (by kernel_rfl) (by kernel_rfl) (fun _ _ _ h => h) (Or.inl ⟨by kernel_rfl, ?_⟩) (by assumption) ?_
  rotate_left 1
  · (intro w hSw; (try dsimp only at hSw); go_simp) <;> (try with_reducible rfl)
  try simp only [Act.put, List.setIfInBounds_toArray, List.set_cons_zero, List.set_cons_succ, List.getElem_toArray, List.getElem_cons_succ, List.getElem_cons_zero]
  refine wpAnyH_done (by kernel_rfl) ?_ _
  obtain ⟨⟨p0, p1⟩, ⟨q0, q1⟩, ⟨r0, r1⟩, hs2, hs4, hBx⟩ := ST.out _ z5
  have NQ := fun W => eqCT W K s
  have NR := fun W => eqCT W 24 s
  have HBx := Lib.hid hBx
  have HS2 := Lib.hid hs2
  have HS4 := Lib.hid hs4
  have PX := Lib.hid (fun W (hW : Below u5.heap.size u5 W) => (ST.out W (z5.trans (hW.mono z5.size))))
  clear z1 z2 z3 z4 z5 hs2 hs4 hBx HK2 HTo HPR HKn ST
  go_upto_region 10 with (fail)
  go_wp2_with fail
  refine (HRR.out _).mono ?_
  rintro e w10 ⟨rfl, hB10⟩
  obtain ⟨⟨p0', p1'⟩, _, _, hs2, hs4, hBy⟩ := PX.out _ hB10
  have HS2' := Lib.hid hs2
  have HS4' := Lib.hid hs4
  have HBy := Lib.hid hBy
  clear p0 p1 q0 q1 r0 r1 hs2 hs4 hBy PX NQ NR HS2 HS4 HBx
  have hn2 : n2 ≤ 1000 := by have := HS2'.out.len; have := HLC.out; omega
  have hn4 : n4 ≤ 1000 := by have := HS4'.out.len; have := HLL.out; omega
  go_wp2_with fail
  refine (HT.out _).mono ?_
  rintro e w11 ⟨rfl, hB11⟩
  obtain ⟨cs, W12, hcv, hcs, hbs12, hB12, _⟩ := strBytes ⟨C.toArray⟩ w11
  have hB12' := hB11.trans (hB12.mono hB11.size)
  have HB12 := Lib.hid (HBy.out.trans (hB12'.mono HBy.out.size))
  have P12 := Lib.hid (below_cell2 hB12' p0')
  have S12 := Lib.hid (HS2'.out.below hB12')
  have T12 := Lib.hid (HS4'.out.below hB12')
  have hsz : (⟨C.toArray⟩ : ByteArray).size = C.length := rfl
  rw [hsz] at hcv hbs12
  have hdl : (⟨C.toArray⟩ : ByteArray).data.toList = C := rfl
  rw [hdl] at hbs12
  have R12 := Lib.hid hbs12
  clear hsz hdl hB11 hB12 hB12' hbs12 hcs HBy HS2' HS4' p0' p1' HT HRR
  go_wp2_with fail
  refine (HSame.out _ _ _ _ _ _ _ _ _ S12.out R12.out (by omega) (by have := HLC.out; omega)).mono ?_
  rintro e w13 ⟨rfl, hq13⟩
  have hB13 := hq13.below (B := W12.heap.size)
  have HB13 := Lib.hid (HB12.out.trans (hB13.mono HB12.out.size))
  have P13 := Lib.hid (below_cell2 hB13 P12.out)
  have T13 := Lib.hid (T12.out.below hB13)
  have R13 := Lib.hid (R12.out.below hB13)
  rw [show decide (C = C) = true from by simp]
  clear hq13 hB13 HB12 P12 S12 T12 R12 hcv
  have p0 := P13.out
  go_wp2_with fail
  refine (HRO.out _).mono ?_
  rintro e w14 ⟨rfl, hB14⟩
  have HB14 := Lib.hid (HB13.out.trans (hB14.mono HB13.out.size))
  have T14 := Lib.hid (T13.out.below hB14)
  have R14 := Lib.hid (R13.out.below hB14)
  clear hB14 HB13 P13 T13 R13 p0 HRO
  go_wp2_with fail
  refine (HRW.out _ _ _ _ R14.out (by have := HLC.out; omega)).mono ?_
  rintro e w15 ⟨A15, n15, c15, rfl, ho15, hB15⟩
  have HB15 := Lib.hid (HB14.out.trans (hB15.mono HB14.out.size))
  have T15 := Lib.hid (T14.out.below hB15)
  have R15 := Lib.hid ho15.bs.1
  have hn15 : n15 ≤ 1000 := by have := R15.out.len; have := HLL.out; omega
  clear hB15 HB14 T14 R14 ho15 HRW
  go_wp2_with fail
  refine (HSame.out _ _ _ _ _ _ _ _ _ T15.out R15.out (by omega) (by omega)).mono ?_
  rintro e w16 ⟨rfl, hq16⟩
  have HB16 := Lib.hid (HB15.out.trans (hq16.below.mono HB15.out.size))
  rw [show decide (L = L) = true from by simp]
  clear hq16 HB15 T15 R15
  go_wp2
  go_ret
  exact ⟨rfl, HB16.out⟩

theorem lawWrites (k s : Int) (w : World) (hs : I64 s) :
    Calls Try.prog 3 #[tmv k s] w fun e w' => e = .returned (.bool true) ∧ Below w.heap.size w w' := by
  by_cases h : rightT k s
  · exact lawWritesC k s w hs h
  by_cases hK : kindS s = 0
  · exact lawWritesA k s w hs h hK
  · exact lawWritesB k s w hs h hK
end Go.Proofs.Ytepbjjhidemaiaa
