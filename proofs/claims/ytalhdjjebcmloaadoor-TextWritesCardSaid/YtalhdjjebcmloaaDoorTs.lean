/-
  The contract of the project's text: Least.
-/
import Derived.Test.YtalhdjjebcmloaaDoorTp
namespace Go.Proofs.YtalhdjjebcmloaaDoor
open Go.RowKit Go.Shelf
set_option linter.unusedVariables false
set_option linter.unusedSimpArgs false
set_option maxRecDepth 4000

/-- The least kind of bytes. -/
def leastK (l : List UInt8) : Int := if rightT 19 l = true then 19 else if rightT 12 l = true then 12 else 20
theorem right20b (l : List UInt8) : rightT 20 l = true := by
  unfold rightT
  rw [runes_single 20 (by omega) (by omega)]
  rw [show isK 20 = true from rfl, Bool.true_and, List.all_eq_true]
  intro r hr
  obtain ⟨b, _, rfl⟩ := List.mem_map.1 hr
  have := b.toNat_lt
  simp [hasT]; omega
theorem nob2 (x : Int) (A : Option Addr) (n c : Nat) : NoB [.int .i64 x, .slice A n c] := by
  intro i y
  match i with
  | 0 => simp
  | 1 => simp
  | i + 2 => simp

set_option maxHeartbeats 3200000 in
theorem txLeast (s : ByteArray) (w : World) (hT : Tb w) (hs : s.size ≤ 1099511) :
    Calls Tryd.prog 31 #[.string s] w fun e w' => ∃ A c, e = .returned (.agg #[.int .i64 (leastK s.data.toList), .slice A s.size c]) ∧ Bs w' A s.size s.data.toList ∧ s.size ≤ c ∧ Below w.heap.size w w' := by
  have hb0 := below_alloc1 w (.cells #[.int .i64 0, .slice none 0 0] 25)
  have hR0 := Blk.new2 w (.int .i64 0) (.slice none 0 0) 25
  obtain ⟨c, W1, hcv, hc, hbs1, hb1, hsz1⟩ := strBytes s (w.alloc (.cells #[.int .i64 0, .slice none 0 0] 25))
  rw [World.size_alloc] at hcv hbs1 hsz1
  have hB1 : Below w.heap.size w W1 := hb0.trans (Below.mono hb1 (by simp))
  have hR1 := hR0.below hb1
  obtain ⟨W2, hW2⟩ : ∃ W2, W1.alloc (.cells #[.int .i64 0, .slice (some ⟨w.heap.size + 1, 0, none⟩) s.size c] 25) = W2 := ⟨_, rfl⟩
  have hb2 : Below W1.heap.size W1 W2 := by rw [← hW2]; exact below_alloc1 _ _
  have hX2 : Blk W2 (w.heap.size + 1 + 1) 25 [.int .i64 0, .slice (some ⟨w.heap.size + 1, 0, none⟩) s.size c] := by rw [← hW2, ← hsz1]; exact Blk.new2 _ _ _ _
  have hs2 : W2.heap.size = w.heap.size + 1 + 1 + 1 := by rw [← hW2]; simp [hsz1]
  obtain ⟨W3, hW3⟩ : ∃ W3, W2.alloc (.cells #[.int .i64 19, .int .i64 12, .int .i64 20] 3) = W3 := ⟨_, rfl⟩
  have hb3 : Below W2.heap.size W2 W3 := by rw [← hW3]; exact below_alloc1 _ _
  have hL3 : Blk W3 (w.heap.size + 1 + 1 + 1) 3 [.int .i64 19, .int .i64 12, .int .i64 20] := by rw [← hW3, ← hs2]; exact Blk.new _ _ _
  have hX3 := hX2.below hb3
  have hR3 := (hR1.below hb2).below hb3
  have hbs3 := (hbs1.below hb2).below hb3
  have hB3 := (hB1.trans (Below.mono hb2 hB1.size)).trans (Below.mono hb3 (by have := hB1.size; have := hb2.size; omega))
  have hHc := Lib.hid hc
  have hHs := Lib.hid hs
  clear hb0 hR0 hb1 hB1 hR1 hb2 hX2 hb3 hbs1 hc hs
  generalize hl : s.data.toList = l at *
  clear hl
  generalize s.size = n at *
  have RT := Lib.hid (fun (k : Int) (W : World) (hW : Below w.heap.size w W) (hb : Bs W (some ⟨w.heap.size + 1, 0, none⟩) n l) => txRight k (some ⟨w.heap.size + 1, 0, none⟩) n c l W (hT.below hW) hb hHs.out hHc.out)
  have E1 : Hid (∀ b, rightT 19 l = b → (b = true → leastK l = 19)) := Lib.hid (fun b hb h => by subst h; unfold leastK; rw [if_pos hb])
  have E2 : Hid (∀ b, rightT 19 l = false → rightT 12 l = b → (b = true → leastK l = 12)) := Lib.hid (fun b h9 hb h => by subst h; unfold leastK; rw [h9, hb]; rfl)
  have E3 : Hid (rightT 19 l = false → rightT 12 l = false → leastK l = 20) := Lib.hid (fun h9 hb => by unfold leastK; rw [h9, hb]; rfl)
  go_enter Tryd.func31, Tryd.ntmps31
  go_wp2
  go_loopw [11] (fun i wr => ∃ (q : Nat) (kk : Int), q ≤ 2 ∧ i = .int .i64 (q : Int) ∧ Hid ((1 ≤ q → rightT 19 l = false) ∧ (2 ≤ q → rightT 12 l = false)) ∧ Blk wr w.heap.size 25 [.int .i64 0, .slice none 0 0] ∧ Blk wr (w.heap.size + 1 + 1) 25 [.int .i64 kk, .slice (some ⟨w.heap.size + 1, 0, none⟩) n c] ∧ Blk wr (w.heap.size + 1 + 1 + 1) 3 [.int .i64 19, .int .i64 12, .int .i64 20] ∧ Bs wr (some ⟨w.heap.size + 1, 0, none⟩) n l ∧ Below w.heap.size w wr) (fun i _ => 3 - (intOf i).toNat)
  case atStart => exact ⟨0, 0, by omega, rfl, Lib.hid ⟨fun h => by omega, fun h => by omega⟩, hR3, hX3, hL3, hbs3, hB3⟩
  case round =>
    clear hR3 hX3 hL3 hbs3 hB3 hW2 hW3 hcv
    obtain ⟨q, kk, hq, rfl, hno, hR, hX, hL, hbs, hB⟩ := hrel
    have step : ∀ (z : Int), Hid (∃ W4, wr.setCell ⟨w.heap.size + 1 + 1, 0, none⟩ (.int .i64 z) = W4 ∧ Blk W4 w.heap.size 25 [.int .i64 0, .slice none 0 0] ∧ Blk W4 (w.heap.size + 1 + 1) 25 [.int .i64 z, .slice (some ⟨w.heap.size + 1, 0, none⟩) n c] ∧ Blk W4 (w.heap.size + 1 + 1 + 1) 3 [.int .i64 19, .int .i64 12, .int .i64 20] ∧ Bs W4 (some ⟨w.heap.size + 1, 0, none⟩) n l ∧ Below w.heap.size w W4) := fun z => Lib.hid
      ⟨_, rfl, hR.setOther (by omega) _ _, hX.set 0 _, hL.setOther (by omega) _ _, hbs.put1 hX (nob2 _ _ _ _) _, hB.setCell (p := ⟨w.heap.size + 1 + 1, 0, none⟩) (by show w.heap.size ≤ w.heap.size + 1 + 1; omega) _⟩
    obtain ⟨f0, f1, f2, f3⟩ := hX.two
    have l0 := hL.cell 0
    have l1 := hL.cell 1
    have l2 := hL.cell 2
    simp only [List.getElem?_cons_zero, List.getElem?_cons_succ] at l0 l1 l2
    have hq3 : q = 0 ∨ q = 1 ∨ q = 2 := by omega
    rcases hq3 with rfl | rfl | rfl
    · obtain ⟨W4, hW4, hR4, hX4, hL4, hbs4, hB4⟩ := (step 19).out
      clear hR hX hL hbs
      obtain ⟨g0, g1, _, _⟩ := hX4.two
      have hRt := RT.out 19 W4 hB4 hbs4
      cases hb : rightT 19 l
      · rw [hb] at hRt
        have hHb := Lib.hid hb
        clear hb
        go_wp2_with fail
        refine hRt.mono ?_
        rintro e w5 ⟨rfl, hb5⟩
        have hB5 := hB4.trans (Below.mono hb5 hB4.size)
        have hR5 := hR4.below hb5
        have hX5 := hX4.below hb5
        have hL5 := hL4.below hb5
        have hbs5 := hbs4.below hb5
        clear hW4 hRt hb5 hR4 hX4 hL4 hbs4 hB4 g0 g1 f0 f1 f2 f3 l0 l1 l2
        go_wp2
        go_roundw
        case rel => exact ⟨1, 19, by omega, by first | rfl | go_num, Lib.hid ⟨fun _ => (by first | exact hHb.out | trivial), fun h => by omega⟩, hR5, hX5, hL5, hbs5, hB5⟩
        case measure => simp [intOf]
      · rw [hb] at hRt
        have hk := E1.out _ hb rfl
        have hHk := Lib.hid hk
        clear hk hb
        go_wp2_with fail
        refine hRt.mono ?_
        rintro e w5 ⟨rfl, hb5⟩
        have hB5 := hB4.trans (Below.mono hb5 hB4.size)
        have hR5 := hR4.below hb5
        have hX5 := hX4.below hb5
        have hbs5 := hbs4.below hb5
        obtain ⟨x0, x1, _, _⟩ := hX5.two
        obtain ⟨r0, r1, r2, r3⟩ := hR5.two
        obtain ⟨p0, p1, _, _⟩ := (hR5.put (.int .i64 19) (.slice (some ⟨w.heap.size + 1, 0, none⟩) n c)).two
        have hbs6 := hbs5.put hR5 (nob2 _ _ _ _) (.int .i64 19) (.slice (some ⟨w.heap.size + 1, 0, none⟩) n c)
        have hB6 := (hB5.setCell (p := ⟨w.heap.size, 0, none⟩) (Nat.le_refl _) (.int .i64 19)).setCell (p := ⟨w.heap.size, 1, none⟩) (Nat.le_refl _) (.slice (some ⟨w.heap.size + 1, 0, none⟩) n c)
        clear hW4 hRt hb5 hR4 hX4 hL4 hbs4 hB4 g0 g1 f0 f1 f2 f3 l0 l1 l2
        go_wp2
        refine bodyPost_ret (v := .agg #[.int .i64 19, .slice (some ⟨w.heap.size + 1, 0, none⟩) n c]) (by simp [results, Tryd.f31, go_sem, p0, p1]) rfl ?_
        exact ⟨_, c, by rw [hHk.out], hbs6, hHc.out, hB6⟩
    · obtain ⟨W4, hW4, hR4, hX4, hL4, hbs4, hB4⟩ := (step 12).out
      clear hR hX hL hbs
      obtain ⟨g0, g1, _, _⟩ := hX4.two
      have hRt := RT.out 12 W4 hB4 hbs4
      cases hb : rightT 12 l
      · rw [hb] at hRt
        have hHb := Lib.hid hb
        clear hb
        go_wp2_with fail
        refine hRt.mono ?_
        rintro e w5 ⟨rfl, hb5⟩
        have hB5 := hB4.trans (Below.mono hb5 hB4.size)
        have hR5 := hR4.below hb5
        have hX5 := hX4.below hb5
        have hL5 := hL4.below hb5
        have hbs5 := hbs4.below hb5
        clear hW4 hRt hb5 hR4 hX4 hL4 hbs4 hB4 g0 g1 f0 f1 f2 f3 l0 l1 l2
        go_wp2
        go_roundw
        case rel => exact ⟨2, 12, by omega, by first | rfl | go_num, Lib.hid ⟨fun _ => hno.out.1 (by omega), fun _ => (by first | exact hHb.out | trivial)⟩, hR5, hX5, hL5, hbs5, hB5⟩
        case measure => simp [intOf]
      · rw [hb] at hRt
        have hk := E2.out _ (hno.out.1 (by omega)) hb rfl
        have hHk := Lib.hid hk
        clear hk hb
        go_wp2_with fail
        refine hRt.mono ?_
        rintro e w5 ⟨rfl, hb5⟩
        have hB5 := hB4.trans (Below.mono hb5 hB4.size)
        have hR5 := hR4.below hb5
        have hX5 := hX4.below hb5
        have hbs5 := hbs4.below hb5
        obtain ⟨x0, x1, _, _⟩ := hX5.two
        obtain ⟨r0, r1, r2, r3⟩ := hR5.two
        obtain ⟨p0, p1, _, _⟩ := (hR5.put (.int .i64 12) (.slice (some ⟨w.heap.size + 1, 0, none⟩) n c)).two
        have hbs6 := hbs5.put hR5 (nob2 _ _ _ _) (.int .i64 12) (.slice (some ⟨w.heap.size + 1, 0, none⟩) n c)
        have hB6 := (hB5.setCell (p := ⟨w.heap.size, 0, none⟩) (Nat.le_refl _) (.int .i64 12)).setCell (p := ⟨w.heap.size, 1, none⟩) (Nat.le_refl _) (.slice (some ⟨w.heap.size + 1, 0, none⟩) n c)
        clear hW4 hRt hb5 hR4 hX4 hL4 hbs4 hB4 g0 g1 f0 f1 f2 f3 l0 l1 l2
        go_wp2
        refine bodyPost_ret (v := .agg #[.int .i64 12, .slice (some ⟨w.heap.size + 1, 0, none⟩) n c]) (by simp [results, Tryd.f31, go_sem, p0, p1]) rfl ?_
        exact ⟨_, c, by rw [hHk.out], hbs6, hHc.out, hB6⟩
    · obtain ⟨W4, hW4, hR4, hX4, hL4, hbs4, hB4⟩ := (step 20).out
      clear hR hX hL hbs
      obtain ⟨g0, g1, _, _⟩ := hX4.two
      have hRt := RT.out 20 W4 hB4 hbs4
      rw [right20b] at hRt
      have hk := E3.out (hno.out.1 (by omega)) (hno.out.2 (by omega))
      have hHk := Lib.hid hk
      clear hk
      go_wp2_with fail
      refine hRt.mono ?_
      rintro e w5 ⟨rfl, hb5⟩
      have hB5 := hB4.trans (Below.mono hb5 hB4.size)
      have hR5 := hR4.below hb5
      have hX5 := hX4.below hb5
      have hbs5 := hbs4.below hb5
      obtain ⟨x0, x1, _, _⟩ := hX5.two
      obtain ⟨r0, r1, r2, r3⟩ := hR5.two
      obtain ⟨p0, p1, _, _⟩ := (hR5.put (.int .i64 20) (.slice (some ⟨w.heap.size + 1, 0, none⟩) n c)).two
      have hbs6 := hbs5.put hR5 (nob2 _ _ _ _) (.int .i64 20) (.slice (some ⟨w.heap.size + 1, 0, none⟩) n c)
      have hB6 := (hB5.setCell (p := ⟨w.heap.size, 0, none⟩) (Nat.le_refl _) (.int .i64 20)).setCell (p := ⟨w.heap.size, 1, none⟩) (Nat.le_refl _) (.slice (some ⟨w.heap.size + 1, 0, none⟩) n c)
      clear hW4 hRt hb5 hR4 hX4 hL4 hbs4 hB4 g0 g1 f0 f1 f2 f3 l0 l1 l2
      go_wp2
      refine bodyPost_ret (v := .agg #[.int .i64 20, .slice (some ⟨w.heap.size + 1, 0, none⟩) n c]) (by simp [results, Tryd.f31, go_sem, p0, p1]) rfl ?_
      exact ⟨_, c, by rw [hHk.out], hbs6, hHc.out, hB6⟩
end Go.Proofs.YtalhdjjebcmloaaDoor
