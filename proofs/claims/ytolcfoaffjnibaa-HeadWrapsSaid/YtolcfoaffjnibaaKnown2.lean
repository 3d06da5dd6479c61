/-
  quittancelaw02's known: the chapter's examples.
-/
import Derived.Test.YtolcfoaffjnibaaHdWrapB
import Derived.Test.YtolcfoaffjnibaaHdAlone
namespace Go.Proofs.Ytolcfoaffjnibaa
open Go.RowKit
set_option linter.unusedVariables false
set_option linter.unusedSimpArgs false
set_option maxRecDepth 4000

theorem kn1 : tagB ⟨0, 16, true⟩ = [48] := by decide
theorem kn2 : tagB ⟨0, 201, false⟩ = [31, 129, 73] := by decide
theorem kn3 : lenB 256 = [130, 1, 0] := by decide
theorem kn4 : rLen [129, 127] 0 = (0, 0, 5) := by decide
theorem kn5 : wrapB ⟨2, 0, true⟩ [[5], [0]].flatten = [160, 2, 5, 0] := by decide
theorem hx1 : hexL [48] = [51, 48] := by decide
theorem hx2 : hexL [31, 129, 73] = [49, 102, 56, 49, 52, 57] := by decide
theorem hx3 : hexL [130, 1, 0] = [56, 50, 48, 49, 48, 48] := by decide
theorem hx5 : hexL [160, 2, 5, 0] = [97, 48, 48, 50, 48, 53, 48, 48] := by decide

theorem bstep {w a b : World} (h : Below w.heap.size w a) (k : Below a.heap.size a b) : Below w.heap.size w b := h.trans (k.mono h.size)

set_option maxHeartbeats 1600000 in
theorem known2 (w : World) :
    Calls Try.prog 21 #[] w fun e w' => e = .returned (.bool true) ∧ Below w.heap.size w w' := by
  go_enter Try.func21, Try.ntmps21
  go_wp2_with fail
  refine (hdOf 16 _).mono ?_
  rintro e w1 ⟨rfl, b1⟩
  have B1 : Below w.heap.size w w1 := b1
  go_wp2_with fail
  refine (hdBytes ⟨0, 16, true⟩ _ ⟨by decide, by decide, by decide, by decide⟩).mono ?_
  rw [kn1]
  rintro e w2 ⟨A1, n1, c1, rfl, hob1, b2⟩
  have B2 := bstep B1 b2
  have s1 := hob1.bs.1
  go_wp2_with fail
  refine (hdBytes ⟨0, 201, false⟩ _ ⟨by decide, by decide, by decide, by decide⟩).mono ?_
  rw [kn2]
  rintro e w3 ⟨A2, n2, c2, rfl, hob2, b3⟩
  have B3 := bstep B2 b3
  have s1 := s1.below b3
  have s2 := hob2.bs.1
  go_wp2_with fail
  refine (hdLength 256 _ (by decide) (by decide)).mono ?_
  rw [kn3]
  rintro e w4 ⟨A3, n3, c3, rfl, hob3, b4⟩
  have B4 := bstep B3 b4
  have s1 := s1.below b4
  have s2 := s2.below b4
  have s3 := hob3.bs.1
  clear hob1 hob2 hob3 b1 b2 b3 b4
  go_wp2_with fail
  refine (octNew _ _ _ [129, 127] _ (Bs.newL w4 [129, 127] 5) (by decide)).mono ?_
  rintro e w5 ⟨g, sv, rfl, hg, hcur, b5⟩
  have bb : Below w4.heap.size w4 w5 := (below_alloc1 w4 _).trans (b5.mono (by simp))
  have hg4 : w4.heap.size ≤ g := by simp at hg; omega
  have B5 := bstep B4 bb
  have s1 := s1.below bb
  have s2 := s2.below bb
  have s3 := s3.below bb
  go_wp2_with fail
  refine (hdReadLength g 0 _ _ hcur).mono ?_
  rintro e w6 ⟨rfl, hcur6, hO6⟩
  rw [kn4]
  have B6 : Below w.heap.size w w6 := hO6.below B5 (Nat.le_trans B4.size hg4) B5.size
  have s1 := s1.only hO6 hcur.noByte
  have s2 := s2.only hO6 hcur.noByte
  have s3 := s3.only hO6 hcur.noByte
  clear hcur hcur6 hO6 bb b5 hg hg4
  go_wp2_with fail
  refine (hdAt 0 true _).mono ?_
  rintro e w7 ⟨rfl, b7⟩
  have B7 := bstep B6 b7
  have s1 := s1.below b7
  have s2 := s2.below b7
  have s3 := s3.below b7
  have hB7 : Bss (((w7.alloc (.cells #[.int .u8 5] 5)).alloc (.cells #[.int .u8 0] 5)).alloc (.cells #[.slice (some ⟨w7.heap.size, 0, none⟩) 1 1, .slice (some ⟨w7.heap.size + 1, 0, none⟩) 1 1] 25)) (some ⟨w7.heap.size + 1 + 1, 0, none⟩) 2 [[5], [0]] :=
    Bss.new2 25 ((Bs.newL w7 [5] 5).below (below_alloc1 _ _)) (Bs.new1m (W := w7.alloc (.cells #[.int .u8 5] 5)) (x := 0) (e := 5) 0 rfl (by simp)) (Nat.le_refl _) (Nat.le_refl _) (by simp)
  have b8 : Below w7.heap.size w7 (((w7.alloc (.cells #[.int .u8 5] 5)).alloc (.cells #[.int .u8 0] 5)).alloc (.cells #[.slice (some ⟨w7.heap.size, 0, none⟩) 1 1, .slice (some ⟨w7.heap.size + 1, 0, none⟩) 1 1] 25)) := (below_alloc2 _ _ _).alloc (by simp; omega) _
  go_wp2_with fail
  refine (hdWrap ⟨2, 0, true⟩ _ 2 _ [[5], [0]] _ (by decide) hB7 (by decide) (by decide) (fun k => by match k with | 0 => decide | 1 => decide | k + 2 => simp [rowL])).mono ?_
  rw [kn5]
  rintro e w8 ⟨A4, n4, c4, rfl, hob4, b9⟩
  have bb : Below w7.heap.size w7 w8 := b8.trans (b9.mono (by simp; omega))
  have B8 := bstep B7 bb
  have s1 := s1.below bb
  have s2 := s2.below bb
  have s3 := s3.below bb
  have s4 := hob4.bs.1
  clear hB7 b7 b8 b9 bb hob4 B1 B2 B3 B4 B5 B6 B7
  go_wp2_with fail
  refine (octHex _ _ _ _ _ s1 (by have := s1.len; simp at this; omega)).mono ?_
  rw [hx1]
  rintro e w9 ⟨rfl, b9⟩
  have B9 := bstep B8 b9
  have s2 := s2.below b9
  have s3 := s3.below b9
  have s4 := s4.below b9
  go_wp2_with fail
  refine (octHex _ _ _ _ _ s2 (by have := s2.len; simp at this; omega)).mono ?_
  rw [hx2]
  rintro e w10 ⟨rfl, b10⟩
  have B10 := bstep B9 b10
  have s3 := s3.below b10
  have s4 := s4.below b10
  go_wp2_with fail
  refine (octHex _ _ _ _ _ s3 (by have := s3.len; simp at this; omega)).mono ?_
  rw [hx3]
  rintro e w11 ⟨rfl, b11⟩
  have B11 := bstep B10 b11
  have s4 := s4.below b11
  go_wp2_with fail
  refine (octHex _ _ _ _ _ s4 (by have := s4.len; simp at this; omega)).mono ?_
  rw [hx5]
  rintro e w12 ⟨rfl, b12⟩
  have B12 := bstep B11 b12
  go_wp2
  go_ret
  exact ⟨rfl, B12⟩

end Go.Proofs.Ytolcfoaffjnibaa
