/-
  The chapter's examples.
-/
import Derived.Test.YtbhfaakhcnkegaaWk
import Derived.Test.YtbhfaakhcnkegaaHex
namespace Go.Proofs.Ytbhfaakhcnkegaa
open Go.RowKit
set_option linter.unusedVariables false
set_option linter.unusedSimpArgs false
set_option maxRecDepth 4000

theorem below_st {w W W' : World} (h : Below w.heap.size w W) (k : Below W.heap.size W W') : Below w.heap.size w W' := h.trans (Below.mono k h.size)
theorem Bs.apart {w W : World} {fp : List Nat} {A : Option Addr} {n : Nat} {l : List UInt8} (h : Bs w A n l) (hO : OnlyF fp w W) (hd : ∀ a, A = some a → a.block ∉ fp) : Bs W A n l :=
  ⟨h.1, fun i x hx => by
    obtain ⟨b, o, e, hc⟩ := h.2 i x hx
    refine ⟨b, o, e, ?_⟩
    rw [← hc]
    exact World.cell?_of_block (hO.block b (World.block_lt_of_cell? w _ hc) (hd _ e))⟩
theorem Bss.apartN {Wx W2 : World} {fp : List Nat} {A : Option Addr} {n c : Nat} {l : List UInt8} {t : TypeId} (hO : OnlyF fp (Wx.alloc (.cells #[.slice A n c] t)) W2) (hf : ∀ k ∈ fp, k < Wx.heap.size) (hb : Bs Wx A n l) (hle : n ≤ c) (hd : ∀ a, A = some a → a.block ∉ fp) : Bss W2 (some ⟨Wx.heap.size, 0, none⟩) 1 [l] := by
  have hbk := heap_alloc_new Wx (.cells #[.slice A n c] t)
  have hb2 : W2.heap[Wx.heap.size]? = some (.cells #[.slice A n c] t) := by rw [hO.block _ (lt_of_block hbk) (fun hm => by have := hf _ hm; omega)]; exact hbk
  refine ⟨rfl, fun i x hx => ?_⟩
  match i, hx with
  | 0, hx => cases hx; exact ⟨_, _, A, n, c, rfl, by rw [blk_cell hb2]; rfl, (hb.below (below_alloc1 _ _)).apart hO hd, hle⟩

theorem sh_lt {w : World} {S : Nat} {fp : List Nat} {F : Fr} {Fs : List Fr} {e : Int} (h : Sh w S fp F Fs e) : ∀ k ∈ fp, k < w.heap.size := by
  obtain ⟨v, va, vs, hT⟩ := h; exact hT.lt

set_option maxHeartbeats 3200000 in
theorem known8 (w : World) :
    Calls Try.prog 22 #[] w fun e w' => e = .returned (.bool true) ∧ Below w.heap.size w w' := by
  have hx1 : hexL [48, 2, 5, 0] = [51, 48, 48, 50, 48, 53, 48, 48] := by decide
  have hx2 : hexL [49, 6, 1, 1, 255, 2, 1, 5] = [51, 49, 48, 54, 48, 49, 48, 49, 102, 102, 48, 50, 48, 49, 48, 53] := by decide
  have hx3 : hexL [129, 1, 7] = [56, 49, 48, 49, 48, 55] := by decide
  have HX1 := Lib.hid hx1
  have HX2 := Lib.hid hx2
  have HX3 := Lib.hid hx3
  clear hx1 hx2 hx3
  go_enter Try.func22, Try.ntmps22
  go_wp2_with fail
  refine (bdNew _).mono ?_
  rintro e w1 ⟨rfl, h1, b1⟩
  have B1 := Lib.hid b1
  have H1 := Lib.hid h1
  clear b1 h1
  go_wp2_with fail
  refine (hdOf 16 _).mono ?_
  rintro e w2 ⟨rfl, b2⟩
  have B2 := Lib.hid (below_st B1.out b2)
  have H2 := Lib.hid (H1.out.below b2)
  clear b2 H1 B1
  have t16 : (⟨0, 16, (16 : Int) == 16 || (16 : Int) == 17⟩ : Tg) = ⟨0, 16, true⟩ := rfl
  rw [t16]
  clear t16
  have O3 := Lib.hid (bdOpen w.heap.size [w.heap.size] fr0 [] 0 ⟨0, 16, true⟩ w2 H2.out (by simp))
  unfold Tg.v at *
  go_wp2_with fail
  refine O3.out.mono ?_
  rintro e w3 ⟨rfl, fp3, h3, o3, g3⟩
  have HF3 : Hid (∀ k ∈ fp3, w.heap.size ≤ k) := fun k hk => by
    rcases g3 k hk with h | h
    · simp at h; omega
    · have := B2.out.size; omega
  have B3 := Lib.hid (o3.below B2.out B2.out.size (by simp))
  have H3 := Lib.hid h3
  clear h3 o3 g3 O3 H2 B2
  -- Put
  have a4 := below_alloc1 w3 (.cells #[.int .u8 5, .int .u8 0] 5)
  have p4 := Bs.new2 w3 5 0 5 0 5 rfl rfl
  have lt3 := sh_lt H3.out
  have h4 := (H3.out.below a4).below (below_alloc1 _ (.cells #[.slice (some ⟨w3.heap.size, 0, none⟩) 2 2] 41))
  have P4 := Lib.hid (bdPut w.heap.size fp3 _ _ 0 _ 1 1 [[5, 0]] _ h4 (fun W2 hW2 => Bss.apartN hW2 (fun k hk => Nat.lt_of_lt_of_le (lt3 k hk) a4.size) p4 (Nat.le_refl 2) (by rintro a ha hm; cases ha; exact Nat.lt_irrefl _ (lt3 _ hm))) (by omega) (by decide))
  have B4 := Lib.hid ((B3.out.alloc B3.out.size (.cells #[.int .u8 5, .int .u8 0] 5)).alloc (Nat.le_trans B3.out.size a4.size) (.cells #[.slice (some ⟨w3.heap.size, 0, none⟩) 2 2] 41))
  have hs4 : (w3.alloc (.cells #[.int .u8 5, .int .u8 0] 5)).heap.size = w3.heap.size + 1 := by simp
  rw [hs4] at P4
  clear a4 p4 lt3 h4 B3 H3 hs4
  go_wp2_with fail
  refine P4.out.mono ?_
  rintro e w5 ⟨rfl, fp5, h5, o5, g5⟩
  have HF5 : Hid (∀ k ∈ fp5, w.heap.size ≤ k) := fun k hk => by
    rcases g5 k hk with h | h
    · exact HF3.out k h
    · have := B4.out.size; omega
  have B5 := Lib.hid (o5.below B4.out B4.out.size HF3.out)
  have H5 := Lib.hid h5
  clear h5 o5 g5 P4 B4 HF3
  have hR6 : shutR (putF (opnF fr0 0 ⟨0, 16, true⟩ false) 0 [[5, 0]]) (opnL fr0 [] 0) 0 = (⟨tg0, false, [48, 2, 5, 0]⟩, [], 0) := by kernel_rfl
  have S6 := bdShut w.heap.size fp5 _ _ 0 w5 H5.out (by decide) (by intro G hG; have h0 : fr0 = G := (by simpa [opnL] using hG); subst h0; decide) (by decide)
  rw [hR6] at S6
  have P6 := Lib.hid S6
  clear S6 hR6 H5
  go_wp2_with fail
  refine P6.out.mono ?_
  rintro e w6 ⟨rfl, fp6, h6, o6, g6⟩
  have B6 := Lib.hid (o6.below B5.out B5.out.size HF5.out)
  have H6 := Lib.hid h6
  clear h6 o6 g6 P6 B5 HF5
  have S7 := bdBytes w.heap.size fp6 _ _ 0 w6 H6.out (by decide)
  have hR7 : bytF ⟨tg0, false, [48, 2, 5, 0]⟩ [] 0 = ([48, 2, 5, 0], 0) := by kernel_rfl
  rw [hR7] at S7
  have P7 := Lib.hid S7
  clear S7 hR7 H6
  go_wp2_with fail
  refine P7.out.mono ?_
  rintro e w7 ⟨A7, n7, c7, rfl, ob7, b7⟩
  have B7 := Lib.hid (below_st B6.out b7)
  obtain ⟨s7, _⟩ := ob7.bs
  have n7e : n7 = 4 := s7.len.symm
  subst n7e
  clear ob7 b7 B6 P7
  -- SetOf
  have q0 : Bs (w7.alloc (.cells #[.int .u8 2, .int .u8 1, .int .u8 5] 5)) (some ⟨w7.heap.size, 0, none⟩) 3 [2, 1, 5] := Bs.newL w7 [2, 1, 5] 5
  have z0 : (w7.alloc (.cells #[.int .u8 2, .int .u8 1, .int .u8 5] 5)).heap.size = w7.heap.size + 1 := by simp
  have q1 : Bs ((w7.alloc (.cells #[.int .u8 2, .int .u8 1, .int .u8 5] 5)).alloc (.cells #[.int .u8 1, .int .u8 1, .int .u8 255] 5)) (some ⟨w7.heap.size + 1, 0, none⟩) 3 [1, 1, 255] := z0 ▸ Bs.newL (w7.alloc (.cells #[.int .u8 2, .int .u8 1, .int .u8 5] 5)) [1, 1, 255] 5
  have z1 : ((w7.alloc (.cells #[.int .u8 2, .int .u8 1, .int .u8 5] 5)).alloc (.cells #[.int .u8 1, .int .u8 1, .int .u8 255] 5)).heap.size = w7.heap.size + 1 + 1 := by simp
  have q2 := Bss.new2 41 (q0.below (below_alloc1 _ (.cells #[.int .u8 1, .int .u8 1, .int .u8 255] 5))) q1 (Nat.le_refl 3) (Nat.le_refl 3) z1
  have bb : Below w7.heap.size w7 (((w7.alloc (.cells #[.int .u8 2, .int .u8 1, .int .u8 5] 5)).alloc (.cells #[.int .u8 1, .int .u8 1, .int .u8 255] 5)).alloc (.cells #[.slice (some ⟨w7.heap.size, 0, none⟩) 3 3, .slice (some ⟨w7.heap.size + 1, 0, none⟩) 3 3] 41)) := ((below_alloc1 w7 (.cells #[.int .u8 2, .int .u8 1, .int .u8 5] 5)).alloc (by simp) (.cells #[.int .u8 1, .int .u8 1, .int .u8 255] 5)).alloc (by simp; omega) (.cells #[.slice (some ⟨w7.heap.size, 0, none⟩) 3 3, .slice (some ⟨w7.heap.size + 1, 0, none⟩) 3 3] 41)
  have s8 := s7.below bb
  have B8 := Lib.hid (below_st B7.out bb)
  have S8 := bdSetOf _ 2 2 _ _ q2 (by omega) (by decide) (by intro k; match k with | 0 => decide | 1 => decide | k + 2 => (unfold rowL; simp))
  rw [show wrapB ⟨0, 17, true⟩ (ordO [[2, 1, 5], [1, 1, 255]]).flatten = [49, 6, 1, 1, 255, 2, 1, 5] by kernel_rfl] at S8
  have P8 := Lib.hid S8
  have T8 := Lib.hid s8
  clear q0 q1 q2 z0 z1 bb s7 s8 S8 B7
  go_wp2_with fail
  refine P8.out.mono ?_
  rintro e w9 ⟨A9, n9, c9, rfl, ob9, b9⟩
  have B9 := Lib.hid (below_st B8.out b9)
  have T9 := Lib.hid (T8.out.below b9)
  obtain ⟨s9, _⟩ := ob9.bs
  have n9e : n9 = 8 := s9.len.symm
  subst n9e
  clear ob9 b9 B8 T8 P8
  -- Implicit
  have q3 : Bs (w9.alloc (.cells #[.int .u8 4, .int .u8 1, .int .u8 7] 5)) (some ⟨w9.heap.size, 0, none⟩) 3 [4, 1, 7] := Bs.newL w9 [4, 1, 7] 5
  have b3 := below_alloc1 w9 (.cells #[.int .u8 4, .int .u8 1, .int .u8 7] 5)
  have P10 := Lib.hid (bdImplicit 1 _ 3 3 [4, 1, 7] _ q3 (by omega))
  have B10 := Lib.hid (below_st B9.out b3)
  have T10 := Lib.hid (T9.out.below b3)
  have U10 := Lib.hid (s9.below b3)
  have HI : Hid (∀ W e w', ImpOk W 1 [4, 1, 7] e w' → NewBs2 W [129, 1, 7] e w') := by
    intro W e w' h
    have h1 := h.2.1 (by decide)
    have h2 := h1.1 (by decide)
    rwa [show wrapB ⟨2, 1, (rHead [4, 1, 7] 0).1.made⟩ ([4, 1, 7].drop (rHead [4, 1, 7] 0).2.2.1) = [129, 1, 7] by decide] at h2
  clear q3 b3 s9 T9 B9
  go_wp2_with fail
  refine P10.out.mono ?_
  intro e w11 hh
  obtain ⟨A11, n11, c11, rfl, ob11, b11⟩ := HI.out _ _ _ hh
  have B11 := Lib.hid (below_st B10.out b11)
  have T11 := T10.out.below b11
  have U11 := U10.out.below b11
  obtain ⟨s11, _⟩ := ob11.bs
  have n11e : n11 = 3 := s11.len.symm
  subst n11e
  clear ob11 b11 B10 T10 U10 P10 HI hh
  go_wp2_with fail
  refine (octHex _ _ _ _ _ T11 (by omega)).mono ?_
  rw [HX1.out]
  rintro e w12 ⟨rfl, b12⟩
  have B12 := Lib.hid (below_st B11.out b12)
  have U12 := U11.below b12
  have s12 := s11.below b12
  clear T11 U11 s11 b12 B11
  go_wp2_with fail
  refine (octHex _ _ _ _ _ U12 (by omega)).mono ?_
  rw [HX2.out]
  rintro e w13 ⟨rfl, b13⟩
  have B13 := Lib.hid (below_st B12.out b13)
  have s13 := s12.below b13
  clear U12 s12 b13 B12
  go_wp2_with fail
  refine (octHex _ _ _ _ _ s13 (by omega)).mono ?_
  rw [HX3.out]
  rintro e w14 ⟨rfl, b14⟩
  have B14 := Lib.hid (below_st B13.out b14)
  clear s13 b14 B13
  go_wp2
  go_ret
  exact ⟨rfl, B14.out⟩

end Go.Proofs.Ytbhfaakhcnkegaa
