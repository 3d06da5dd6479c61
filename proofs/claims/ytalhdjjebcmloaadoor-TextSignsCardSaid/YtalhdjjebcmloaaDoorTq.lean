/-
  The law TextSigns: texts' signs.
-/
import Derived.Test.YtalhdjjebcmloaaDoorTp
namespace Go.Proofs.YtalhdjjebcmloaaDoor
open Go.RowKit Go.Shelf
set_option linter.unusedVariables false
set_option linter.unusedSimpArgs false
set_option maxRecDepth 4000

set_option maxHeartbeats 6400000 in
theorem signsWalk (k : Int) (A : Option Addr) (n0 c : Nat) (l0 : List UInt8) (w : World) (hT : Tb w) (h : Bs w A n0 l0) (hc : n0 ≤ c) :
    Calls Tryd.prog 3 #[.agg #[.int .i64 k, .slice A n0 c]] w fun e w' => e = .returned (.bool true) ∧ Below w.heap.size w w' := by
  have hTo := lw6To k A n0 c (w.alloc (.cells #[.int .i64 k, .slice A n0 c] 24)) hc
  obtain ⟨n, hnn⟩ : ∃ n, min n0 500 = n := ⟨_, rfl⟩
  rw [hnn] at hTo
  have hn500 : n ≤ 500 := by omega
  have hnc : n ≤ c := by omega
  have hl := h.take (m := n) (by omega)
  generalize l0.take n = l at hl
  have hb0 := below_alloc1 w (.cells #[.int .i64 k, .slice A n0 c] 24)
  obtain ⟨o0, o1, _, _⟩ := (Blk.new2 w (.int .i64 k) (.slice A n0 c) 24).two
  clear hnn h hc
  have hH5 := Lib.hid hn500
  have hHc := Lib.hid hnc
  go_enter Tryd.func3, Tryd.ntmps3
  go_wp2_with fail
  refine hTo.mono ?_
  rintro e w1 ⟨rfl, hb1⟩
  have hB1 : Below w.heap.size w w1 := hb0.trans (Below.mono hb1 (by simp))
  clear hTo hb0 hb1 o0 o1
  obtain ⟨W2, hW2⟩ : ∃ W2, w1.alloc (.cells #[.int .i64 k, .slice A n c] 25) = W2 := ⟨_, rfl⟩
  have hb2 : Below w1.heap.size w1 W2 := by rw [← hW2]; exact below_alloc1 _ _
  have hX2 : Blk W2 w1.heap.size 25 [.int .i64 k, .slice A n c] := by rw [← hW2]; exact Blk.new2 _ _ _ _
  have hB2 := hB1.trans (Below.mono hb2 hB1.size)
  have hl2 := hl.below hB2
  have hT2 := hT.below hB2
  obtain ⟨x0, x1, _, _⟩ := hX2.two
  have hCp := refCopy A n c l W2 hl2 (by omega)
  clear hb2 hB1 hT hl hn500 hnc
  generalize hgX : w1.heap.size = X at *
  go_wp2_with fail
  refine hCp.mono ?_
  rintro e w4 hnew
  obtain ⟨Ac, nc, cc, rfl, hob, hb4⟩ := hnew
  have hbc := hob.bs.1
  have hX4 := hX2.below hb4
  have hl4 := hl2.below hb4
  have hT4 := hT2.below hb4
  have hB4 := hB2.trans (Below.mono hb4 hB2.size)
  have KX : Hid (∀ W : World, Below w4.heap.size w4 W → W.cell? ⟨X, 0, none⟩ = some (.int .i64 k) ∧ W.cell? ⟨X, 1, none⟩ = some (.slice A n c)) := Lib.hid (fun W hW => ⟨(hX4.below hW).two.1, (hX4.below hW).two.2.1⟩)
  have OF : Hid (∀ W : World, Calls Tryd.prog 14 #[.agg #[.int .i64 k, .slice A n c]] W fun e w' => e = .returned (.agg #[.int .i64 k, .slice A n c]) ∧ Below W.heap.size W w') := Lib.hid (fun W => lw6Of k A n c W)
  have RS : Hid (∀ W : World, Below w4.heap.size w4 W → Calls Tryd.prog 13 #[.agg #[.int .i64 k, .slice A n c]] W (SgR k l W)) := Lib.hid (fun W hW => ref6Signs k A n c l W (hl4.below hW) (by have := hH5.out; omega))
  have KN : Hid (∀ W : World, Below w4.heap.size w4 W → Calls Tryd.prog 15 #[] W fun e w' => e = .returned (.bool true) ∧ Below W.heap.size W w') := Lib.hid (fun W hW => known6 W (hT4.below hW))
  have RT : Hid (∀ W : World, Below w4.heap.size w4 W → Calls Tryd.prog 16 #[.agg #[.int .i64 k, .slice A n c]] W fun e w' => e = .returned (.bool (rightT k l)) ∧ Below W.heap.size W w') := Lib.hid (fun W hW => txRight k A n c l W (hT4.below hW) (hl4.below hW) (by have := hH5.out; omega) hHc.out)
  have SM : Hid (∀ W : World, Below w4.heap.size w4 W → Calls Tryd.prog 17 #[.slice A n c, .slice Ac nc cc] W fun e w' => e = .returned (.bool true) ∧ Below w4.heap.size W w') := Lib.hid (fun W hW => (refSame A Ac n nc c cc l l W (hl4.below hW) (hbc.below hW) (by have := hH5.out; omega) (by have := hH5.out; have := hl4.len; have := hbc.len; omega)).mono (fun e w' ⟨h1, h2⟩ => ⟨by rw [h1, decide_eq_true rfl], h2.below⟩))
  have SMQ : Hid (∀ W : World, Below w4.heap.size w4 W → Calls Tryd.prog 17 #[.slice A n c, .slice Ac nc cc] W fun e w' => e = .returned (.bool true) ∧ Qt W w') := Lib.hid (fun W hW => (refSame A Ac n nc c cc l l W (hl4.below hW) (hbc.below hW) (by have := hH5.out; omega) (by have := hH5.out; have := hl4.len; have := hbc.len; omega)).mono (fun e w' ⟨h1, h2⟩ => ⟨by rw [h1, decide_eq_true rfl], h2⟩))
  have hlen := Lib.hid hl4.len
  have hrl := Lib.hid (runesT_length k l)
  have hB : Below w4.heap.size w4 w4 := Below.refl _ _
  cases hr : rightT k l
  · have SG : Hid (∀ W : World, Below w4.heap.size w4 W → Calls Tryd.prog 11 #[.agg #[.int .i64 k, .slice A n c]] W fun e w' => e = .returned (.tuple #[.slice none 0 0, .int .i64 6]) ∧ Below W.heap.size W w') := Lib.hid (fun W hW => txSignsNo k A n c l W (hT4.below hW) (hl4.below hW) (by have := hH5.out; omega) hHc.out hr)
    have U8 : Hid (∀ W : World, Below w4.heap.size w4 W → Calls Tryd.prog 12 #[.agg #[.int .i64 k, .slice A n c]] W fun e w' => e = .returned (.tuple #[.string ⟨#[]⟩, .int .i64 6]) ∧ Below W.heap.size W w') := Lib.hid (fun W hW => txUtf8No k A n c l W (hT4.below hW) (hl4.below hW) (by have := hH5.out; omega) hHc.out hr)
    rw [hr] at RT
    have hHr := Lib.hid hr
    clear hW2 hCp hob hbc hX4 hl4 hT4 hX2 hl2 hT2 hb4 hB2 x0 x1 hr hgX
    obtain ⟨y0, y1⟩ := KX.out _ hB
    go_wp2_with fail
    refine (SG.out _ hB).mono ?_
    rintro e w5 ⟨rfl, hb⟩
    replace hB := hB.trans (Below.mono hb hB.size)
    clear hb y0 y1
    obtain ⟨y0, y1⟩ := KX.out _ hB
    go_wp2_with fail
    refine (U8.out _ hB).mono ?_
    rintro e w6 ⟨rfl, hb⟩
    replace hB := hB.trans (Below.mono hb hB.size)
    clear hb y0 y1
    obtain ⟨y0, y1⟩ := KX.out _ hB
    go_wp2_with fail
    refine (OF.out _).mono ?_
    rintro e w7 ⟨rfl, hb⟩
    replace hB := hB.trans (Below.mono hb hB.size)
    clear hb y0 y1
    go_wp2_with fail
    refine (RS.out _ hB).mono ?_
    rintro e w8 ⟨_, hno, hb⟩
    obtain rfl := hno hHr.out
    replace hB := hB.trans (Below.mono hb hB.size)
    clear hb hno
    go_wp2_with fail
    refine (KN.out _ hB).mono ?_
    rintro e w9 ⟨rfl, hb⟩
    replace hB := hB.trans (Below.mono hb hB.size)
    clear hb
    obtain ⟨y0, y1⟩ := KX.out _ hB
    go_wp2_with fail
    refine (RT.out _ hB).mono ?_
    rintro e wa ⟨rfl, hb⟩
    replace hB := hB.trans (Below.mono hb hB.size)
    clear hb y0 y1
    obtain ⟨y0, y1⟩ := KX.out _ hB
    go_wp2_with fail
    refine (SM.out _ hB).mono ?_
    rintro e wb ⟨rfl, hb⟩
    replace hB := hB.trans hb
    clear hb y0 y1
    go_wp2
    go_ret
    exact ⟨rfl, hB4.trans (Below.mono hB hB4.size)⟩
  · have SG : Hid (∀ W : World, Below w4.heap.size w4 W → Calls Tryd.prog 11 #[.agg #[.int .i64 k, .slice A n c]] W fun e w' => ∃ v, e = .returned (.tuple #[v, .int .i64 0]) ∧ Ov w' W.heap.size 3 v ((runesT k l).map intV) ∧ Below W.heap.size W w') := Lib.hid (fun W hW => txSignsYes k A n c l W (hT4.below hW) (hl4.below hW) (by have := hH5.out; omega) hHc.out hr)
    have U8 : Hid (∀ W : World, Below w4.heap.size w4 W → Calls Tryd.prog 12 #[.agg #[.int .i64 k, .slice A n c]] W fun e w' => e = .returned (.tuple #[.string ⟨((runesT k l).flatMap Lib.encodeRune).toArray⟩, .int .i64 0]) ∧ Below W.heap.size W w') := Lib.hid (fun W hW => txUtf8Yes k A n c l W (hT4.below hW) (hl4.below hW) (by have := hH5.out; omega) hHc.out hr)
    have hval : Hid ((runesT k l).all Lib.validRune = true) := Lib.hid (by
      have h1 := hr
      unfold rightT at h1
      simp only [Bool.and_eq_true] at h1
      rw [List.all_eq_true] at h1 ⊢
      exact fun r hr' => hasT_valid h1.1 (h1.2 r hr'))
    rw [hr] at RT
    have hHr := Lib.hid hr
    clear hW2 hCp hob hbc hX4 hl4 hT4 hX2 hl2 hT2 hb4 hB2 x0 x1 hr hgX
    generalize hRg : runesT k l = R at *
    have hRG := Lib.hid hRg
    clear hRg
    obtain ⟨y0, y1⟩ := KX.out _ hB
    go_wp2_with fail
    refine (SG.out _ hB).mono ?_
    rintro e w5 ⟨v1, rfl, hov1, hb⟩
    obtain ⟨A1, c1, rfl, hc1, hvs1⟩ := hov1.slice
    have HZ1 : Hid (∀ W : World, Below w5.heap.size w5 W → Zs W A1 (R.map intV).length R) := Lib.hid (fun W hW => Vs.below hvs1 hW)
    replace hB := hB.trans (Below.mono hb hB.size)
    have hB5 : Below w5.heap.size w5 w5 := Below.refl _ _
    have hs5 : Hid (w4.heap.size ≤ w5.heap.size) := Lib.hid hB.size
    rw [List.length_map] at HZ1 ⊢
    clear hb y0 y1 hov1 hvs1 hc1
    obtain ⟨y0, y1⟩ := KX.out _ hB
    go_wp2_with fail
    refine (U8.out _ hB).mono ?_
    rintro e w6 ⟨rfl, hb⟩
    replace hB := hB.trans (Below.mono hb hB.size)
    replace hB5 := hB5.trans (Below.mono hb hB5.size)
    clear hb y0 y1
    obtain ⟨y0, y1⟩ := KX.out _ hB
    go_wp2_with fail
    refine (OF.out _).mono ?_
    rintro e w7 ⟨rfl, hb⟩
    replace hB := hB.trans (Below.mono hb hB.size)
    replace hB5 := hB5.trans (Below.mono hb hB5.size)
    clear hb y0 y1
    go_wp2_with fail
    refine (RS.out _ hB).mono ?_
    rintro e w8 ⟨hyes, _, hb⟩
    obtain ⟨v2, rfl, hov2⟩ := hyes hHr.out
    rw [hRG.out] at hov2
    obtain ⟨A2, c2, rfl, hc2, hvs2⟩ := hov2.slice
    have HZ2 : Hid (∀ W : World, Below w8.heap.size w8 W → Zs W A2 (R.map intV).length R) := Lib.hid (fun W hW => Vs.below hvs2 hW)
    replace hB := hB.trans (Below.mono hb hB.size)
    replace hB5 := hB5.trans (Below.mono hb hB5.size)
    have hB8 : Below w8.heap.size w8 w8 := Below.refl _ _
    rw [List.length_map] at HZ2 ⊢
    clear hb hyes hov2 hvs2 hc2
    go_wp2_with fail
    refine (KN.out _ hB).mono ?_
    rintro e w9 ⟨rfl, hb⟩
    replace hB := hB.trans (Below.mono hb hB.size)
    replace hB5 := hB5.trans (Below.mono hb hB5.size)
    replace hB8 := hB8.trans (Below.mono hb hB8.size)
    clear hb
    obtain ⟨y0, y1⟩ := KX.out _ hB
    go_wp2_with fail
    refine (RT.out _ hB).mono ?_
    rintro e wa ⟨rfl, hb⟩
    replace hB := hB.trans (Below.mono hb hB.size)
    replace hB5 := hB5.trans (Below.mono hb hB5.size)
    replace hB8 := hB8.trans (Below.mono hb hB8.size)
    clear hb y0 y1
    have SM2 : Hid (∀ W : World, Below w4.heap.size w4 W → Calls Tryd.prog 17 #[.slice A n c, .slice Ac nc cc] W fun e w' => e = .returned (.bool true) ∧ Qt W w') := SMQ
    obtain ⟨y0, y1⟩ := KX.out _ hB
    go_wp2_with fail
    refine (SM2.out _ hB).mono ?_
    rintro e wb ⟨rfl, hq⟩
    replace hB := hB.trans hq.below
    replace hB5 := hB5.trans hq.below
    replace hB8 := hB8.trans hq.below
    clear hq y0 y1
    have hS4 := ref4Same A1 A2 R.length R.length c1 c2 R R wb (HZ1.out _ hB5) (HZ2.out _ hB8) (by have := hrl.out; have := hlen.out; have := hH5.out; omega) (by have := hrl.out; have := hlen.out; have := hH5.out; omega)
    rw [decide_eq_true rfl] at hS4
    go_wp2_with fail
    refine hS4.mono ?_
    rintro e wc ⟨rfl, hq⟩
    replace hB := hB.trans hq.below
    replace hB8 := hB8.trans hq.below
    clear hq hS4 hB5
    have hU := ref6Utf8 A2 R.length c2 R wc (HZ2.out _ hB8) (by have := hrl.out; have := hlen.out; have := hH5.out; omega) hval.out
    go_wp2_with fail
    refine hU.mono ?_
    rintro e wd ⟨v3, rfl, hob3, hb⟩
    obtain ⟨A3, c3, rfl, hc3, hbs3⟩ := hob3.slice
    have hcv := hbs3.convert (P := Tryd.prog) c3 22 9 5 Tryd.underlying22 Tryd.underlying5 Tryd.underlying9
    replace hB := hB.trans (Below.mono hb hB.size)
    clear hb hU hob3 hbs3 hB8 hc3
    generalize R.flatMap Lib.encodeRune = fl at *
    have hes : ((⟨fl.toArray⟩ : ByteArray) == ⟨fl.toArray⟩) = true := by rw [beq_str]; simp
    go_wp2
    go_ret
    exact ⟨rfl, hB4.trans (Below.mono hB hB4.size)⟩
end Go.Proofs.YtalhdjjebcmloaaDoor
