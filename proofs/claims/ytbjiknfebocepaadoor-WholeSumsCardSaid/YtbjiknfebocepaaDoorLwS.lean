/-
  The law WholeSums.
-/
import Derived.Test.YtbjiknfebocepaaDoorLwR
import Derived.Test.YtbjiknfebocepaaDoorR3l
import Derived.Test.YtbjiknfebocepaaDoorR3d
import Derived.Test.YtbjiknfebocepaaDoorR3h
import Derived.Test.YtbjiknfebocepaaDoorWg
namespace Go.Proofs.YtbjiknfebocepaaDoor
open Go.RowKit Go.Joins
set_option linter.unusedVariables false
set_option linter.unusedSimpArgs false
set_option maxRecDepth 4000

def s2D (i : Nat) : Nat := [14, 15, 16, 17, 18, 5].getD i 0
def s2G (i j : Nat) (u v : Value) : Prop := True
def FacS (va vb : Value) (x y : Nm) (B : Nat) : Nat → Value → World → Prop
  | 0, v, _ => v = va
  | 1, v, w => NumV w x v
  | 2, v, _ => v = vb
  | 3, v, w => NumV w y v
  | 4, v, w => ∃ s, NumV w s v ∧ s.ok ∧ s.z = x.z + y.z ∧ s.size.length ≤ 205
  | _, v, w => PtrN B v w
/-- A sum in a block. -/
def SumD (wc : World) (x y : Nm) (v : Value) (wd : World) : Prop := ∃ S s, v = .pointer (some ⟨S, 0, none⟩) ∧ NumB wd S s ∧ s.ok ∧ s.z = x.z + y.z ∧ s.size.length ≤ 205 ∧ Below wc.heap.size wc wd
theorem bitLen_of {Y j : Nat} (h1 : Y < 2 ^ (8 - j)) (h2 : 2 ^ (7 - j) ≤ Y) (hj : j ≤ 7) (h256 : Y < 256) : Lib.bitLen Y = 8 - j := by
  have h : ∀ (n : Fin 256) (k : Fin 8), n.val < 2 ^ (8 - k.val) → 2 ^ (7 - k.val) ≤ n.val → Lib.bitLen n.val = 8 - k.val := by decide +kernel
  exact h ⟨Y, h256⟩ ⟨j, by omega⟩ h1 h2

theorem sumS_frame {x y : Nm} {w w' : World} {v : Value} (h : ∃ s, NumV w s v ∧ s.ok ∧ s.z = x.z + y.z ∧ s.size.length ≤ 205) (hb : Below w.heap.size w w') : ∃ s, NumV w' s v ∧ s.ok ∧ s.z = x.z + y.z ∧ s.size.length ≤ 205 := by
  obtain ⟨s, h1, h2, h3, h4⟩ := h
  exact ⟨s, h1.frame hb, h2, h3, h4⟩

set_option maxHeartbeats 12800000 in
theorem lawSums1 (x y : Nm) (u v : Value) (w : World) (ht : Tab w) (hx : NumV w x u) (hy : NumV w y v) :
    Calls Tryd.prog 5 #[u, v] w fun e w' => e = .returned (.bool true) ∧ Below w.heap.size w w' := by
  obtain ⟨A, c, rfl, hb, hc⟩ := hx
  obtain ⟨A', c', rfl, hb', hc'⟩ := hy
  obtain ⟨xb, a⟩ := x
  obtain ⟨yb, b⟩ := y
  simp only at hb hc hb' hc' ⊢
  generalize hma : a.length = na at *
  generalize hmb : b.length = nb at *
  have HA := Lib.hid hma; clear hma
  have HB := Lib.hid hmb; clear hmb
  have hX : NumV w ⟨xb, a⟩ (.agg #[.bool xb, .slice A na c]) := NumV.mk' xb hb hc
  have hY : NumV w ⟨yb, b⟩ (.agg #[.bool yb, .slice A' nb c']) := NumV.mk' yb hb' hc'
  have hT := Two.start w 24 (.bool xb) (.slice A na c) (.bool yb) (.slice A' nb c')
  go_enter Tryd.func5, Tryd.ntmps5
  go_wp2
  generalize ((w.alloc (Obj.cells #[Value.bool xb, Value.slice A na c] 24)).alloc (Obj.cells #[Value.bool yb, Value.slice A' nb c'] 24)) = W0 at *
  generalize hR : w.heap.size = R at *
  have HR := Lib.hid hR; clear hR
  have KX : Hid (∀ W, Two w 24 R [.bool xb, .slice A na c] [.bool yb, .slice A' nb c'] W → NumV W ⟨xb, a⟩ (.agg #[.bool xb, .slice A na c]) ∧ NumV W ⟨yb, b⟩ (.agg #[.bool yb, .slice A' nb c'])) :=
    fun W h => ⟨hX.frame h.2.2.1, hY.frame h.2.2.1⟩
  have CEL : Hid (∀ W, Two w 24 R [.bool xb, .slice A na c] [.bool yb, .slice A' nb c'] W → W.cell? ⟨R, 0, none⟩ = some (.bool xb) ∧ W.cell? ⟨R, 1, none⟩ = some (.slice A na c) ∧ W.cell? ⟨R + 1, 0, none⟩ = some (.bool yb) ∧ W.cell? ⟨R + 1, 1, none⟩ = some (.slice A' nb c') ∧ W.frozen? ⟨R, 0, none⟩ = false ∧ W.frozen? ⟨R, 1, none⟩ = false ∧ W.frozen? ⟨R + 1, 0, none⟩ = false ∧ W.frozen? ⟨R + 1, 1, none⟩ = false) :=
    fun W h => ⟨h.1.cell 0, h.1.cell 1, h.2.1.cell 0, h.2.1.cell 1, h.1.free 0, h.1.free 1, h.2.1.free 0, h.2.1.free 1⟩
  obtain ⟨x0, hx0⟩ : ∃ x0, Nm.few ⟨xb, a⟩ = x0 := ⟨_, rfl⟩
  obtain ⟨y0, hy0⟩ : ∃ y0, Nm.few ⟨yb, b⟩ = y0 := ⟨_, rfl⟩
  have PX : Hid (∀ W, Two w 24 R [.bool xb, .slice A na c] [.bool yb, .slice A' nb c'] W → Calls Tryd.prog 8 #[.agg #[.bool xb, .slice A na c]] W fun e w' => ∃ A1 c1, e = .returned (.agg #[.bool x0.below, .slice A1 x0.size.length c1]) ∧ Bs w' A1 x0.size.length x0.size ∧ x0.size.length ≤ c1 ∧ Two w 24 R [.bool xb, .slice A na c] [.bool yb, .slice A' nb c'] w' ∧ Below W.heap.size W w') := by
    intro W h
    refine (lwFew ⟨xb, a⟩ _ W (KX.out W h).1).mono ?_
    rintro e w' ⟨v1, rfl, ⟨A1, c1, rfl, hs, hc⟩, hb⟩
    rw [hx0] at hs hc ⊢
    exact ⟨A1, c1, rfl, hs, hc, h.frame hb, hb⟩
  have PY : Hid (∀ W, Two w 24 R [.bool xb, .slice A na c] [.bool yb, .slice A' nb c'] W → Calls Tryd.prog 8 #[.agg #[.bool yb, .slice A' nb c']] W fun e w' => ∃ A1 c1, e = .returned (.agg #[.bool y0.below, .slice A1 y0.size.length c1]) ∧ Bs w' A1 y0.size.length y0.size ∧ y0.size.length ≤ c1 ∧ Two w 24 R [.bool xb, .slice A na c] [.bool yb, .slice A' nb c'] w' ∧ Below W.heap.size W w') := by
    intro W h
    refine (lwFew ⟨yb, b⟩ _ W (KX.out W h).2).mono ?_
    rintro e w' ⟨v1, rfl, ⟨A1, c1, rfl, hs, hc⟩, hb⟩
    rw [hy0] at hs hc ⊢
    exact ⟨A1, c1, rfl, hs, hc, h.frame hb, hb⟩
  have hT' : Two w 24 R [.bool xb, .slice A na c] [.bool yb, .slice A' nb c'] W0.drew := ⟨hT.1, hT.2.1, hT.2.2.1.drew, hT.2.2.2⟩
  obtain ⟨c00, c01, c10, c11, f00, f01, f10, f11⟩ := CEL.out _ hT
  go_cut [] from 5 (fun wc => ∃ A1 c1 A2 c2, Bs wc A1 x0.size.length x0.size ∧ x0.size.length ≤ c1 ∧ Bs wc A2 y0.size.length y0.size ∧ y0.size.length ≤ c2 ∧ Two w 24 R [.bool x0.below, .slice A1 x0.size.length c1] [.bool y0.below, .slice A2 y0.size.length c2] wc)
  case first =>
    go_region_with (first
      | (go_at_call_of 8 (Value.agg #[Value.bool xb, Value.slice A na c]); refine (PX.out _ ?_).mono ?_; assumption; rintro e w1 ⟨A1, c1, rfl, hs1, hc1, hT1, hb1⟩; obtain ⟨c00, c01, c10, c11, f00, f01, f10, f11⟩ := CEL.out _ hT1)
      | (go_at_call_of 8 (Value.agg #[Value.bool yb, Value.slice A' nb c']); refine (PY.out _ ?_).mono ?_; assumption; rintro e w2 ⟨A2, c2, rfl, hs2, hc2, hT2, hb2⟩; obtain ⟨c00, c01, c10, c11, f00, f01, f10, f11⟩ := CEL.out _ hT2))

    all_goals
      go_wp2_with fail
      go_meet
      first
        | exact ⟨A1, c1, A2, c2, Two.putBs hT2 (by simp) (by simp) (by simp) (by simp) (hs1.below hb2), hc1, Two.putBs hT2 (by simp) (by simp) (by simp) (by simp) hs2, hc2, hT2.put2 rfl rfl⟩
        | exact ⟨A1, c1, A2, c2, Two.putBs hT1 (by simp) (by simp) (by simp) (by simp) hs1, hc1, Two.putBs hT1 (by simp) (by simp) (by simp) (by simp) (hs2.below hb1), hc2, hT1.put2 rfl rfl⟩
  case rest =>
  obtain ⟨A1, c1, A2, c2, hs1, hc1, hs2, hc2, hT2⟩ := hcut
  have lx : x0.size.length ≤ 200 := by rw [← hx0]; exact Nm.few_len _
  have ly : y0.size.length ≤ 200 := by rw [← hy0]; exact Nm.few_len _
  clear hx0 hy0 hX hY hT hT' KX CEL PX PY hb hc hb' hc' c00 c01 c10 c11 f00 f01 f10 f11 HA HB
  rename World => Wc
  have HC1 := Lib.hid hc1
  have HC2 := Lib.hid hc2
  have tabc := ht.below hT2.2.2.1
  have KK : Hid (∀ W, Below Wc.heap.size Wc W → (W.cell? ⟨R, 0, none⟩ = some (.bool x0.below) ∧ W.cell? ⟨R, 1, none⟩ = some (.slice A1 x0.size.length c1) ∧ W.cell? ⟨R + 1, 0, none⟩ = some (.bool y0.below) ∧ W.cell? ⟨R + 1, 1, none⟩ = some (.slice A2 y0.size.length c2)) ∧ NumV W x0 (.agg #[.bool x0.below, .slice A1 x0.size.length c1]) ∧ NumV W y0 (.agg #[.bool y0.below, .slice A2 y0.size.length c2]) ∧ Tab W ∧ Below w.heap.size w W) :=
    fun W h => ⟨⟨(hT2.frame h).1.cell 0, (hT2.frame h).1.cell 1, (hT2.frame h).2.1.cell 0, (hT2.frame h).2.1.cell 1⟩, ⟨A1, c1, rfl, hs1.below h, HC1.out⟩, ⟨A2, c2, rfl, hs2.below h, HC2.out⟩, tabc.below h, (hT2.frame h).2.2.1⟩
  clear hT2 hs1 hs2 hc1 hc2 ht tabc
  go_upto_region 2 with (fail)
  go_cut [5] from 6 (fun v5 wd => SumD Wc x0 y0 v5 wd)
  case first =>
    refine wp_name fun a0 ha0 => ?_
    have e2 : a0.tmps.getD 2 undef = .pointer (some ⟨R, 0, none⟩) := by rw [ha0.out]; rfl
    have e3 : a0.tmps.getD 3 undef = .pointer (some ⟨R + 1, 0, none⟩) := by rw [ha0.out]; rfl
    have esz : a0.tmps.size = 86 := by rw [ha0.out]; rfl
    refine wp_region_facts 6 1 s2D (FacS (.agg #[.bool x0.below, .slice A1 x0.size.length c1]) (.agg #[.bool y0.below, .slice A2 y0.size.length c2]) x0 y0 Wc.heap.size) s2G mixed rfl (inj_of _ _ (by kernel_rfl)) (by kernel_rfl) ?keep ?step ?fin
    case keep =>
      intro i v w1 w2 hi hF hb
      have hcase : i = 0 ∨ i = 1 ∨ i = 2 ∨ i = 3 ∨ i = 4 ∨ i = 5 := by omega
      rcases hcase with rfl | rfl | rfl | rfl | rfl | rfl
      · exact hF
      · exact NumV.frame hF hb
      · exact hF
      · exact NumV.frame hF hb
      · exact sumS_frame hF hb
      · exact PtrN.below hF hb
    case step =>
      intro i f wq hi hB hrest hdep
      have hold : ∀ d, (∀ i, i < 6 → d ≠ s2D i) → (upd a0.tmps f).getD d undef = a0.tmps.getD d undef := fun d hd => upd_old _ _ _ (hrest d hd)
      have hcase : i = 0 ∨ i = 1 ∨ i = 2 ∨ i = 3 ∨ i = 4 ∨ i = 5 := by omega
      rcases hcase with rfl | rfl | rfl | rfl | rfl | rfl
      · have ev2 : (upd a0.tmps f).getD 2 undef = .pointer (some ⟨R, 0, none⟩) := (hold 2 (nin_of _ _ _ (by kernel_rfl))).trans e2
        obtain ⟨⟨d0, d1, d2, d3⟩, _⟩ := KK.out _ hB
        refine wpOp_of rfl rfl ?_
        unfold Oper.wp
        clear hdep hi
        go_simp
        exact ⟨_, (by rw [upd_set]; rfl), rfl, Below.refl _ _, fun _ _ _ _ _ _ => ⟨trivial, trivial⟩⟩
      · obtain ⟨v0, hv0, F0⟩ := hdep _ rfl ⟨0, .data⟩ (by simp) rfl (by decide)
        have hv0 : f 14 = some v0 := hv0
        obtain rfl := (show v0 = (.agg #[.bool x0.below, .slice A1 x0.size.length c1]) from F0)
        have ev0 := upd_get a0.tmps f 14 _ (by rw [esz]; decide) hv0
        obtain ⟨_, nx, ny, _⟩ := KK.out _ hB
        refine wpOp_of rfl rfl ?_
        unfold Oper.wp
        clear hdep hi
        go_simp
        refine (lwTo x0 _ wq nx).mono ?_
        rintro e w1 ⟨v1, rfl, n1, b1⟩
        exact ⟨_, (by rw [upd_set]; rfl), n1, b1, fun _ _ _ _ _ _ => ⟨trivial, trivial⟩⟩
      · have ev3 : (upd a0.tmps f).getD 3 undef = .pointer (some ⟨R + 1, 0, none⟩) := (hold 3 (nin_of _ _ _ (by kernel_rfl))).trans e3
        obtain ⟨⟨d0, d1, d2, d3⟩, _⟩ := KK.out _ hB
        refine wpOp_of rfl rfl ?_
        unfold Oper.wp
        clear hdep hi
        go_simp
        exact ⟨_, (by rw [upd_set]; rfl), rfl, Below.refl _ _, fun _ _ _ _ _ _ => ⟨trivial, trivial⟩⟩
      · obtain ⟨v2, hv2, F2⟩ := hdep _ rfl ⟨2, .data⟩ (by simp) rfl (by decide)
        have hv2 : f 16 = some v2 := hv2
        obtain rfl := (show v2 = (.agg #[.bool y0.below, .slice A2 y0.size.length c2]) from F2)
        have ev2 := upd_get a0.tmps f 16 _ (by rw [esz]; decide) hv2
        obtain ⟨_, nx, ny, _⟩ := KK.out _ hB
        refine wpOp_of rfl rfl ?_
        unfold Oper.wp
        clear hdep hi
        go_simp
        refine (lwTo y0 _ wq ny).mono ?_
        rintro e w1 ⟨v1, rfl, n1, b1⟩
        exact ⟨_, (by rw [upd_set]; rfl), n1, b1, fun _ _ _ _ _ _ => ⟨trivial, trivial⟩⟩
      · obtain ⟨v1, hv1, F1⟩ := hdep _ rfl ⟨1, .data⟩ (by simp) rfl (by decide)
        have hv1 : f 15 = some v1 := hv1
        have F1 : NumV wq x0 v1 := F1
        have ev1 := upd_get a0.tmps f 15 _ (by rw [esz]; decide) hv1
        obtain ⟨v3, hv3, F3⟩ := hdep _ rfl ⟨3, .data⟩ (by simp) rfl (by decide)
        have hv3 : f 17 = some v3 := hv3
        have F3 : NumV wq y0 v3 := F3
        have ev3 := upd_get a0.tmps f 17 _ (by rw [esz]; decide) hv3
        refine wpOp_of rfl rfl ?_
        unfold Oper.wp
        clear hdep hi
        go_simp
        refine (whAdd x0 y0 _ _ wq F1 F3 (by omega) (by omega)).mono ?_
        rintro e w1 ⟨s1, v5, rfl, n1, ok1, z1, l1, b1⟩
        exact ⟨_, (by rw [upd_set]; rfl), ⟨s1, n1, ok1, z1, by omega⟩, b1, fun _ _ _ _ _ _ => ⟨trivial, trivial⟩⟩
      · refine wpOp_of rfl rfl ?_
        unfold Oper.wp
        clear hdep hi
        go_simp
        exact ⟨_, (by rw [upd_set]; rfl), ⟨wq.heap.size, rfl, hB.size, Blk.new2 wq _ _ _⟩, below_alloc1 _ _, fun _ _ _ _ _ _ => ⟨trivial, trivial⟩⟩
    case fin =>
      intro f wq hB hrest hall hG
      obtain ⟨v0, h0, F0⟩ := hall 0 (by omega)
      obtain ⟨v1, h1, F1⟩ := hall 1 (by omega)
      obtain ⟨v2, h2, F2⟩ := hall 2 (by omega)
      obtain ⟨v3, h3, F3⟩ := hall 3 (by omega)
      obtain ⟨v4, h4, F4⟩ := hall 4 (by omega)
      obtain ⟨v5, h5, F5⟩ := hall 5 (by omega)
      obtain ⟨X5, rfl, lX5, bX5⟩ := (show PtrN _ v5 wq from F5)
      obtain ⟨s4, ⟨A4, c4, rfl, m4, hc4⟩, ok4, z4, l4⟩ := (show ∃ s, NumV wq s v4 ∧ s.ok ∧ s.z = x0.z + y0.z ∧ s.size.length ≤ 205 from F4)
      have Z4 := Lib.hid z4; clear z4
      have p5 : f 5 = some (.pointer (some ⟨X5, 0, none⟩)) := h5
      have g5 : f 18 = some (.agg #[.bool s4.below, .slice A4 s4.size.length c4]) := h4
      have ep5 := upd_get a0.tmps f 5 _ (by rw [esz]; decide) p5
      have eg5 := upd_get a0.tmps f 18 _ (by rw [esz]; decide) g5
      clear hG hall F0 F1 F2 F3 h0 h1 h2 h3 h4 h5
      refine wpAny_one 6 (by kernel_rfl) ?_
      obtain ⟨d0, d1, f0, f1⟩ := bX5.cs2
      refine wpOp_of rfl rfl ?_
      unfold Oper.wp
      go_simp
      have m4 := m4.set2 bX5 (.bool s4.below) (.slice A4 s4.size.length c4)
      have hB := below_set2 hB hB.size lX5 (.bool s4.below) (.slice A4 s4.size.length c4)
      have bX5 := bX5.store2 (.bool s4.below) (.slice A4 s4.size.length c4)
      clear d0 d1 f0 f1
      generalize ((wq.setCell ⟨X5, 0, none⟩ (.bool s4.below)).setCell ⟨X5, 1, none⟩ (.slice A4 s4.size.length c4)) = wq5 at *
      refine wpAny_end (by kernel_rfl) ?_
      rw [ha0.out]
      simp (config := { maxSteps := 1000000 }) [upd, p5, hrest 0 (nin_of _ _ _ (by kernel_rfl)), hrest 1 (nin_of _ _ _ (by kernel_rfl)), hrest 2 (nin_of _ _ _ (by kernel_rfl)), hrest 3 (nin_of _ _ _ (by kernel_rfl)), hrest 4 (nin_of _ _ _ (by kernel_rfl))]
      go_wp2_with fail
      go_meet
      exact ⟨X5, s4, rfl, ⟨A4, c4, bX5, m4, hc4⟩, ok4, Z4.out, l4, hB⟩
  case rest =>
  obtain ⟨S, s, rfl, ⟨AS, cS, bS, mS, hcS⟩, okS, zS, lS, bT⟩ := hcut
  rename World => Wd
  have HCS := Lib.hid hcS
  have HOS := Lib.hid okS
  have ZS := Lib.hid zS
  clear hcS okS zS
  obtain ⟨⟨d0, d1, _, _⟩, nx, _⟩ := KK.out _ bT
  go_upto_region 4 with (fail)
  go_wp2_with fail
  refine (ref3Made x0 _ _ nx (by omega)).mono ?_
  rintro e w5 ⟨v5, rfl, ⟨A5, c5, rfl, s5, hc5⟩, b5⟩
  clear d0 d1 nx
  have hml := x0.mk0_len
  have hmd : Hid (x0.mk0.size = dz x0.size) := rfl
  have hmo := x0.mk0_ok
  generalize x0.mk0 = m at *
  have HMN := Lib.hid hmo.1
  have kM := Blk.new2 w5 (.bool m.below) (.slice A5 m.size.length c5) 24
  have bx := below_st0 b5 (below_alloc1 w5 (.cells #[.bool m.below, .slice A5 m.size.length c5] 24))
  have s6 := s5.below (below_alloc1 w5 (.cells #[.bool m.below, .slice A5 m.size.length c5] 24))
  have bS := bS.below bx
  have mS := mS.below bx
  have bT := below_st0 bT bx
  clear b5 s5 bx hmo
  go_upto_region 5 with (fail)
  generalize (w5.alloc (Obj.cells #[.bool m.below, .slice A5 m.size.length c5] 24)) = We at *
  generalize w5.heap.size = M at *
  obtain ⟨m0, m1, _, _⟩ := kM.cs2
  by_cases hm0 : m.size.length = 0
  · have hbz : Hid (bitsL (dz x0.size) = 0) := by unfold Hid; rw [← hmd.out, List.eq_nil_of_length_eq_zero hm0]; rfl
    rw [hm0] at m1
    obtain ⟨Q, hQ⟩ : ∃ Q : Nat, Q = 0 := ⟨_, rfl⟩
    have e1 : ¬ (0 : Int) < 0 := by omega
    clear kM s6
    go_upto_region 11 with (fail)
    obtain ⟨⟨d0, d1, _, _⟩, nx, _⟩ := KK.out _ bT
    go_wp2_with fail
    refine (lwTo x0 _ _ nx).mono ?_
    rintro e w7 ⟨v7, rfl, n7, b7⟩
    clear d0 d1 nx
    go_wp2_with fail
    refine (whNeg x0 _ _ n7 (by omega)).mono ?_
    rintro e w8 ⟨q, v8, rfl, ⟨AQ, cQ, rfl, sQ, hcQ⟩, okQ, zQ, lQ, b8⟩
    have HCQ := Lib.hid hcQ
    have HOQ : Hid (q.okb = true) := (Nm.okb_iff q).2 okQ
    have HOS2 : Hid (s.okb = true) := (Nm.okb_iff s).2 HOS.out
    have ZQ := Lib.hid zQ
    have bx := below_st0 (below_st0 b7 b8) (below_alloc1 w8 (.cells #[.bool q.below, .slice AQ q.size.length cQ] 30))
    have kQ := Blk.new2 w8 (.bool q.below) (.slice AQ q.size.length cQ) 30
    have sQ := sQ.below (below_alloc1 w8 (.cells #[.bool q.below, .slice AQ q.size.length cQ] 30))
    have bS := bS.below bx
    have mS := mS.below bx
    have bT := below_st0 bT bx
    clear b7 b8 bx n7 okQ zQ hcQ
    go_upto_region 12 with (fail)
    generalize (w8.alloc (Obj.cells #[.bool q.below, .slice AQ q.size.length cQ] 30)) = Wf at *
    generalize w8.heap.size = G at *
    have K8 : Hid (∀ W, Below Wf.heap.size Wf W → (W.cell? ⟨R, 0, none⟩ = some (.bool x0.below) ∧ W.cell? ⟨R, 1, none⟩ = some (.slice A1 x0.size.length c1) ∧ W.cell? ⟨R + 1, 0, none⟩ = some (.bool y0.below) ∧ W.cell? ⟨R + 1, 1, none⟩ = some (.slice A2 y0.size.length c2) ∧ W.cell? ⟨S, 0, none⟩ = some (.bool s.below) ∧ W.cell? ⟨S, 1, none⟩ = some (.slice AS s.size.length cS) ∧ W.cell? ⟨G, 0, none⟩ = some (.bool q.below) ∧ W.cell? ⟨G, 1, none⟩ = some (.slice AQ q.size.length cQ)) ∧ NumV W x0 (.agg #[.bool x0.below, .slice A1 x0.size.length c1]) ∧ NumV W y0 (.agg #[.bool y0.below, .slice A2 y0.size.length c2]) ∧ NumV W s (.agg #[.bool s.below, .slice AS s.size.length cS]) ∧ NumV W q (.agg #[.bool q.below, .slice AQ q.size.length cQ]) ∧ Tab W ∧ Below w.heap.size w W) := by
      intro W hW
      obtain ⟨⟨r0, r1, r2, r3⟩, nx, ny, tb, bl⟩ := KK.out W (below_st0 bT hW)
      exact ⟨⟨r0, r1, r2, r3, (bS.below hW).cell 0, (bS.below hW).cell 1, (kQ.below hW).cell 0, (kQ.below hW).cell 1⟩, nx, ny, ⟨AS, cS, rfl, mS.below hW, HCS.out⟩, ⟨AQ, cQ, rfl, sQ.below hW, HCQ.out⟩, tb, bl⟩
    obtain ⟨sg0, hsg⟩ : ∃ z, sg x0.z y0.z = z := ⟨_, rfl⟩
    have HSG := Lib.hid hsg
    have ss : (sg0 == sg0) = true := by simp
    have qq : ((0 : Nat) : Int) == ((0 : Nat) : Int) := by simp
    clear hsg bS mS kQ sQ bT
    refine wp_region_held_drew (S := fun w' => w'.cell? ⟨R, 0, none⟩ = some (.bool x0.below) ∧ w'.cell? ⟨R, 1, none⟩ = some (.slice A1 x0.size.length c1) ∧ w'.cell? ⟨R + 1, 0, none⟩ = some (.bool y0.below) ∧ w'.cell? ⟨R + 1, 1, none⟩ = some (.slice A2 y0.size.length c2) ∧ w'.cell? ⟨S, 0, none⟩ = some (.bool s.below) ∧ w'.cell? ⟨S, 1, none⟩ = some (.slice AS s.size.length cS) ∧ w'.cell? ⟨G, 0, none⟩ = some (.bool q.below) ∧ w'.cell? ⟨G, 1, none⟩ = some (.slice AQ q.size.length cQ)) (by kernel_rfl) ?_ (fun hHeld => ?_)
    · (try dsimp only); exact (K8.out _ (Below.drew (Below.refl _ _))).1
    refine wpAnyH_ready (rs := [0]) (by kernel_rfl) (by simp) ?_
    refine AllReadyH.cons rfl (fun K hK => ?_) AllReadyH.nil
    go_simp
    refine (known3 _ (K8.out _ (Below.drew (Below.refl _ _))).2.2.2.2.2.1).mono ?_
    rintro e ww0 ⟨rfl, bb0⟩
    have bb00 := bb0
    have bb0 := Below.trans (Below.drew (Below.refl _ _)) bb0
    have kk0 := K8.out _ bb0
    go_wp2_with fail
    refine hK.out _ _ ?_ (fun hHeld => ?_)
    · (try dsimp only); exact kk0.1
    clear hK K
    try simp only [Act.put, List.setIfInBounds_toArray, List.set_cons_zero, List.set_cons_succ, List.getElem_toArray, List.getElem_cons_succ, List.getElem_cons_zero]
    refine wpAnyH_take (i := 1) (v := ?_) rfl (by kernel_rfl) (by kernel_rfl) (by kernel_rfl) (fun _ _ _ h => h) (Or.inl ⟨by kernel_rfl, ?_⟩) (by assumption) ?_
    rotate_left 1
    · (intro w hSw; (try dsimp only at hSw); go_simp) <;> (try with_reducible rfl)
    try simp only [Act.put, List.setIfInBounds_toArray, List.set_cons_zero, List.set_cons_succ, List.getElem_toArray, List.getElem_cons_succ, List.getElem_cons_zero]
    refine wpAnyH_take (i := 2) (v := ?_) rfl (by kernel_rfl) (by kernel_rfl) (by kernel_rfl) (fun _ _ _ h => h) (Or.inl ⟨by kernel_rfl, ?_⟩) (by assumption) ?_
    rotate_left 1
    · (intro w hSw; (try dsimp only at hSw); go_simp) <;> (try with_reducible rfl)
    try simp only [Act.put, List.setIfInBounds_toArray, List.set_cons_zero, List.set_cons_succ, List.getElem_toArray, List.getElem_cons_succ, List.getElem_cons_zero]
    refine wpAnyH_take (i := 4) (v := ?_) rfl (by kernel_rfl) (by kernel_rfl) (by kernel_rfl) (fun _ _ _ h => h) (Or.inl ⟨by kernel_rfl, ?_⟩) (by assumption) ?_
    rotate_left 1
    · (intro w hSw; (try dsimp only at hSw); go_simp) <;> (try with_reducible rfl)
    try simp only [Act.put, List.setIfInBounds_toArray, List.set_cons_zero, List.set_cons_succ, List.getElem_toArray, List.getElem_cons_succ, List.getElem_cons_zero]
    refine wpAnyH_take (i := 7) (v := ?_) rfl (by kernel_rfl) (by kernel_rfl) (by kernel_rfl) (fun _ _ _ h => h) (Or.inl ⟨by kernel_rfl, ?_⟩) (by assumption) ?_
    rotate_left 1
    · (intro w hSw; (try dsimp only at hSw); go_simp) <;> (try with_reducible rfl)
    try simp only [Act.put, List.setIfInBounds_toArray, List.set_cons_zero, List.set_cons_succ, List.getElem_toArray, List.getElem_cons_succ, List.getElem_cons_zero]
    refine wpAnyH_take (i := 8) (v := ?_) rfl (by kernel_rfl) (by kernel_rfl) (by kernel_rfl) (fun _ _ _ h => h) (Or.inl ⟨by kernel_rfl, ?_⟩) (by assumption) ?_
    rotate_left 1
    · (intro w hSw; (try dsimp only at hSw); go_simp) <;> (try with_reducible rfl)
    try simp only [Act.put, List.setIfInBounds_toArray, List.set_cons_zero, List.set_cons_succ, List.getElem_toArray, List.getElem_cons_succ, List.getElem_cons_zero]
    refine wpAnyH_ready (rs := [3]) (by kernel_rfl) (by simp) ?_
    refine AllReadyH.cons rfl (fun K hK => ?_) AllReadyH.nil
    go_simp
    refine (lwTo x0 _ _ kk0.2.1).mono ?_
    rintro e ww1 ⟨u1, rfl, M1, bb1⟩
    have bb10 := bb1
    have bb1 := bb0.trans (Below.mono bb1 bb0.size)
    have kk1 := K8.out _ bb1
    go_wp2_with fail
    refine hK.out _ _ ?_ (fun hHeld => ?_)
    · (try dsimp only); exact kk1.1
    clear hK K
    try simp only [Act.put, List.setIfInBounds_toArray, List.set_cons_zero, List.set_cons_succ, List.getElem_toArray, List.getElem_cons_succ, List.getElem_cons_zero]
    refine wpAnyH_ready (rs := [5]) (by kernel_rfl) (by simp) ?_
    refine AllReadyH.cons rfl (fun K hK => ?_) AllReadyH.nil
    go_simp
    refine (lwTo y0 _ _ kk1.2.2.1).mono ?_
    rintro e ww2 ⟨u2, rfl, M2, bb2⟩
    have bb20 := bb2
    have bb2 := bb1.trans (Below.mono bb2 bb1.size)
    have kk2 := K8.out _ bb2
    have M1 := M1.frame bb20
    go_wp2_with fail
    refine hK.out _ _ ?_ (fun hHeld => ?_)
    · (try dsimp only); exact kk2.1
    clear hK K
    try simp only [Act.put, List.setIfInBounds_toArray, List.set_cons_zero, List.set_cons_succ, List.getElem_toArray, List.getElem_cons_succ, List.getElem_cons_zero]
    refine wpAnyH_ready (rs := [6]) (by kernel_rfl) (by simp) ?_
    refine AllReadyH.cons rfl (fun K hK => ?_) AllReadyH.nil
    go_simp
    refine (whCompare x0 y0 _ _ _ M1 M2 (by omega) (by omega)).mono ?_
    rw [HSG.out]
    rintro e ww3 ⟨rfl, bb3⟩
    have bb30 := bb3
    have bb3 := bb2.trans (Below.mono bb3 bb2.size)
    have kk3 := K8.out _ bb3
    go_wp2_with fail
    refine hK.out _ _ ?_ (fun hHeld => ?_)
    · (try dsimp only); exact kk3.1
    clear hK K
    try simp only [Act.put, List.setIfInBounds_toArray, List.set_cons_zero, List.set_cons_succ, List.getElem_toArray, List.getElem_cons_succ, List.getElem_cons_zero]
    refine wpAnyH_ready (rs := [9]) (by kernel_rfl) (by simp) ?_
    refine AllReadyH.cons rfl (fun K hK => ?_) AllReadyH.nil
    go_simp
    refine (ref3Compare x0 y0 _ _ _ kk3.2.1 kk3.2.2.1 (by omega) (by omega)).mono ?_
    rw [HSG.out]
    rintro e ww4 ⟨rfl, bb4⟩
    have bb40 := bb4
    have bb4 := bb3.trans (Below.mono bb4 bb3.size)
    have kk4 := K8.out _ bb4
    go_wp2_with fail
    refine hK.out _ _ ?_ (fun hHeld => ?_)
    · (try dsimp only); exact kk4.1
    clear hK K
    try simp only [Act.put, List.setIfInBounds_toArray, List.set_cons_zero, List.set_cons_succ, List.getElem_toArray, List.getElem_cons_succ, List.getElem_cons_zero]
    refine wpAnyH_take (i := 10) (v := ?_) rfl (by kernel_rfl) (by kernel_rfl) (by kernel_rfl) (fun _ _ _ h => h) (Or.inl ⟨by kernel_rfl, ?_⟩) (by assumption) ?_
    rotate_left 1
    · (intro w hSw; (try dsimp only at hSw); go_simp) <;> (try with_reducible rfl)
    try simp only [Act.put, List.setIfInBounds_toArray, List.set_cons_zero, List.set_cons_succ, List.getElem_toArray, List.getElem_cons_succ, List.getElem_cons_zero]
    refine wpAnyH_take (i := 11) (v := ?_) rfl (by kernel_rfl) (by kernel_rfl) (by kernel_rfl) (fun _ _ _ h => h) (Or.inl ⟨by kernel_rfl, ?_⟩) (by assumption) ?_
    rotate_left 1
    · (intro w hSw; (try dsimp only at hSw); go_simp) <;> (try with_reducible rfl)
    try simp only [Act.put, List.setIfInBounds_toArray, List.set_cons_zero, List.set_cons_succ, List.getElem_toArray, List.getElem_cons_succ, List.getElem_cons_zero]
    refine wpAnyH_take (i := 12) (v := ?_) rfl (by kernel_rfl) (by kernel_rfl) (by kernel_rfl) (fun _ _ _ h => h) (Or.inl ⟨by kernel_rfl, ?_⟩) (by assumption) ?_
    rotate_left 1
    · (intro w hSw; (try dsimp only at hSw); go_simp) <;> (try with_reducible rfl)
    try simp only [Act.put, List.setIfInBounds_toArray, List.set_cons_zero, List.set_cons_succ, List.getElem_toArray, List.getElem_cons_succ, List.getElem_cons_zero]
    refine wpAnyH_take (i := 13) (v := ?_) rfl (by kernel_rfl) (by kernel_rfl) (by kernel_rfl) (fun _ _ _ h => h) (Or.inl ⟨by kernel_rfl, ?_⟩) (by assumption) ?_
    rotate_left 1
    · (intro w hSw; (try dsimp only at hSw); go_simp) <;> (try with_reducible rfl)
    try simp only [Act.put, List.setIfInBounds_toArray, List.set_cons_zero, List.set_cons_succ, List.getElem_toArray, List.getElem_cons_succ, List.getElem_cons_zero]
    refine wpAnyH_take (i := 15) (v := ?_) rfl (by kernel_rfl) (by kernel_rfl) (by kernel_rfl) (fun _ _ _ h => h) (Or.inl ⟨by kernel_rfl, ?_⟩) (by assumption) ?_
    rotate_left 1
    · (intro w hSw; (try dsimp only at hSw); go_simp) <;> (try with_reducible rfl)
    try simp only [Act.put, List.setIfInBounds_toArray, List.set_cons_zero, List.set_cons_succ, List.getElem_toArray, List.getElem_cons_succ, List.getElem_cons_zero]
    refine wpAnyH_take (i := 16) (v := ?_) rfl (by kernel_rfl) (by kernel_rfl) (by kernel_rfl) (fun _ _ _ h => h) (Or.inl ⟨by kernel_rfl, ?_⟩) (by assumption) ?_
    rotate_left 1
    · (intro w hSw; (try dsimp only at hSw); go_simp) <;> (try with_reducible rfl)
    try simp only [Act.put, List.setIfInBounds_toArray, List.set_cons_zero, List.set_cons_succ, List.getElem_toArray, List.getElem_cons_succ, List.getElem_cons_zero]
    refine wpAnyH_ready (rs := [14]) (by kernel_rfl) (by simp) ?_
    refine AllReadyH.cons rfl (fun K hK => ?_) AllReadyH.nil
    go_simp
    refine (lwOf s _ _ kk4.2.2.2.1).mono ?_
    rintro e ww5 ⟨u5, rfl, M5, bb5⟩
    have bb50 := bb5
    have bb5 := bb4.trans (Below.mono bb5 bb4.size)
    have kk5 := K8.out _ bb5
    go_wp2_with fail
    refine hK.out _ _ ?_ (fun hHeld => ?_)
    · (try dsimp only); exact kk5.1
    clear hK K
    try simp only [Act.put, List.setIfInBounds_toArray, List.set_cons_zero, List.set_cons_succ, List.getElem_toArray, List.getElem_cons_succ, List.getElem_cons_zero]
    refine wpAnyH_ready (rs := [17]) (by kernel_rfl) (by simp) ?_
    refine AllReadyH.cons rfl (fun K hK => ?_) AllReadyH.nil
    go_simp
    refine (ref3Add x0 y0 _ _ _ kk5.2.1 kk5.2.2.1 (by omega) (by omega)).mono ?_
    rintro e ww6 ⟨s6, u6, rfl, M6, _, z6, l6, bb6⟩
    have bb60 := bb6
    have bb6 := bb5.trans (Below.mono bb6 bb5.size)
    have kk6 := K8.out _ bb6
    have M5 := M5.frame bb60
    have Z6 := Lib.hid z6
    clear z6
    go_wp2_with fail
    refine hK.out _ _ ?_ (fun hHeld => ?_)
    · (try dsimp only); exact kk6.1
    clear hK K
    try simp only [Act.put, List.setIfInBounds_toArray, List.set_cons_zero, List.set_cons_succ, List.getElem_toArray, List.getElem_cons_succ, List.getElem_cons_zero]
    refine wpAnyH_ready (rs := [18]) (by kernel_rfl) (by simp) ?_
    refine AllReadyH.cons rfl (fun K hK => ?_) AllReadyH.nil
    go_simp
    refine (ref3Same s s6 _ _ _ M5 M6 (by omega) (by omega)).mono ?_
    rw [decide_eq_true (show s.z = s6.z by rw [ZS.out, Z6.out])]
    rintro e ww7 ⟨rfl, bb7⟩
    have bb70 := bb7
    have bb7 := bb6.trans (Below.mono bb7 bb6.size)
    have kk7 := K8.out _ bb7
    go_wp2_with fail
    refine hK.out _ _ ?_ (fun hHeld => ?_)
    · (try dsimp only); exact kk7.1
    clear hK K
    try simp only [Act.put, List.setIfInBounds_toArray, List.set_cons_zero, List.set_cons_succ, List.getElem_toArray, List.getElem_cons_succ, List.getElem_cons_zero]
    refine wpAnyH_take (i := 19) (v := ?_) rfl (by kernel_rfl) (by kernel_rfl) (by kernel_rfl) (fun _ _ _ h => h) (Or.inl ⟨by kernel_rfl, ?_⟩) (by assumption) ?_
    rotate_left 1
    · (intro w hSw; (try dsimp only at hSw); go_simp) <;> (try with_reducible rfl)
    try simp only [Act.put, List.setIfInBounds_toArray, List.set_cons_zero, List.set_cons_succ, List.getElem_toArray, List.getElem_cons_succ, List.getElem_cons_zero]
    refine wpAnyH_take (i := 20) (v := ?_) rfl (by kernel_rfl) (by kernel_rfl) (by kernel_rfl) (fun _ _ _ h => h) (Or.inl ⟨by kernel_rfl, ?_⟩) (by assumption) ?_
    rotate_left 1
    · (intro w hSw; (try dsimp only at hSw); go_simp) <;> (try with_reducible rfl)
    try simp only [Act.put, List.setIfInBounds_toArray, List.set_cons_zero, List.set_cons_succ, List.getElem_toArray, List.getElem_cons_succ, List.getElem_cons_zero]
    refine wpAnyH_take (i := 21) (v := ?_) rfl (by kernel_rfl) (by kernel_rfl) (by kernel_rfl) (fun _ _ _ h => h) (Or.inl ⟨by kernel_rfl, ?_⟩) (by assumption) ?_
    rotate_left 1
    · (intro w hSw; (try dsimp only at hSw); go_simp) <;> (try with_reducible rfl)
    try simp only [Act.put, List.setIfInBounds_toArray, List.set_cons_zero, List.set_cons_succ, List.getElem_toArray, List.getElem_cons_succ, List.getElem_cons_zero]
    refine wpAnyH_ready (rs := [22]) (by kernel_rfl) (by simp) ?_
    refine AllReadyH.cons rfl (fun K hK => ?_) AllReadyH.nil
    go_simp
    refine (whRight s _ _ kk7.2.2.2.1).mono ?_
    rw [HOS2.out]
    rintro e ww8 ⟨rfl, bb8⟩
    have bb80 := bb8
    have bb8 := bb7.trans (Below.mono bb8 bb7.size)
    have kk8 := K8.out _ bb8
    go_wp2_with fail
    refine hK.out _ _ ?_ (fun hHeld => ?_)
    · (try dsimp only); exact kk8.1
    clear hK K
    try simp only [Act.put, List.setIfInBounds_toArray, List.set_cons_zero, List.set_cons_succ, List.getElem_toArray, List.getElem_cons_succ, List.getElem_cons_zero]
    refine wpAnyH_take (i := 23) (v := ?_) rfl (by kernel_rfl) (by kernel_rfl) (by kernel_rfl) (fun _ _ _ h => h) (Or.inl ⟨by kernel_rfl, ?_⟩) (by assumption) ?_
    rotate_left 1
    · (intro w hSw; (try dsimp only at hSw); go_simp) <;> (try with_reducible rfl)
    try simp only [Act.put, List.setIfInBounds_toArray, List.set_cons_zero, List.set_cons_succ, List.getElem_toArray, List.getElem_cons_succ, List.getElem_cons_zero]
    refine wpAnyH_take (i := 24) (v := ?_) rfl (by kernel_rfl) (by kernel_rfl) (by kernel_rfl) (fun _ _ _ h => h) (Or.inl ⟨by kernel_rfl, ?_⟩) (by assumption) ?_
    rotate_left 1
    · (intro w hSw; (try dsimp only at hSw); go_simp) <;> (try with_reducible rfl)
    try simp only [Act.put, List.setIfInBounds_toArray, List.set_cons_zero, List.set_cons_succ, List.getElem_toArray, List.getElem_cons_succ, List.getElem_cons_zero]
    refine wpAnyH_take (i := 25) (v := ?_) rfl (by kernel_rfl) (by kernel_rfl) (by kernel_rfl) (fun _ _ _ h => h) (Or.inl ⟨by kernel_rfl, ?_⟩) (by assumption) ?_
    rotate_left 1
    · (intro w hSw; (try dsimp only at hSw); go_simp) <;> (try with_reducible rfl)
    try simp only [Act.put, List.setIfInBounds_toArray, List.set_cons_zero, List.set_cons_succ, List.getElem_toArray, List.getElem_cons_succ, List.getElem_cons_zero]
    refine wpAnyH_ready (rs := [26]) (by kernel_rfl) (by simp) ?_
    refine AllReadyH.cons rfl (fun K hK => ?_) AllReadyH.nil
    go_simp
    refine (whRight q _ _ kk8.2.2.2.2.1).mono ?_
    rw [HOQ.out]
    rintro e ww9 ⟨rfl, bb9⟩
    have bb90 := bb9
    have bb9 := bb8.trans (Below.mono bb9 bb8.size)
    have kk9 := K8.out _ bb9
    go_wp2_with fail
    refine hK.out _ _ ?_ (fun hHeld => ?_)
    · (try dsimp only); exact kk9.1
    clear hK K
    try simp only [Act.put, List.setIfInBounds_toArray, List.set_cons_zero, List.set_cons_succ, List.getElem_toArray, List.getElem_cons_succ, List.getElem_cons_zero]
    refine wpAnyH_take (i := 27) (v := ?_) rfl (by kernel_rfl) (by kernel_rfl) (by kernel_rfl) (fun _ _ _ h => h) (Or.inl ⟨by kernel_rfl, ?_⟩) (by assumption) ?_
    rotate_left 1
    · (intro w hSw; (try dsimp only at hSw); go_simp) <;> (try with_reducible rfl)
    try simp only [Act.put, List.setIfInBounds_toArray, List.set_cons_zero, List.set_cons_succ, List.getElem_toArray, List.getElem_cons_succ, List.getElem_cons_zero]
    refine wpAnyH_take (i := 28) (v := ?_) rfl (by kernel_rfl) (by kernel_rfl) (by kernel_rfl) (fun _ _ _ h => h) (Or.inl ⟨by kernel_rfl, ?_⟩) (by assumption) ?_
    rotate_left 1
    · (intro w hSw; (try dsimp only at hSw); go_simp) <;> (try with_reducible rfl)
    try simp only [Act.put, List.setIfInBounds_toArray, List.set_cons_zero, List.set_cons_succ, List.getElem_toArray, List.getElem_cons_succ, List.getElem_cons_zero]
    refine wpAnyH_take (i := 29) (v := ?_) rfl (by kernel_rfl) (by kernel_rfl) (by kernel_rfl) (fun _ _ _ h => h) (Or.inl ⟨by kernel_rfl, ?_⟩) (by assumption) ?_
    rotate_left 1
    · (intro w hSw; (try dsimp only at hSw); go_simp) <;> (try with_reducible rfl)
    try simp only [Act.put, List.setIfInBounds_toArray, List.set_cons_zero, List.set_cons_succ, List.getElem_toArray, List.getElem_cons_succ, List.getElem_cons_zero]
    refine wpAnyH_take (i := 31) (v := ?_) rfl (by kernel_rfl) (by kernel_rfl) (by kernel_rfl) (fun _ _ _ h => h) (Or.inl ⟨by kernel_rfl, ?_⟩) (by assumption) ?_
    rotate_left 1
    · (intro w hSw; (try dsimp only at hSw); go_simp) <;> (try with_reducible rfl)
    try simp only [Act.put, List.setIfInBounds_toArray, List.set_cons_zero, List.set_cons_succ, List.getElem_toArray, List.getElem_cons_succ, List.getElem_cons_zero]
    refine wpAnyH_take (i := 33) (v := ?_) rfl (by kernel_rfl) (by kernel_rfl) (by kernel_rfl) (fun _ _ _ h => h) (Or.inl ⟨by kernel_rfl, ?_⟩) (by assumption) ?_
    rotate_left 1
    · (intro w hSw; (try dsimp only at hSw); go_simp) <;> (try with_reducible rfl)
    try simp only [Act.put, List.setIfInBounds_toArray, List.set_cons_zero, List.set_cons_succ, List.getElem_toArray, List.getElem_cons_succ, List.getElem_cons_zero]
    refine wpAnyH_ready (rs := [30]) (by kernel_rfl) (by simp) ?_
    refine AllReadyH.cons rfl (fun K hK => ?_) AllReadyH.nil
    go_simp
    refine (lwOf q _ _ kk9.2.2.2.2.1).mono ?_
    rintro e ww10 ⟨u10, rfl, M10, bb10⟩
    have bb100 := bb10
    have bb10 := bb9.trans (Below.mono bb10 bb9.size)
    have kk10 := K8.out _ bb10
    go_wp2_with fail
    refine hK.out _ _ ?_ (fun hHeld => ?_)
    · (try dsimp only); exact kk10.1
    clear hK K
    try simp only [Act.put, List.setIfInBounds_toArray, List.set_cons_zero, List.set_cons_succ, List.getElem_toArray, List.getElem_cons_succ, List.getElem_cons_zero]
    refine wpAnyH_ready (rs := [32]) (by kernel_rfl) (by simp) ?_
    refine AllReadyH.cons rfl (fun K hK => ?_) AllReadyH.nil
    go_simp
    refine (ref3Add q x0 _ _ _ M10 kk10.2.1 (by omega) (by omega)).mono ?_
    rintro e ww11 ⟨s11, u11, rfl, M11, _, z11, l11, bb11⟩
    have bb110 := bb11
    have bb11 := bb10.trans (Below.mono bb11 bb10.size)
    have kk11 := K8.out _ bb11
    have Z11 := Lib.hid z11
    clear z11
    go_wp2_with fail
    refine hK.out _ _ ?_ (fun hHeld => ?_)
    · (try dsimp only); exact kk11.1
    clear hK K
    try simp only [Act.put, List.setIfInBounds_toArray, List.set_cons_zero, List.set_cons_succ, List.getElem_toArray, List.getElem_cons_succ, List.getElem_cons_zero]
    refine wpAnyH_ready (rs := [34]) (by kernel_rfl) (by simp) ?_
    refine AllReadyH.cons rfl (fun K hK => ?_) AllReadyH.nil
    go_simp
    refine (ref3Same s11 ⟨false, []⟩ _ _ _ M11 (NumV.mk' false (Bs.nil _ _) (Nat.le_refl 0)) (by omega) (by simp)).mono ?_
    rw [decide_eq_true (show s11.z = (Nm.mk false []).z by rw [Z11.out, ZQ.out, show -x0.z + x0.z = 0 by omega]; rfl)]
    rintro e ww12 ⟨rfl, bb12⟩
    have bb120 := bb12
    have bb12 := bb11.trans (Below.mono bb12 bb11.size)
    have kk12 := K8.out _ bb12
    go_wp2_with fail
    refine hK.out _ _ ?_ (fun hHeld => ?_)
    · (try dsimp only); exact kk12.1
    clear hK K
    try simp only [Act.put, List.setIfInBounds_toArray, List.set_cons_zero, List.set_cons_succ, List.getElem_toArray, List.getElem_cons_succ, List.getElem_cons_zero]
    refine wpAnyH_take (i := 35) (v := ?_) rfl (by kernel_rfl) (by kernel_rfl) (by kernel_rfl) (fun _ _ _ h => h) (Or.inl ⟨by kernel_rfl, ?_⟩) (by assumption) ?_
    rotate_left 1
    · (intro w hSw; (try dsimp only at hSw); go_simp) <;> (try with_reducible rfl)
    try simp only [Act.put, List.setIfInBounds_toArray, List.set_cons_zero, List.set_cons_succ, List.getElem_toArray, List.getElem_cons_succ, List.getElem_cons_zero]
    refine wpAnyH_take (i := 36) (v := ?_) rfl (by kernel_rfl) (by kernel_rfl) (by kernel_rfl) (fun _ _ _ h => h) (Or.inl ⟨by kernel_rfl, ?_⟩) (by assumption) ?_
    rotate_left 1
    · (intro w hSw; (try dsimp only at hSw); go_simp) <;> (try with_reducible rfl)
    try simp only [Act.put, List.setIfInBounds_toArray, List.set_cons_zero, List.set_cons_succ, List.getElem_toArray, List.getElem_cons_succ, List.getElem_cons_zero]
    refine wpAnyH_take (i := 37) (v := ?_) rfl (by kernel_rfl) (by kernel_rfl) (by kernel_rfl) (fun _ _ _ h => h) (Or.inl ⟨by kernel_rfl, ?_⟩) (by assumption) ?_
    rotate_left 1
    · (intro w hSw; (try dsimp only at hSw); go_simp) <;> (try with_reducible rfl)
    try simp only [Act.put, List.setIfInBounds_toArray, List.set_cons_zero, List.set_cons_succ, List.getElem_toArray, List.getElem_cons_succ, List.getElem_cons_zero]
    refine wpAnyH_take (i := 40) (v := ?_) rfl (by kernel_rfl) (by kernel_rfl) (by kernel_rfl) (fun _ _ _ h => h) (Or.inl ⟨by kernel_rfl, ?_⟩) (by assumption) ?_
    rotate_left 1
    · (intro w hSw; (try dsimp only at hSw); go_simp) <;> (try with_reducible rfl)
    try simp only [Act.put, List.setIfInBounds_toArray, List.set_cons_zero, List.set_cons_succ, List.getElem_toArray, List.getElem_cons_succ, List.getElem_cons_zero]
    refine wpAnyH_ready (rs := [38]) (by kernel_rfl) (by simp) ?_
    refine AllReadyH.cons rfl (fun K hK => ?_) AllReadyH.nil
    go_simp
    refine (lwTo x0 _ _ kk12.2.1).mono ?_
    rintro e ww13 ⟨u13, rfl, M13, bb13⟩
    have bb130 := bb13
    have bb13 := bb12.trans (Below.mono bb13 bb12.size)
    have kk13 := K8.out _ bb13
    go_wp2_with fail
    refine hK.out _ _ ?_ (fun hHeld => ?_)
    · (try dsimp only); exact kk13.1
    clear hK K
    try simp only [Act.put, List.setIfInBounds_toArray, List.set_cons_zero, List.set_cons_succ, List.getElem_toArray, List.getElem_cons_succ, List.getElem_cons_zero]
    refine wpAnyH_ready (rs := [39]) (by kernel_rfl) (by simp) ?_
    refine AllReadyH.cons rfl (fun K hK => ?_) AllReadyH.nil
    go_simp
    refine (whBits x0 _ _ M13 (by omega)).mono ?_
    rw [hbz.out]
    rintro e ww14 ⟨rfl, bb14⟩
    have bb140 := bb14
    have bb14 := bb13.trans (Below.mono bb14 bb13.size)
    have kk14 := K8.out _ bb14
    go_wp2_with fail
    refine hK.out _ _ ?_ (fun hHeld => ?_)
    · (try dsimp only); exact kk14.1
    clear hK K
    try simp only [Act.put, List.setIfInBounds_toArray, List.set_cons_zero, List.set_cons_succ, List.getElem_toArray, List.getElem_cons_succ, List.getElem_cons_zero]
    refine wpAnyH_take (i := 41) (v := ?_) rfl (by kernel_rfl) (by kernel_rfl) (by kernel_rfl) (fun _ _ _ h => h) (Or.inl ⟨by kernel_rfl, ?_⟩) (by assumption) ?_
    rotate_left 1
    · (intro w hSw; (try dsimp only at hSw); go_simp) <;> (try with_reducible rfl)
    try simp only [Act.put, List.setIfInBounds_toArray, List.set_cons_zero, List.set_cons_succ, List.getElem_toArray, List.getElem_cons_succ, List.getElem_cons_zero]
    refine wpAnyH_take (i := 42) (v := ?_) rfl (by kernel_rfl) (by kernel_rfl) (by kernel_rfl) (fun _ _ _ h => h) (Or.inl ⟨by kernel_rfl, ?_⟩) (by assumption) ?_
    rotate_left 1
    · (intro w hSw; (try dsimp only at hSw); go_simp) <;> (try with_reducible rfl)
    try simp only [Act.put, List.setIfInBounds_toArray, List.set_cons_zero, List.set_cons_succ, List.getElem_toArray, List.getElem_cons_succ, List.getElem_cons_zero]
    refine wpAnyH_take (i := 43) (v := ?_) rfl (by kernel_rfl) (by kernel_rfl) (by kernel_rfl) (fun _ _ _ h => h) (Or.inl ⟨by kernel_rfl, ?_⟩) (by assumption) ?_
    rotate_left 1
    · (intro w hSw; (try dsimp only at hSw); go_simp) <;> (try with_reducible rfl)
    try simp only [Act.put, List.setIfInBounds_toArray, List.set_cons_zero, List.set_cons_succ, List.getElem_toArray, List.getElem_cons_succ, List.getElem_cons_zero]
    refine wpAnyH_done (by kernel_rfl) ?_ _
    go_wp2
    go_ret
    exact ⟨rfl, kk14.2.2.2.2.2.2⟩
  · have e1 : (0 : Int) < (m.size.length : Int) := by omega
    obtain ⟨b1, o1, rfl, hc1'⟩ := s6.at_ (k := 0) (by omega)
    rw [Nat.add_zero] at hc1'
    obtain ⟨Y, r, hYr⟩ : ∃ Y r, m.size = Y :: r := by
      cases h : m.size with
      | nil => rw [h] at hm0; exact absurd rfl hm0
      | cons Y r => exact ⟨Y, r, rfl⟩
    have hY0 : nth m.size 0 = (Y.toNat : Int) := by rw [hYr]; rfl
    rw [hY0] at hc1'
    have hYz : Y.toNat ≠ 0 := by have h := HMN.out; rw [hYr] at h; exact h.head
    have hYb := UInt8.toNat_lt Y
    have hln : m.size.length = r.length + 1 := by rw [hYr]; rfl
    have hBL : Hid (bitsL (dz x0.size) = 8 * r.length + Lib.bitLen Y.toNat) := by unfold Hid; rw [← hmd.out, hYr]; rfl
    generalize m.size.length = n at *
    obtain ⟨Z, hZ⟩ : ∃ Z, Y.toNat = Z := ⟨_, rfl⟩
    rw [hZ] at hc1' hYz hYb hBL
    have e2 : 0 < n := by omega
    clear kM s6 hY0 hYr hZ
    have hrb : r.length ≤ 200 := by omega
    obtain ⟨rl, hrl⟩ : ∃ rl, r.length = rl := ⟨_, rfl⟩
    rw [hrl] at hln hBL hrb
    have HLN := Lib.hid hln
    clear hrl
    have h8 : (8 : Int) * (n : Int) = ((8 * rl + 8 : Nat) : Int) := by omega
    clear hln
    go_wp2
    go_loop [6, 8] (fun bv kv => ∃ j : Nat, j ≤ 7 ∧ bv = .int .i64 ((8 * rl + 8 - j : Nat) : Int) ∧ kv = .int .i64 ((2 ^ (7 - j) : Nat) : Int) ∧ Hid (Z < 2 ^ (8 - j))) (fun _ kv => (intOf kv).toNat)
    case atStart => exact ⟨0, by omega, by first | rfl | go_num | (simp; omega), by rfl, by unfold Hid; omega⟩
    case round =>
      obtain ⟨j, hj, rfl, rfl, hZ8⟩ := hrel
      have hp : 2 ^ (7 - j) ≤ 128 ∧ 1 ≤ 2 ^ (7 - j) := by
        have : j = 0 ∨ j = 1 ∨ j = 2 ∨ j = 3 ∨ j = 4 ∨ j = 5 ∨ j = 6 ∨ j = 7 := by omega
        rcases this with rfl | rfl | rfl | rfl | rfl | rfl | rfl | rfl <;> decide
      by_cases hlt : Z < 2 ^ (7 - j)
      · have hj7 : j < 7 := by
          rcases Nat.lt_or_ge j 7 with h | h
          · exact h
          · have : j = 7 := by omega
            subst this; simp at hlt; omega
        have hpw : 2 ^ (7 - j) = 2 * 2 ^ (7 - (j + 1)) := by rw [show 7 - j = (7 - (j + 1)) + 1 by omega, Nat.pow_succ, Nat.mul_comm]
        have hnx : Hid (Z < 2 ^ (8 - (j + 1))) := by unfold Hid; rw [show 8 - (j + 1) = 7 - j by omega]; exact hlt
        have hb8 : 8 * rl + 8 - j = (8 * rl + 8 - (j + 1)) + 1 := by omega
        obtain ⟨p2, hp2⟩ : ∃ p2, 2 ^ (7 - (j + 1)) = p2 := ⟨_, rfl⟩
        have HP2 := Lib.hid hp2
        rw [hp2] at hpw
        obtain ⟨p1, hp1⟩ : ∃ p1, 2 ^ (7 - j) = p1 := ⟨_, rfl⟩
        rw [hp1] at hpw hlt hp ⊢
        obtain ⟨bb, hbb⟩ : ∃ bb, 8 * rl + 8 - (j + 1) = bb := ⟨_, rfl⟩
        have HBB := Lib.hid hbb
        rw [hb8, hbb]
        have g1 : (Z : Int) < (p1 : Int) := by omega
        have g2 : (p1 : Int) / 2 = (p2 : Int) := by omega
        have g3 : (p1 : Int).tdiv 2 = (p2 : Int) := by rw [Int.tdiv_eq_ediv_of_nonneg (by omega)]; omega
        have g4 : ((bb + 1 : Nat) : Int) - 1 = (bb : Int) := by omega
        have hbbb : bb ≤ 2000 := by omega
        clear hpw hb8 hbb hp2 hp1 hlt hZ8
        go_wp2
        go_round
        case rel => exact ⟨j + 1, by omega, by rw [HBB.out]; try go_num, by rw [HP2.out]; try go_num, hnx⟩
        case measure => simp [intOf] <;> omega
      · have hge : 2 ^ (7 - j) ≤ Z := by omega
        have hbl := bitLen_of hZ8.out hge hj hYb
        have hbz : Hid (bitsL (dz x0.size) = 8 * rl + 8 - j) := by unfold Hid; rw [hBL.out, hbl]; omega
        obtain ⟨Q, hQ⟩ : ∃ Q : Nat, 8 * rl + 8 - j = Q := ⟨_, rfl⟩
        rw [hQ] at hbz ⊢
        have g1 : ¬ (Z : Int) < ((2 ^ (7 - j) : Nat) : Int) := by omega
        have g2 : ((2 ^ (7 - j) : Nat) : Int) ≤ (Z : Int) := by omega
        clear hQ hbl hBL hZ8 hp hge hlt
        generalize 2 ^ (7 - j) = p1 at *
        go_upto_region 11 with (fail)
        obtain ⟨⟨d0, d1, _, _⟩, nx, _⟩ := KK.out _ bT
        go_wp2_with fail
        refine (lwTo x0 _ _ nx).mono ?_
        rintro e w7 ⟨v7, rfl, n7, b7⟩
        clear d0 d1 nx
        go_wp2_with fail
        refine (whNeg x0 _ _ n7 (by omega)).mono ?_
        rintro e w8 ⟨q, v8, rfl, ⟨AQ, cQ, rfl, sQ, hcQ⟩, okQ, zQ, lQ, b8⟩
        have HCQ := Lib.hid hcQ
        have HOQ : Hid (q.okb = true) := (Nm.okb_iff q).2 okQ
        have HOS2 : Hid (s.okb = true) := (Nm.okb_iff s).2 HOS.out
        have ZQ := Lib.hid zQ
        have bx := below_st0 (below_st0 b7 b8) (below_alloc1 w8 (.cells #[.bool q.below, .slice AQ q.size.length cQ] 30))
        have kQ := Blk.new2 w8 (.bool q.below) (.slice AQ q.size.length cQ) 30
        have sQ := sQ.below (below_alloc1 w8 (.cells #[.bool q.below, .slice AQ q.size.length cQ] 30))
        have bS := bS.below bx
        have mS := mS.below bx
        have bT := below_st0 bT bx
        clear b7 b8 bx n7 okQ zQ hcQ
        go_upto_region 12 with (fail)
        generalize (w8.alloc (Obj.cells #[.bool q.below, .slice AQ q.size.length cQ] 30)) = Wf at *
        generalize w8.heap.size = G at *
        have K8 : Hid (∀ W, Below Wf.heap.size Wf W → (W.cell? ⟨R, 0, none⟩ = some (.bool x0.below) ∧ W.cell? ⟨R, 1, none⟩ = some (.slice A1 x0.size.length c1) ∧ W.cell? ⟨R + 1, 0, none⟩ = some (.bool y0.below) ∧ W.cell? ⟨R + 1, 1, none⟩ = some (.slice A2 y0.size.length c2) ∧ W.cell? ⟨S, 0, none⟩ = some (.bool s.below) ∧ W.cell? ⟨S, 1, none⟩ = some (.slice AS s.size.length cS) ∧ W.cell? ⟨G, 0, none⟩ = some (.bool q.below) ∧ W.cell? ⟨G, 1, none⟩ = some (.slice AQ q.size.length cQ)) ∧ NumV W x0 (.agg #[.bool x0.below, .slice A1 x0.size.length c1]) ∧ NumV W y0 (.agg #[.bool y0.below, .slice A2 y0.size.length c2]) ∧ NumV W s (.agg #[.bool s.below, .slice AS s.size.length cS]) ∧ NumV W q (.agg #[.bool q.below, .slice AQ q.size.length cQ]) ∧ Tab W ∧ Below w.heap.size w W) := by
          intro W hW
          obtain ⟨⟨r0, r1, r2, r3⟩, nx, ny, tb, bl⟩ := KK.out W (below_st0 bT hW)
          exact ⟨⟨r0, r1, r2, r3, (bS.below hW).cell 0, (bS.below hW).cell 1, (kQ.below hW).cell 0, (kQ.below hW).cell 1⟩, nx, ny, ⟨AS, cS, rfl, mS.below hW, HCS.out⟩, ⟨AQ, cQ, rfl, sQ.below hW, HCQ.out⟩, tb, bl⟩
        obtain ⟨sg0, hsg⟩ : ∃ z, sg x0.z y0.z = z := ⟨_, rfl⟩
        have HSG := Lib.hid hsg
        have ss : (sg0 == sg0) = true := by simp
        have qq : ((Q : Nat) : Int) == ((Q : Nat) : Int) := by simp
        clear hsg bS mS kQ sQ bT
        refine wp_region_held_drew (S := fun w' => w'.cell? ⟨R, 0, none⟩ = some (.bool x0.below) ∧ w'.cell? ⟨R, 1, none⟩ = some (.slice A1 x0.size.length c1) ∧ w'.cell? ⟨R + 1, 0, none⟩ = some (.bool y0.below) ∧ w'.cell? ⟨R + 1, 1, none⟩ = some (.slice A2 y0.size.length c2) ∧ w'.cell? ⟨S, 0, none⟩ = some (.bool s.below) ∧ w'.cell? ⟨S, 1, none⟩ = some (.slice AS s.size.length cS) ∧ w'.cell? ⟨G, 0, none⟩ = some (.bool q.below) ∧ w'.cell? ⟨G, 1, none⟩ = some (.slice AQ q.size.length cQ)) (by kernel_rfl) ?_ (fun hHeld => ?_)
        · (try dsimp only); exact (K8.out _ (Below.drew (Below.refl _ _))).1
        refine wpAnyH_ready (rs := [0]) (by kernel_rfl) (by simp) ?_
        refine AllReadyH.cons rfl (fun K hK => ?_) AllReadyH.nil
        go_simp
        refine (known3 _ (K8.out _ (Below.drew (Below.refl _ _))).2.2.2.2.2.1).mono ?_
        rintro e ww0 ⟨rfl, bb0⟩
        have bb00 := bb0
        have bb0 := Below.trans (Below.drew (Below.refl _ _)) bb0
        have kk0 := K8.out _ bb0
        go_wp2_with fail
        refine hK.out _ _ ?_ (fun hHeld => ?_)
        · (try dsimp only); exact kk0.1
        clear hK K
        try simp only [Act.put, List.setIfInBounds_toArray, List.set_cons_zero, List.set_cons_succ, List.getElem_toArray, List.getElem_cons_succ, List.getElem_cons_zero]
        refine wpAnyH_take (i := 1) (v := ?_) rfl (by kernel_rfl) (by kernel_rfl) (by kernel_rfl) (fun _ _ _ h => h) (Or.inl ⟨by kernel_rfl, ?_⟩) (by assumption) ?_
        rotate_left 1
        · (intro w hSw; (try dsimp only at hSw); go_simp) <;> (try with_reducible rfl)
        try simp only [Act.put, List.setIfInBounds_toArray, List.set_cons_zero, List.set_cons_succ, List.getElem_toArray, List.getElem_cons_succ, List.getElem_cons_zero]
        refine wpAnyH_take (i := 2) (v := ?_) rfl (by kernel_rfl) (by kernel_rfl) (by kernel_rfl) (fun _ _ _ h => h) (Or.inl ⟨by kernel_rfl, ?_⟩) (by assumption) ?_
        rotate_left 1
        · (intro w hSw; (try dsimp only at hSw); go_simp) <;> (try with_reducible rfl)
        try simp only [Act.put, List.setIfInBounds_toArray, List.set_cons_zero, List.set_cons_succ, List.getElem_toArray, List.getElem_cons_succ, List.getElem_cons_zero]
        refine wpAnyH_take (i := 4) (v := ?_) rfl (by kernel_rfl) (by kernel_rfl) (by kernel_rfl) (fun _ _ _ h => h) (Or.inl ⟨by kernel_rfl, ?_⟩) (by assumption) ?_
        rotate_left 1
        · (intro w hSw; (try dsimp only at hSw); go_simp) <;> (try with_reducible rfl)
        try simp only [Act.put, List.setIfInBounds_toArray, List.set_cons_zero, List.set_cons_succ, List.getElem_toArray, List.getElem_cons_succ, List.getElem_cons_zero]
        refine wpAnyH_take (i := 7) (v := ?_) rfl (by kernel_rfl) (by kernel_rfl) (by kernel_rfl) (fun _ _ _ h => h) (Or.inl ⟨by kernel_rfl, ?_⟩) (by assumption) ?_
        rotate_left 1
        · (intro w hSw; (try dsimp only at hSw); go_simp) <;> (try with_reducible rfl)
        try simp only [Act.put, List.setIfInBounds_toArray, List.set_cons_zero, List.set_cons_succ, List.getElem_toArray, List.getElem_cons_succ, List.getElem_cons_zero]
        refine wpAnyH_take (i := 8) (v := ?_) rfl (by kernel_rfl) (by kernel_rfl) (by kernel_rfl) (fun _ _ _ h => h) (Or.inl ⟨by kernel_rfl, ?_⟩) (by assumption) ?_
        rotate_left 1
        · (intro w hSw; (try dsimp only at hSw); go_simp) <;> (try with_reducible rfl)
        try simp only [Act.put, List.setIfInBounds_toArray, List.set_cons_zero, List.set_cons_succ, List.getElem_toArray, List.getElem_cons_succ, List.getElem_cons_zero]
        refine wpAnyH_ready (rs := [3]) (by kernel_rfl) (by simp) ?_
        refine AllReadyH.cons rfl (fun K hK => ?_) AllReadyH.nil
        go_simp
        refine (lwTo x0 _ _ kk0.2.1).mono ?_
        rintro e ww1 ⟨u1, rfl, M1, bb1⟩
        have bb10 := bb1
        have bb1 := bb0.trans (Below.mono bb1 bb0.size)
        have kk1 := K8.out _ bb1
        go_wp2_with fail
        refine hK.out _ _ ?_ (fun hHeld => ?_)
        · (try dsimp only); exact kk1.1
        clear hK K
        try simp only [Act.put, List.setIfInBounds_toArray, List.set_cons_zero, List.set_cons_succ, List.getElem_toArray, List.getElem_cons_succ, List.getElem_cons_zero]
        refine wpAnyH_ready (rs := [5]) (by kernel_rfl) (by simp) ?_
        refine AllReadyH.cons rfl (fun K hK => ?_) AllReadyH.nil
        go_simp
        refine (lwTo y0 _ _ kk1.2.2.1).mono ?_
        rintro e ww2 ⟨u2, rfl, M2, bb2⟩
        have bb20 := bb2
        have bb2 := bb1.trans (Below.mono bb2 bb1.size)
        have kk2 := K8.out _ bb2
        have M1 := M1.frame bb20
        go_wp2_with fail
        refine hK.out _ _ ?_ (fun hHeld => ?_)
        · (try dsimp only); exact kk2.1
        clear hK K
        try simp only [Act.put, List.setIfInBounds_toArray, List.set_cons_zero, List.set_cons_succ, List.getElem_toArray, List.getElem_cons_succ, List.getElem_cons_zero]
        refine wpAnyH_ready (rs := [6]) (by kernel_rfl) (by simp) ?_
        refine AllReadyH.cons rfl (fun K hK => ?_) AllReadyH.nil
        go_simp
        refine (whCompare x0 y0 _ _ _ M1 M2 (by omega) (by omega)).mono ?_
        rw [HSG.out]
        rintro e ww3 ⟨rfl, bb3⟩
        have bb30 := bb3
        have bb3 := bb2.trans (Below.mono bb3 bb2.size)
        have kk3 := K8.out _ bb3
        go_wp2_with fail
        refine hK.out _ _ ?_ (fun hHeld => ?_)
        · (try dsimp only); exact kk3.1
        clear hK K
        try simp only [Act.put, List.setIfInBounds_toArray, List.set_cons_zero, List.set_cons_succ, List.getElem_toArray, List.getElem_cons_succ, List.getElem_cons_zero]
        refine wpAnyH_ready (rs := [9]) (by kernel_rfl) (by simp) ?_
        refine AllReadyH.cons rfl (fun K hK => ?_) AllReadyH.nil
        go_simp
        refine (ref3Compare x0 y0 _ _ _ kk3.2.1 kk3.2.2.1 (by omega) (by omega)).mono ?_
        rw [HSG.out]
        rintro e ww4 ⟨rfl, bb4⟩
        have bb40 := bb4
        have bb4 := bb3.trans (Below.mono bb4 bb3.size)
        have kk4 := K8.out _ bb4
        go_wp2_with fail
        refine hK.out _ _ ?_ (fun hHeld => ?_)
        · (try dsimp only); exact kk4.1
        clear hK K
        try simp only [Act.put, List.setIfInBounds_toArray, List.set_cons_zero, List.set_cons_succ, List.getElem_toArray, List.getElem_cons_succ, List.getElem_cons_zero]
        refine wpAnyH_take (i := 10) (v := ?_) rfl (by kernel_rfl) (by kernel_rfl) (by kernel_rfl) (fun _ _ _ h => h) (Or.inl ⟨by kernel_rfl, ?_⟩) (by assumption) ?_
        rotate_left 1
        · (intro w hSw; (try dsimp only at hSw); go_simp) <;> (try with_reducible rfl)
        try simp only [Act.put, List.setIfInBounds_toArray, List.set_cons_zero, List.set_cons_succ, List.getElem_toArray, List.getElem_cons_succ, List.getElem_cons_zero]
        refine wpAnyH_take (i := 11) (v := ?_) rfl (by kernel_rfl) (by kernel_rfl) (by kernel_rfl) (fun _ _ _ h => h) (Or.inl ⟨by kernel_rfl, ?_⟩) (by assumption) ?_
        rotate_left 1
        · (intro w hSw; (try dsimp only at hSw); go_simp) <;> (try with_reducible rfl)
        try simp only [Act.put, List.setIfInBounds_toArray, List.set_cons_zero, List.set_cons_succ, List.getElem_toArray, List.getElem_cons_succ, List.getElem_cons_zero]
        refine wpAnyH_take (i := 12) (v := ?_) rfl (by kernel_rfl) (by kernel_rfl) (by kernel_rfl) (fun _ _ _ h => h) (Or.inl ⟨by kernel_rfl, ?_⟩) (by assumption) ?_
        rotate_left 1
        · (intro w hSw; (try dsimp only at hSw); go_simp) <;> (try with_reducible rfl)
        try simp only [Act.put, List.setIfInBounds_toArray, List.set_cons_zero, List.set_cons_succ, List.getElem_toArray, List.getElem_cons_succ, List.getElem_cons_zero]
        refine wpAnyH_take (i := 13) (v := ?_) rfl (by kernel_rfl) (by kernel_rfl) (by kernel_rfl) (fun _ _ _ h => h) (Or.inl ⟨by kernel_rfl, ?_⟩) (by assumption) ?_
        rotate_left 1
        · (intro w hSw; (try dsimp only at hSw); go_simp) <;> (try with_reducible rfl)
        try simp only [Act.put, List.setIfInBounds_toArray, List.set_cons_zero, List.set_cons_succ, List.getElem_toArray, List.getElem_cons_succ, List.getElem_cons_zero]
        refine wpAnyH_take (i := 15) (v := ?_) rfl (by kernel_rfl) (by kernel_rfl) (by kernel_rfl) (fun _ _ _ h => h) (Or.inl ⟨by kernel_rfl, ?_⟩) (by assumption) ?_
        rotate_left 1
        · (intro w hSw; (try dsimp only at hSw); go_simp) <;> (try with_reducible rfl)
        try simp only [Act.put, List.setIfInBounds_toArray, List.set_cons_zero, List.set_cons_succ, List.getElem_toArray, List.getElem_cons_succ, List.getElem_cons_zero]
        refine wpAnyH_take (i := 16) (v := ?_) rfl (by kernel_rfl) (by kernel_rfl) (by kernel_rfl) (fun _ _ _ h => h) (Or.inl ⟨by kernel_rfl, ?_⟩) (by assumption) ?_
        rotate_left 1
        · (intro w hSw; (try dsimp only at hSw); go_simp) <;> (try with_reducible rfl)
        try simp only [Act.put, List.setIfInBounds_toArray, List.set_cons_zero, List.set_cons_succ, List.getElem_toArray, List.getElem_cons_succ, List.getElem_cons_zero]
        refine wpAnyH_ready (rs := [14]) (by kernel_rfl) (by simp) ?_
        refine AllReadyH.cons rfl (fun K hK => ?_) AllReadyH.nil
        go_simp
        refine (lwOf s _ _ kk4.2.2.2.1).mono ?_
        rintro e ww5 ⟨u5, rfl, M5, bb5⟩
        have bb50 := bb5
        have bb5 := bb4.trans (Below.mono bb5 bb4.size)
        have kk5 := K8.out _ bb5
        go_wp2_with fail
        refine hK.out _ _ ?_ (fun hHeld => ?_)
        · (try dsimp only); exact kk5.1
        clear hK K
        try simp only [Act.put, List.setIfInBounds_toArray, List.set_cons_zero, List.set_cons_succ, List.getElem_toArray, List.getElem_cons_succ, List.getElem_cons_zero]
        refine wpAnyH_ready (rs := [17]) (by kernel_rfl) (by simp) ?_
        refine AllReadyH.cons rfl (fun K hK => ?_) AllReadyH.nil
        go_simp
        refine (ref3Add x0 y0 _ _ _ kk5.2.1 kk5.2.2.1 (by omega) (by omega)).mono ?_
        rintro e ww6 ⟨s6, u6, rfl, M6, _, z6, l6, bb6⟩
        have bb60 := bb6
        have bb6 := bb5.trans (Below.mono bb6 bb5.size)
        have kk6 := K8.out _ bb6
        have M5 := M5.frame bb60
        have Z6 := Lib.hid z6
        clear z6
        go_wp2_with fail
        refine hK.out _ _ ?_ (fun hHeld => ?_)
        · (try dsimp only); exact kk6.1
        clear hK K
        try simp only [Act.put, List.setIfInBounds_toArray, List.set_cons_zero, List.set_cons_succ, List.getElem_toArray, List.getElem_cons_succ, List.getElem_cons_zero]
        refine wpAnyH_ready (rs := [18]) (by kernel_rfl) (by simp) ?_
        refine AllReadyH.cons rfl (fun K hK => ?_) AllReadyH.nil
        go_simp
        refine (ref3Same s s6 _ _ _ M5 M6 (by omega) (by omega)).mono ?_
        rw [decide_eq_true (show s.z = s6.z by rw [ZS.out, Z6.out])]
        rintro e ww7 ⟨rfl, bb7⟩
        have bb70 := bb7
        have bb7 := bb6.trans (Below.mono bb7 bb6.size)
        have kk7 := K8.out _ bb7
        go_wp2_with fail
        refine hK.out _ _ ?_ (fun hHeld => ?_)
        · (try dsimp only); exact kk7.1
        clear hK K
        try simp only [Act.put, List.setIfInBounds_toArray, List.set_cons_zero, List.set_cons_succ, List.getElem_toArray, List.getElem_cons_succ, List.getElem_cons_zero]
        refine wpAnyH_take (i := 19) (v := ?_) rfl (by kernel_rfl) (by kernel_rfl) (by kernel_rfl) (fun _ _ _ h => h) (Or.inl ⟨by kernel_rfl, ?_⟩) (by assumption) ?_
        rotate_left 1
        · (intro w hSw; (try dsimp only at hSw); go_simp) <;> (try with_reducible rfl)
        try simp only [Act.put, List.setIfInBounds_toArray, List.set_cons_zero, List.set_cons_succ, List.getElem_toArray, List.getElem_cons_succ, List.getElem_cons_zero]
        refine wpAnyH_take (i := 20) (v := ?_) rfl (by kernel_rfl) (by kernel_rfl) (by kernel_rfl) (fun _ _ _ h => h) (Or.inl ⟨by kernel_rfl, ?_⟩) (by assumption) ?_
        rotate_left 1
        · (intro w hSw; (try dsimp only at hSw); go_simp) <;> (try with_reducible rfl)
        try simp only [Act.put, List.setIfInBounds_toArray, List.set_cons_zero, List.set_cons_succ, List.getElem_toArray, List.getElem_cons_succ, List.getElem_cons_zero]
        refine wpAnyH_take (i := 21) (v := ?_) rfl (by kernel_rfl) (by kernel_rfl) (by kernel_rfl) (fun _ _ _ h => h) (Or.inl ⟨by kernel_rfl, ?_⟩) (by assumption) ?_
        rotate_left 1
        · (intro w hSw; (try dsimp only at hSw); go_simp) <;> (try with_reducible rfl)
        try simp only [Act.put, List.setIfInBounds_toArray, List.set_cons_zero, List.set_cons_succ, List.getElem_toArray, List.getElem_cons_succ, List.getElem_cons_zero]
        refine wpAnyH_ready (rs := [22]) (by kernel_rfl) (by simp) ?_
        refine AllReadyH.cons rfl (fun K hK => ?_) AllReadyH.nil
        go_simp
        refine (whRight s _ _ kk7.2.2.2.1).mono ?_
        rw [HOS2.out]
        rintro e ww8 ⟨rfl, bb8⟩
        have bb80 := bb8
        have bb8 := bb7.trans (Below.mono bb8 bb7.size)
        have kk8 := K8.out _ bb8
        go_wp2_with fail
        refine hK.out _ _ ?_ (fun hHeld => ?_)
        · (try dsimp only); exact kk8.1
        clear hK K
        try simp only [Act.put, List.setIfInBounds_toArray, List.set_cons_zero, List.set_cons_succ, List.getElem_toArray, List.getElem_cons_succ, List.getElem_cons_zero]
        refine wpAnyH_take (i := 23) (v := ?_) rfl (by kernel_rfl) (by kernel_rfl) (by kernel_rfl) (fun _ _ _ h => h) (Or.inl ⟨by kernel_rfl, ?_⟩) (by assumption) ?_
        rotate_left 1
        · (intro w hSw; (try dsimp only at hSw); go_simp) <;> (try with_reducible rfl)
        try simp only [Act.put, List.setIfInBounds_toArray, List.set_cons_zero, List.set_cons_succ, List.getElem_toArray, List.getElem_cons_succ, List.getElem_cons_zero]
        refine wpAnyH_take (i := 24) (v := ?_) rfl (by kernel_rfl) (by kernel_rfl) (by kernel_rfl) (fun _ _ _ h => h) (Or.inl ⟨by kernel_rfl, ?_⟩) (by assumption) ?_
        rotate_left 1
        · (intro w hSw; (try dsimp only at hSw); go_simp) <;> (try with_reducible rfl)
        try simp only [Act.put, List.setIfInBounds_toArray, List.set_cons_zero, List.set_cons_succ, List.getElem_toArray, List.getElem_cons_succ, List.getElem_cons_zero]
        refine wpAnyH_take (i := 25) (v := ?_) rfl (by kernel_rfl) (by kernel_rfl) (by kernel_rfl) (fun _ _ _ h => h) (Or.inl ⟨by kernel_rfl, ?_⟩) (by assumption) ?_
        rotate_left 1
        · (intro w hSw; (try dsimp only at hSw); go_simp) <;> (try with_reducible rfl)
        try simp only [Act.put, List.setIfInBounds_toArray, List.set_cons_zero, List.set_cons_succ, List.getElem_toArray, List.getElem_cons_succ, List.getElem_cons_zero]
        refine wpAnyH_ready (rs := [26]) (by kernel_rfl) (by simp) ?_
        refine AllReadyH.cons rfl (fun K hK => ?_) AllReadyH.nil
        go_simp
        refine (whRight q _ _ kk8.2.2.2.2.1).mono ?_
        rw [HOQ.out]
        rintro e ww9 ⟨rfl, bb9⟩
        have bb90 := bb9
        have bb9 := bb8.trans (Below.mono bb9 bb8.size)
        have kk9 := K8.out _ bb9
        go_wp2_with fail
        refine hK.out _ _ ?_ (fun hHeld => ?_)
        · (try dsimp only); exact kk9.1
        clear hK K
        try simp only [Act.put, List.setIfInBounds_toArray, List.set_cons_zero, List.set_cons_succ, List.getElem_toArray, List.getElem_cons_succ, List.getElem_cons_zero]
        refine wpAnyH_take (i := 27) (v := ?_) rfl (by kernel_rfl) (by kernel_rfl) (by kernel_rfl) (fun _ _ _ h => h) (Or.inl ⟨by kernel_rfl, ?_⟩) (by assumption) ?_
        rotate_left 1
        · (intro w hSw; (try dsimp only at hSw); go_simp) <;> (try with_reducible rfl)
        try simp only [Act.put, List.setIfInBounds_toArray, List.set_cons_zero, List.set_cons_succ, List.getElem_toArray, List.getElem_cons_succ, List.getElem_cons_zero]
        refine wpAnyH_take (i := 28) (v := ?_) rfl (by kernel_rfl) (by kernel_rfl) (by kernel_rfl) (fun _ _ _ h => h) (Or.inl ⟨by kernel_rfl, ?_⟩) (by assumption) ?_
        rotate_left 1
        · (intro w hSw; (try dsimp only at hSw); go_simp) <;> (try with_reducible rfl)
        try simp only [Act.put, List.setIfInBounds_toArray, List.set_cons_zero, List.set_cons_succ, List.getElem_toArray, List.getElem_cons_succ, List.getElem_cons_zero]
        refine wpAnyH_take (i := 29) (v := ?_) rfl (by kernel_rfl) (by kernel_rfl) (by kernel_rfl) (fun _ _ _ h => h) (Or.inl ⟨by kernel_rfl, ?_⟩) (by assumption) ?_
        rotate_left 1
        · (intro w hSw; (try dsimp only at hSw); go_simp) <;> (try with_reducible rfl)
        try simp only [Act.put, List.setIfInBounds_toArray, List.set_cons_zero, List.set_cons_succ, List.getElem_toArray, List.getElem_cons_succ, List.getElem_cons_zero]
        refine wpAnyH_take (i := 31) (v := ?_) rfl (by kernel_rfl) (by kernel_rfl) (by kernel_rfl) (fun _ _ _ h => h) (Or.inl ⟨by kernel_rfl, ?_⟩) (by assumption) ?_
        rotate_left 1
        · (intro w hSw; (try dsimp only at hSw); go_simp) <;> (try with_reducible rfl)
        try simp only [Act.put, List.setIfInBounds_toArray, List.set_cons_zero, List.set_cons_succ, List.getElem_toArray, List.getElem_cons_succ, List.getElem_cons_zero]
        refine wpAnyH_take (i := 33) (v := ?_) rfl (by kernel_rfl) (by kernel_rfl) (by kernel_rfl) (fun _ _ _ h => h) (Or.inl ⟨by kernel_rfl, ?_⟩) (by assumption) ?_
        rotate_left 1
        · (intro w hSw; (try dsimp only at hSw); go_simp) <;> (try with_reducible rfl)
        try simp only [Act.put, List.setIfInBounds_toArray, List.set_cons_zero, List.set_cons_succ, List.getElem_toArray, List.getElem_cons_succ, List.getElem_cons_zero]
        refine wpAnyH_ready (rs := [30]) (by kernel_rfl) (by simp) ?_
        refine AllReadyH.cons rfl (fun K hK => ?_) AllReadyH.nil
        go_simp
        refine (lwOf q _ _ kk9.2.2.2.2.1).mono ?_
        rintro e ww10 ⟨u10, rfl, M10, bb10⟩
        have bb100 := bb10
        have bb10 := bb9.trans (Below.mono bb10 bb9.size)
        have kk10 := K8.out _ bb10
        go_wp2_with fail
        refine hK.out _ _ ?_ (fun hHeld => ?_)
        · (try dsimp only); exact kk10.1
        clear hK K
        try simp only [Act.put, List.setIfInBounds_toArray, List.set_cons_zero, List.set_cons_succ, List.getElem_toArray, List.getElem_cons_succ, List.getElem_cons_zero]
        refine wpAnyH_ready (rs := [32]) (by kernel_rfl) (by simp) ?_
        refine AllReadyH.cons rfl (fun K hK => ?_) AllReadyH.nil
        go_simp
        refine (ref3Add q x0 _ _ _ M10 kk10.2.1 (by omega) (by omega)).mono ?_
        rintro e ww11 ⟨s11, u11, rfl, M11, _, z11, l11, bb11⟩
        have bb110 := bb11
        have bb11 := bb10.trans (Below.mono bb11 bb10.size)
        have kk11 := K8.out _ bb11
        have Z11 := Lib.hid z11
        clear z11
        go_wp2_with fail
        refine hK.out _ _ ?_ (fun hHeld => ?_)
        · (try dsimp only); exact kk11.1
        clear hK K
        try simp only [Act.put, List.setIfInBounds_toArray, List.set_cons_zero, List.set_cons_succ, List.getElem_toArray, List.getElem_cons_succ, List.getElem_cons_zero]
        refine wpAnyH_ready (rs := [34]) (by kernel_rfl) (by simp) ?_
        refine AllReadyH.cons rfl (fun K hK => ?_) AllReadyH.nil
        go_simp
        refine (ref3Same s11 ⟨false, []⟩ _ _ _ M11 (NumV.mk' false (Bs.nil _ _) (Nat.le_refl 0)) (by omega) (by simp)).mono ?_
        rw [decide_eq_true (show s11.z = (Nm.mk false []).z by rw [Z11.out, ZQ.out, show -x0.z + x0.z = 0 by omega]; rfl)]
        rintro e ww12 ⟨rfl, bb12⟩
        have bb120 := bb12
        have bb12 := bb11.trans (Below.mono bb12 bb11.size)
        have kk12 := K8.out _ bb12
        go_wp2_with fail
        refine hK.out _ _ ?_ (fun hHeld => ?_)
        · (try dsimp only); exact kk12.1
        clear hK K
        try simp only [Act.put, List.setIfInBounds_toArray, List.set_cons_zero, List.set_cons_succ, List.getElem_toArray, List.getElem_cons_succ, List.getElem_cons_zero]
        refine wpAnyH_take (i := 35) (v := ?_) rfl (by kernel_rfl) (by kernel_rfl) (by kernel_rfl) (fun _ _ _ h => h) (Or.inl ⟨by kernel_rfl, ?_⟩) (by assumption) ?_
        rotate_left 1
        · (intro w hSw; (try dsimp only at hSw); go_simp) <;> (try with_reducible rfl)
        try simp only [Act.put, List.setIfInBounds_toArray, List.set_cons_zero, List.set_cons_succ, List.getElem_toArray, List.getElem_cons_succ, List.getElem_cons_zero]
        refine wpAnyH_take (i := 36) (v := ?_) rfl (by kernel_rfl) (by kernel_rfl) (by kernel_rfl) (fun _ _ _ h => h) (Or.inl ⟨by kernel_rfl, ?_⟩) (by assumption) ?_
        rotate_left 1
        · (intro w hSw; (try dsimp only at hSw); go_simp) <;> (try with_reducible rfl)
        try simp only [Act.put, List.setIfInBounds_toArray, List.set_cons_zero, List.set_cons_succ, List.getElem_toArray, List.getElem_cons_succ, List.getElem_cons_zero]
        refine wpAnyH_take (i := 37) (v := ?_) rfl (by kernel_rfl) (by kernel_rfl) (by kernel_rfl) (fun _ _ _ h => h) (Or.inl ⟨by kernel_rfl, ?_⟩) (by assumption) ?_
        rotate_left 1
        · (intro w hSw; (try dsimp only at hSw); go_simp) <;> (try with_reducible rfl)
        try simp only [Act.put, List.setIfInBounds_toArray, List.set_cons_zero, List.set_cons_succ, List.getElem_toArray, List.getElem_cons_succ, List.getElem_cons_zero]
        refine wpAnyH_take (i := 40) (v := ?_) rfl (by kernel_rfl) (by kernel_rfl) (by kernel_rfl) (fun _ _ _ h => h) (Or.inl ⟨by kernel_rfl, ?_⟩) (by assumption) ?_
        rotate_left 1
        · (intro w hSw; (try dsimp only at hSw); go_simp) <;> (try with_reducible rfl)
        try simp only [Act.put, List.setIfInBounds_toArray, List.set_cons_zero, List.set_cons_succ, List.getElem_toArray, List.getElem_cons_succ, List.getElem_cons_zero]
        refine wpAnyH_ready (rs := [38]) (by kernel_rfl) (by simp) ?_
        refine AllReadyH.cons rfl (fun K hK => ?_) AllReadyH.nil
        go_simp
        refine (lwTo x0 _ _ kk12.2.1).mono ?_
        rintro e ww13 ⟨u13, rfl, M13, bb13⟩
        have bb130 := bb13
        have bb13 := bb12.trans (Below.mono bb13 bb12.size)
        have kk13 := K8.out _ bb13
        go_wp2_with fail
        refine hK.out _ _ ?_ (fun hHeld => ?_)
        · (try dsimp only); exact kk13.1
        clear hK K
        try simp only [Act.put, List.setIfInBounds_toArray, List.set_cons_zero, List.set_cons_succ, List.getElem_toArray, List.getElem_cons_succ, List.getElem_cons_zero]
        refine wpAnyH_ready (rs := [39]) (by kernel_rfl) (by simp) ?_
        refine AllReadyH.cons rfl (fun K hK => ?_) AllReadyH.nil
        go_simp
        refine (whBits x0 _ _ M13 (by omega)).mono ?_
        rw [hbz.out]
        rintro e ww14 ⟨rfl, bb14⟩
        have bb140 := bb14
        have bb14 := bb13.trans (Below.mono bb14 bb13.size)
        have kk14 := K8.out _ bb14
        go_wp2_with fail
        refine hK.out _ _ ?_ (fun hHeld => ?_)
        · (try dsimp only); exact kk14.1
        clear hK K
        try simp only [Act.put, List.setIfInBounds_toArray, List.set_cons_zero, List.set_cons_succ, List.getElem_toArray, List.getElem_cons_succ, List.getElem_cons_zero]
        refine wpAnyH_take (i := 41) (v := ?_) rfl (by kernel_rfl) (by kernel_rfl) (by kernel_rfl) (fun _ _ _ h => h) (Or.inl ⟨by kernel_rfl, ?_⟩) (by assumption) ?_
        rotate_left 1
        · (intro w hSw; (try dsimp only at hSw); go_simp) <;> (try with_reducible rfl)
        try simp only [Act.put, List.setIfInBounds_toArray, List.set_cons_zero, List.set_cons_succ, List.getElem_toArray, List.getElem_cons_succ, List.getElem_cons_zero]
        refine wpAnyH_take (i := 42) (v := ?_) rfl (by kernel_rfl) (by kernel_rfl) (by kernel_rfl) (fun _ _ _ h => h) (Or.inl ⟨by kernel_rfl, ?_⟩) (by assumption) ?_
        rotate_left 1
        · (intro w hSw; (try dsimp only at hSw); go_simp) <;> (try with_reducible rfl)
        try simp only [Act.put, List.setIfInBounds_toArray, List.set_cons_zero, List.set_cons_succ, List.getElem_toArray, List.getElem_cons_succ, List.getElem_cons_zero]
        refine wpAnyH_take (i := 43) (v := ?_) rfl (by kernel_rfl) (by kernel_rfl) (by kernel_rfl) (fun _ _ _ h => h) (Or.inl ⟨by kernel_rfl, ?_⟩) (by assumption) ?_
        rotate_left 1
        · (intro w hSw; (try dsimp only at hSw); go_simp) <;> (try with_reducible rfl)
        try simp only [Act.put, List.setIfInBounds_toArray, List.set_cons_zero, List.set_cons_succ, List.getElem_toArray, List.getElem_cons_succ, List.getElem_cons_zero]
        refine wpAnyH_done (by kernel_rfl) ?_ _
        go_wp2
        go_ret
        exact ⟨rfl, kk14.2.2.2.2.2.2⟩

theorem lawSums (xa xb : Bool) (A B : Option Addr) (na nb ca cb : Nat) (la lb : List UInt8) (w : World) (ha : Bs w A na la) (hb : Bs w B nb lb) (h1 : na ≤ ca) (h2 : nb ≤ cb) (ht : Tab w) :
    Calls Tryd.prog 5 #[.agg #[.bool xa, .slice A na ca], .agg #[.bool xb, .slice B nb cb]] w fun e w' => e = .returned (.bool true) ∧ Below w.heap.size w w' :=
  lawSums1 ⟨xa, la⟩ ⟨xb, lb⟩ _ _ w ht (NumV.mk' xa ha h1) (NumV.mk' xb hb h2)

end Go.Proofs.YtbjiknfebocepaaDoor
