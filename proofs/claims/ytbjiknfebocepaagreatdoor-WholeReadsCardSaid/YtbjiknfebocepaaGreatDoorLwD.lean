/-
  The law WholeReads.
-/
import Derived.Test.YtbjiknfebocepaaGreatDoorZb
import Derived.Test.YtbjiknfebocepaaGreatDoorKn3
import Derived.Test.YtbjiknfebocepaaGreatDoorR3d
import Derived.Test.YtbjiknfebocepaaGreatDoorR3e
namespace Go.Proofs.YtbjiknfebocepaaGreatDoor
open Go.RowKit Go.Joins
set_option linter.unusedVariables false
set_option linter.unusedSimpArgs false
set_option maxRecDepth 4000

theorem tgW_right (n : Int) : (tgW n).rightB = (decide (0 ≤ n) && decide (n < 2097152)) := by
  unfold tgW Tg.rightB
  rfl

set_option maxHeartbeats 12800000 in
theorem lawReads1 (A : Option Addr) (n0 n c : Nat) (l : List UInt8) (num : Int) (w : World) (ht : Tab w) (hb : Bs w A n l) (hnl : n ≤ 300) (hk0 : Hid ((if (300 : Int) < (n0 : Int) then (300 : Int) else (n0 : Int)) = (n : Int))) (hnd : Hid (n0 ≤ c)) (hncH : Hid (n ≤ c)) :
    Calls Tryz.prog 3 #[.slice A n0 c, .int .i64 num] w fun e w' => e = .returned (.bool true) ∧ Below w.heap.size w w' := by
  have hln := hb.len
  have HL : l.length ≤ 300 := by omega
  have kd : (if (300 : Int) < (n0 : Int) then (300 : Int) else (n0 : Int)) ≤ (c : Int) := by have := hnd.out; split <;> omega
  have kd1 : min (n0 : Int) 300 ≤ (c : Int) := by have := hnd.out; omega
  have hkm : min (n0 : Int) 300 = (n : Int) := by have h1 := hk0.out; split at h1 <;> omega
  have HKM := Lib.hid hkm
  clear hkm hln
  go_enter Tryz.func3, Tryz.ntmps3
  go_upto_region 2 with (fail)
  simp only [hk0.out, HKM.out, Int.toNat_natCast]
  clear kd kd1
  go_wp2_with fail
  refine (octNew A n c l w hb (by omega)).mono ?_
  rintro e w1 ⟨g1, s1, rfl, hg1, hc1, b1⟩
  go_wp2_with fail
  refine (octNew A n c l w1 (hb.below b1) (by omega)).mono ?_
  rintro e w2 ⟨g2, s2, rfl, hg2, hd2, b2⟩
  have hc2 := hc1.below b2
  have bW2 := below_st3 b1 b2
  have hgg : g1 < g2 := by have := hc1.lt; omega
  have hg2w : w.heap.size ≤ g2 := by have := b1.size; omega
  clear hc1 b1 b2 hg2
  go_upto_region 3 with (fail)
  go_wp2_with fail
  refine (whReadT g1 0 l w2 hc2 (by omega)).mono ?_
  rintro e w3 ⟨o3, hc3, x, ⟨A3, c3, rfl, s3, hcc⟩, ok3, z3, l3⟩
  have bW3 := Only.below o3 bW2 hg1 bW2.size
  have hd3 := hd2.only o3 (by omega) hc2.noByte
  have HC3 := Lib.hid hcc
  have ZX := Lib.hid z3
  clear hcc z3 ok3 bW2 hc2 hd2 o3
  have bx := below_alloc1 w3 (.cells #[.bool x.below, .slice A3 x.size.length c3] 26)
  have kX := Blk.new2 w3 (.bool x.below) (.slice A3 x.size.length c3) 26
  have s4 := s3.below bx
  have hc4 := hc3.below bx
  have hd4 := hd3.below bx
  have bW4 := below_st3 bW3 bx
  clear bx s3 hc3 hd3 bW3
  generalize hT2 : rOpen l 0 (tgW 2) = T2 at *
  have HT2 := Lib.hid hT2
  clear hT2
  obtain ⟨q, hq⟩ : ∃ q, rdE T2 = q := ⟨_, rfl⟩
  obtain ⟨kk, hkk⟩ : ∃ kk, rdK 0 T2 = kk := ⟨_, rfl⟩
  rw [hq]
  rw [hkk] at hc4
  have HQ := Lib.hid hq
  have HKK := Lib.hid hkk
  clear hq hkk
  go_upto_region 4 with (fail)
  generalize (w3.alloc (Obj.cells #[.bool x.below, .slice A3 x.size.length c3] 26)) = W4 at *
  generalize w3.heap.size = X at *
  have RO : Hid (∀ W, Calls Tryz.prog 8 #[.int .i64 2] W fun e w' => e = .returned (tgW 2).v ∧ Below W.heap.size W w') := fun W => refOf 2 W
  go_wp2_with fail
  refine (RO.out W4).mono ?_
  rintro e w5 ⟨rfl, b5⟩
  have bW5 := below_st3 bW4 b5
  have RD := ref3Read A n c l (tgW 2) w5 (hb.below bW5) hncH.out (by omega)
  rw [HT2.out] at RD
  unfold RdR at RD
  rw [HQ.out, HKK.out] at RD
  have RD := Lib.hid RD
  go_wp2_with fail
  refine RD.out.mono ?_
  rintro e w6 ⟨y, A5, c5, rfl, s5, hcc5, ok5, z5, l5, b6⟩
  have HC5 := Lib.hid hcc5
  have HXY : Hid (x.z = y.z) := by unfold Hid; rw [ZX.out, z5]
  have b56 := below_st3 b5 b6
  clear RO RD b5 bW5 hcc5 ok5 z5
  have bx := below_st3 b56 (below_alloc1 w6 (.cells #[.bool y.below, .slice A5 y.size.length c5] 30))
  have kY := Blk.new2 w6 (.bool y.below) (.slice A5 y.size.length c5) 30
  have s6 := s5.below (below_alloc1 w6 (.cells #[.bool y.below, .slice A5 y.size.length c5] 30))
  have s4 := s4.below bx
  have kX := kX.below bx
  have hc6 := hc4.below bx
  have hd6 := hd4.below bx
  have bW6 := below_st3 bW4 bx
  clear bx b56 b6 s5 hc4 hd4 bW4
  go_upto_region 5 with (fail)
  generalize (w6.alloc (Obj.cells #[.bool y.below, .slice A5 y.size.length c5] 30)) = W5 at *
  generalize w6.heap.size = Y at *
  have K5 : Hid (∀ W, Below W5.heap.size W5 W → (W.cell? ⟨X, 0, none⟩ = some (.bool x.below) ∧ W.cell? ⟨X, 1, none⟩ = some (.slice A3 x.size.length c3) ∧ W.cell? ⟨Y, 0, none⟩ = some (.bool y.below) ∧ W.cell? ⟨Y, 1, none⟩ = some (.slice A5 y.size.length c5)) ∧ NumV W x (.agg #[.bool x.below, .slice A3 x.size.length c3]) ∧ NumV W y (.agg #[.bool y.below, .slice A5 y.size.length c5]) ∧ Cur W g1 s1 l kk ∧ Tab W ∧ Cur W g2 s2 l 0 ∧ Below w.heap.size w W) :=
    fun W hW => ⟨⟨(kX.below hW).cell 0, (kX.below hW).cell 1, (kY.below hW).cell 0, (kY.below hW).cell 1⟩, ⟨A3, c3, rfl, s4.below hW, HC3.out⟩, ⟨A5, c5, rfl, s6.below hW, HC5.out⟩, hc6.below hW, (ht.below bW6).below hW, hd6.below hW, below_st3 bW6 hW⟩
  have qq : (q == q) = true := by simp
  have qn : (q != q) = false := by simp
  have q1 : ((kk : Int) == (kk : Int)) = true := by simp
  have q2 : ((kk : Int) != (kk : Int)) = false := by simp
  clear kX kY s4 s6 hc6 hd6 bW6
  go_cut [59] from 40 (fun v59 wc => v59 = .bool false ∧ Below W5.heap.size W5 wc)
  case first =>
    refine wp_region_held_drew (S := fun w' => w'.cell? ⟨X, 0, none⟩ = some (.bool x.below) ∧ w'.cell? ⟨X, 1, none⟩ = some (.slice A3 x.size.length c3) ∧ w'.cell? ⟨Y, 0, none⟩ = some (.bool y.below) ∧ w'.cell? ⟨Y, 1, none⟩ = some (.slice A5 y.size.length c5)) (by kernel_rfl) ?_ (fun hHeld => ?_)
    · (try dsimp only); exact (K5.out _ (Below.drew (Below.refl _ _))).1
    refine wpAnyH_ready (rs := [0]) (by kernel_rfl) (by simp) ?_
    refine AllReadyH.cons rfl (fun K hK => ?_) AllReadyH.nil
    go_simp
    refine (known3 _ (K5.out _ (Below.drew (Below.refl _ _))).2.2.2.2.1).mono ?_
    rintro e ww0 ⟨rfl, bb0⟩
    have bb0 := Below.trans (Below.drew (Below.refl _ _)) bb0
    have kk0 := K5.out _ bb0
    go_wp2_with fail
    refine hK.out _ _ ?_ (fun hHeld => ?_)
    · (try dsimp only); exact kk0.1
    clear hK K
    try simp only [Act.put, List.setIfInBounds_toArray, List.set_cons_zero, List.set_cons_succ, List.getElem_toArray, List.getElem_cons_succ, List.getElem_cons_zero]
    refine wpAnyH_take (i := 1) (v := ?_) rfl (by kernel_rfl) (by kernel_rfl) (by kernel_rfl) (fun _ _ _ h => h) (Or.inl ⟨by kernel_rfl, ?_⟩) (by assumption) ?_
    rotate_left 1
    · (intro w hSw; (try dsimp only at hSw); go_simp) <;> (try with_reducible rfl)
    try simp only [Act.put, List.setIfInBounds_toArray, List.set_cons_zero, List.set_cons_succ, List.getElem_toArray, List.getElem_cons_succ, List.getElem_cons_zero]
    refine wpAnyH_take (i := 2) (v := ?_) rfl (by kernel_rfl) (by kernel_rfl) (by kernel_rfl) (fun _ _ _ h => h) (Or.inl ⟨by kernel_rfl, ?_⟩) (by assumption) ?_
    rotate_left 1
    · (intro w hSw; (try dsimp only at hSw); go_simp) <;> (try with_reducible rfl)
    try simp only [Act.put, List.setIfInBounds_toArray, List.set_cons_zero, List.set_cons_succ, List.getElem_toArray, List.getElem_cons_succ, List.getElem_cons_zero]
    refine wpAnyH_take (i := 3) (v := ?_) rfl (by kernel_rfl) (by kernel_rfl) (by kernel_rfl) (fun _ _ _ h => h) (Or.inl ⟨by kernel_rfl, ?_⟩) (by assumption) ?_
    rotate_left 1
    · (intro w hSw; (try dsimp only at hSw); go_simp) <;> (try with_reducible rfl)
    try simp only [Act.put, List.setIfInBounds_toArray, List.set_cons_zero, List.set_cons_succ, List.getElem_toArray, List.getElem_cons_succ, List.getElem_cons_zero]
    refine wpAnyH_take (i := 4) (v := ?_) rfl (by kernel_rfl) (by kernel_rfl) (by kernel_rfl) (fun _ _ _ h => h) (Or.inl ⟨by kernel_rfl, ?_⟩) (by assumption) ?_
    rotate_left 1
    · (intro w hSw; (try dsimp only at hSw); go_simp) <;> (try with_reducible rfl)
    try simp only [Act.put, List.setIfInBounds_toArray, List.set_cons_zero, List.set_cons_succ, List.getElem_toArray, List.getElem_cons_succ, List.getElem_cons_zero]
    refine wpAnyH_take (i := 5) (v := ?_) rfl (by kernel_rfl) (by kernel_rfl) (by kernel_rfl) (fun _ _ _ h => h) (Or.inl ⟨by kernel_rfl, ?_⟩) (by assumption) ?_
    rotate_left 1
    · (intro w hSw; (try dsimp only at hSw); go_simp) <;> (try with_reducible rfl)
    try simp only [Act.put, List.setIfInBounds_toArray, List.set_cons_zero, List.set_cons_succ, List.getElem_toArray, List.getElem_cons_succ, List.getElem_cons_zero]
    refine wpAnyH_take (i := 6) (v := ?_) rfl (by kernel_rfl) (by kernel_rfl) (by kernel_rfl) (fun _ _ _ h => h) (Or.inl ⟨by kernel_rfl, ?_⟩) (by assumption) ?_
    rotate_left 1
    · (intro w hSw; (try dsimp only at hSw); go_simp) <;> (try with_reducible rfl)
    try simp only [Act.put, List.setIfInBounds_toArray, List.set_cons_zero, List.set_cons_succ, List.getElem_toArray, List.getElem_cons_succ, List.getElem_cons_zero]
    refine wpAnyH_take (i := 7) (v := ?_) rfl (by kernel_rfl) (by kernel_rfl) (by kernel_rfl) (fun _ _ _ h => h) (Or.inl ⟨by kernel_rfl, ?_⟩) (by assumption) ?_
    rotate_left 1
    · (intro w hSw; (try dsimp only at hSw); go_simp) <;> (try with_reducible rfl)
    try simp only [Act.put, List.setIfInBounds_toArray, List.set_cons_zero, List.set_cons_succ, List.getElem_toArray, List.getElem_cons_succ, List.getElem_cons_zero]
    refine wpAnyH_take (i := 8) (v := ?_) rfl (by kernel_rfl) (by kernel_rfl) (by kernel_rfl) (fun _ _ _ h => h) (Or.inl ⟨by kernel_rfl, ?_⟩) (by assumption) ?_
    rotate_left 1
    · (intro w hSw; (try dsimp only at hSw); go_simp) <;> (try with_reducible rfl)
    try simp only [Act.put, List.setIfInBounds_toArray, List.set_cons_zero, List.set_cons_succ, List.getElem_toArray, List.getElem_cons_succ, List.getElem_cons_zero]
    refine wpAnyH_take (i := 10) (v := ?_) rfl (by kernel_rfl) (by kernel_rfl) (by kernel_rfl) (fun _ _ _ h => h) (Or.inl ⟨by kernel_rfl, ?_⟩) (by assumption) ?_
    rotate_left 1
    · (intro w hSw; (try dsimp only at hSw); go_simp) <;> (try with_reducible rfl)
    try simp only [Act.put, List.setIfInBounds_toArray, List.set_cons_zero, List.set_cons_succ, List.getElem_toArray, List.getElem_cons_succ, List.getElem_cons_zero]
    refine wpAnyH_ready (rs := [9]) (by kernel_rfl) (by simp) ?_
    refine AllReadyH.cons rfl (fun K hK => ?_) AllReadyH.nil
    go_simp
    refine (lwOf x _ _ kk0.2.1).mono ?_
    rintro e ww1 ⟨u1, rfl, M1, bb1⟩
    have bb1 := bb0.trans (Below.mono bb1 bb0.size)
    have kk1 := K5.out _ bb1
    go_wp2_with fail
    refine hK.out _ _ ?_ (fun hHeld => ?_)
    · (try dsimp only); exact kk1.1
    clear hK K
    try simp only [Act.put, List.setIfInBounds_toArray, List.set_cons_zero, List.set_cons_succ, List.getElem_toArray, List.getElem_cons_succ, List.getElem_cons_zero]
    refine wpAnyH_ready (rs := [11]) (by kernel_rfl) (by simp) ?_
    refine AllReadyH.cons rfl (fun K hK => ?_) AllReadyH.nil
    go_simp
    refine (ref3Same x y _ _ _ M1 kk1.2.2.1 (by omega) (by omega)).mono ?_
    rw [decide_eq_true HXY.out]
    rintro e ww2 ⟨rfl, bb2⟩
    have bb2 := bb1.trans (Below.mono bb2 bb1.size)
    have kk2 := K5.out _ bb2
    go_wp2_with fail
    refine hK.out _ _ ?_ (fun hHeld => ?_)
    · (try dsimp only); exact kk2.1
    clear hK K
    try simp only [Act.put, List.setIfInBounds_toArray, List.set_cons_zero, List.set_cons_succ, List.getElem_toArray, List.getElem_cons_succ, List.getElem_cons_zero]
    refine wpAnyH_take (i := 12) (v := ?_) rfl (by kernel_rfl) (by kernel_rfl) (by kernel_rfl) (fun _ _ _ h => h) (Or.inl ⟨by kernel_rfl, ?_⟩) (by assumption) ?_
    rotate_left 1
    · (intro w hSw; (try dsimp only at hSw); go_simp) <;> (try with_reducible rfl)
    try simp only [Act.put, List.setIfInBounds_toArray, List.set_cons_zero, List.set_cons_succ, List.getElem_toArray, List.getElem_cons_succ, List.getElem_cons_zero]
    refine wpAnyH_take (i := 13) (v := ?_) rfl (by kernel_rfl) (by kernel_rfl) (by kernel_rfl) (fun _ _ _ h => h) (Or.inl ⟨by kernel_rfl, ?_⟩) (by assumption) ?_
    rotate_left 1
    · (intro w hSw; (try dsimp only at hSw); go_simp) <;> (try with_reducible rfl)
    try simp only [Act.put, List.setIfInBounds_toArray, List.set_cons_zero, List.set_cons_succ, List.getElem_toArray, List.getElem_cons_succ, List.getElem_cons_zero]
    refine wpAnyH_take (i := 14) (v := ?_) rfl (by kernel_rfl) (by kernel_rfl) (by kernel_rfl) (fun _ _ _ h => h) (Or.inl ⟨by kernel_rfl, ?_⟩) (by assumption) ?_
    rotate_left 1
    · (intro w hSw; (try dsimp only at hSw); go_simp) <;> (try with_reducible rfl)
    try simp only [Act.put, List.setIfInBounds_toArray, List.set_cons_zero, List.set_cons_succ, List.getElem_toArray, List.getElem_cons_succ, List.getElem_cons_zero]
    refine wpAnyH_take (i := 15) (v := ?_) rfl (by kernel_rfl) (by kernel_rfl) (by kernel_rfl) (fun _ _ _ h => h) (Or.inl ⟨by kernel_rfl, ?_⟩) (by assumption) ?_
    rotate_left 1
    · (intro w hSw; (try dsimp only at hSw); go_simp) <;> (try with_reducible rfl)
    try simp only [Act.put, List.setIfInBounds_toArray, List.set_cons_zero, List.set_cons_succ, List.getElem_toArray, List.getElem_cons_succ, List.getElem_cons_zero]
    refine wpAnyH_take (i := 17) (v := ?_) rfl (by kernel_rfl) (by kernel_rfl) (by kernel_rfl) (fun _ _ _ h => h) (Or.inl ⟨by kernel_rfl, ?_⟩) (by assumption) ?_
    rotate_left 1
    · (intro w hSw; (try dsimp only at hSw); go_simp) <;> (try with_reducible rfl)
    try simp only [Act.put, List.setIfInBounds_toArray, List.set_cons_zero, List.set_cons_succ, List.getElem_toArray, List.getElem_cons_succ, List.getElem_cons_zero]
    refine wpAnyH_ready (rs := [16]) (by kernel_rfl) (by simp) ?_
    refine AllReadyH.cons rfl (fun K hK => ?_) AllReadyH.nil
    go_simp
    refine (curAt g1 kk l _ kk2.2.2.2.1).mono ?_
    rintro e ww3 ⟨rfl, bb3⟩
    have bb3 : Below ww2.heap.size ww2 ww3 := bb3 ▸ Below.refl _ _
    have bb3 := bb2.trans (Below.mono bb3 bb2.size)
    have kk3 := K5.out _ bb3
    go_wp2_with fail
    refine hK.out _ _ ?_ (fun hHeld => ?_)
    · (try dsimp only); exact kk3.1
    clear hK K
    try simp only [Act.put, List.setIfInBounds_toArray, List.set_cons_zero, List.set_cons_succ, List.getElem_toArray, List.getElem_cons_succ, List.getElem_cons_zero]
    refine wpAnyH_take (i := 18) (v := ?_) rfl (by kernel_rfl) (by kernel_rfl) (by kernel_rfl) (fun _ _ _ h => h) (Or.inl ⟨by kernel_rfl, ?_⟩) (by assumption) ?_
    rotate_left 1
    · (intro w hSw; (try dsimp only at hSw); go_simp) <;> (try with_reducible rfl)
    try simp only [Act.put, List.setIfInBounds_toArray, List.set_cons_zero, List.set_cons_succ, List.getElem_toArray, List.getElem_cons_succ, List.getElem_cons_zero]
    refine wpAnyH_take (i := 19) (v := ?_) rfl (by kernel_rfl) (by kernel_rfl) (by kernel_rfl) (fun _ _ _ h => h) (Or.inl ⟨by kernel_rfl, ?_⟩) (by assumption) ?_
    rotate_left 1
    · (intro w hSw; (try dsimp only at hSw); go_simp) <;> (try with_reducible rfl)
    try simp only [Act.put, List.setIfInBounds_toArray, List.set_cons_zero, List.set_cons_succ, List.getElem_toArray, List.getElem_cons_succ, List.getElem_cons_zero]
    refine wpAnyH_done (by kernel_rfl) ?_ _
    go_wp2_with fail
    go_meet
    exact ⟨rfl, bb3⟩
  case rest =>
    obtain ⟨rfl, b7⟩ := hcut
    obtain ⟨_, _, _, _, _, hd7, bW7⟩ := K5.out _ b7
    clear K5 b7 qq qn q1 q2
    rename World => w7
    have RI := whReadInt g2 0 num l w7 hd7 (by omega)
    unfold RiP at RI
    have hRB := tgW_right num
    generalize hT : rOpen l 0 (tgW num) = T at *
    have HT := Lib.hid hT
    clear hT
    generalize (tgW num).rightB = rb at *
    have FE : Hid (riE rb T = if rb = false then 1 else if rdE T = 0 then (if InI (rdZ T) then 0 else 2) else rdE T) := rfl
    have FZ : Hid (riZ rb T = if riE rb T = 0 then rdZ T else 0) := rfl
    have FK : Hid (riK rb 0 T = if riE rb T = 0 then rdK 0 T else 0) := rfl
    generalize riE rb T = ke at *
    generalize riZ rb T = kz at *
    generalize riK rb 0 T = kp at *
    go_wp2_with fail
    refine RI.mono ?_
    rintro e w8 ⟨rfl, hd8, o8⟩
    have bW8 := Only.below o8 bW7 hg2w bW7.size
    clear RI hd7 bW7 o8
    go_upto_region 8 with (fail)
    cases rb with
    | false =>
      have e1 := FE.out
      rw [if_pos rfl] at e1
      subst e1
      have e2 := FZ.out
      rw [if_neg (by decide)] at e2
      subst e2
      have e3 := FK.out
      rw [if_neg (by decide)] at e3
      subst e3
      clear FE FZ FK
      by_cases h0 : num < 0
      · have d0 : decide (num < 0) = true := decide_eq_true h0
        clear hRB
        go_wp2_with fail
        refine (curAt g2 0 l _ hd8).mono ?_
        rintro e wz ⟨rfl, hwz⟩
        subst hwz
        go_wp2
        go_ret
        exact ⟨rfl, bW8⟩
      · have d0 : decide (num < 0) = false := decide_eq_false h0
        have h1 : 2097152 ≤ num := by
          have h2 := hRB
          simp only [Bool.false_eq, Bool.and_eq_false_iff, decide_eq_false_iff_not] at h2
          omega
        have d1 : decide (2097152 ≤ num) = true := decide_eq_true h1
        clear hRB
        go_wp2_with fail
        refine (curAt g2 0 l _ hd8).mono ?_
        rintro e wz ⟨rfl, hwz⟩
        subst hwz
        go_wp2
        go_ret
        exact ⟨rfl, bW8⟩
    | true =>
      have hr : 0 ≤ num ∧ num < 2097152 := by simpa using hRB.symm
      have h0 : ¬ num < 0 := by omega
      have h1 : ¬ 2097152 ≤ num := by omega
      have d0 : decide (num < 0) = false := decide_eq_false h0
      have d1 : decide (2097152 ≤ num) = false := decide_eq_false h1
      clear hRB hr
      rw [if_neg (by simp)] at FE
      have RO : Hid (∀ W, Calls Tryz.prog 8 #[.int .i64 num] W fun e w' => e = .returned (tgW num).v ∧ Below W.heap.size W w') := fun W => refOf num W
      go_wp2_with fail
      refine (RO.out w8).mono ?_
      rintro e w9 ⟨rfl, b9⟩
      have bW9 := below_st3 bW8 b9
      have hd9 := hd8.below b9
      have RD := ref3Read A n c l (tgW num) w9 (hb.below bW9) hncH.out (by omega)
      rw [HT.out] at RD
      unfold RdR at RD
      obtain ⟨h, hh⟩ : ∃ h, rdE T = h := ⟨_, rfl⟩
      obtain ⟨zz, hzz⟩ : ∃ zz, rdZ T = zz := ⟨_, rfl⟩
      obtain ⟨sp, hsp⟩ : ∃ sp, rdK 0 T = sp := ⟨_, rfl⟩
      have FZ0 : Hid (h ≠ 0 → zz = 0) := fun hn => by rw [← hzz]; unfold rdZ; rw [hh]; exact if_neg hn
      rw [hh, hzz, hsp] at RD
      rw [hh, hzz] at FE
      rw [hzz] at FZ
      rw [hsp] at FK
      clear hh hzz hsp
      have RD := Lib.hid RD
      clear RO b9 bW8 hd8
      go_wp2_with fail
      refine RD.out.mono ?_
      rintro e w10 ⟨z, A10, c10, rfl, s10, hcc10, ok10, z10, l10, b10⟩
      have HC10 := Lib.hid hcc10
      have Z10 := Lib.hid z10
      clear RD hcc10 z10 ok10
      have bx := below_st3 b10 (below_alloc1 w10 (.cells #[.bool z.below, .slice A10 z.size.length c10] 30))
      have kZ := Blk.new2 w10 (.bool z.below) (.slice A10 z.size.length c10) 30
      have s11 := s10.below (below_alloc1 w10 (.cells #[.bool z.below, .slice A10 z.size.length c10] 30))
      have hd11 := hd9.below bx
      have bW11 := below_st3 bW9 bx
      clear bx b10 s10 hd9 bW9
      go_upto_region 11 with (fail)
      generalize (w10.alloc (Obj.cells #[.bool z.below, .slice A10 z.size.length c10] 30)) = W11 at *
      generalize w10.heap.size = Zb at *
      obtain ⟨n0', n1', _, _⟩ := blk2 kZ
      go_wp2_with fail
      refine (ref3Int z _ W11 ⟨A10, c10, rfl, s11, HC10.out⟩ (by omega)).mono ?_
      rw [Z10.out]
      rintro e w12 ⟨hy, hno, b12⟩
      have hd12 := hd11.below b12
      have bW12 := below_st3 bW11 b12
      clear hd11 bW11 b12 s11 kZ n0' n1'
      by_cases h0' : h = 0
      · subst h0'
        rw [if_pos rfl] at FE
        by_cases hin : InI zz
        · obtain rfl := hy hin
          have e1 := FE.out
          rw [if_pos hin] at e1
          subst e1
          have e2 := FZ.out
          rw [if_pos rfl] at e2
          subst e2
          have e3 := FK.out
          rw [if_pos rfl] at e3
          subst e3
          have z1 : (kz == kz) = true := by simp
          have z2 : ((kp : Int) == (kp : Int)) = true := by simp
          clear hy hno FE FZ FK FZ0
          go_wp2_with fail
          refine (curAt g2 kp l _ hd12).mono ?_
          rintro e wz ⟨rfl, hwz⟩
          subst hwz
          go_wp2
          go_ret
          exact ⟨rfl, bW12⟩
        · obtain rfl := hno hin
          have e1 := FE.out
          rw [if_neg hin] at e1
          subst e1
          have e2 := FZ.out
          rw [if_neg (by decide)] at e2
          subst e2
          have e3 := FK.out
          rw [if_neg (by decide)] at e3
          subst e3
          clear hy hno FE FZ FK FZ0
          go_wp2_with fail
          refine (curAt g2 0 l _ hd12).mono ?_
          rintro e wz ⟨rfl, hwz⟩
          subst hwz
          go_wp2
          go_ret
          exact ⟨rfl, bW12⟩
      · have hz0 := FZ0.out h0'
        subst hz0
        obtain rfl := hy ⟨by omega, by omega⟩
        have e1 := FE.out
        rw [if_neg h0'] at e1
        subst e1
        have e2 := FZ.out
        rw [if_neg h0'] at e2
        subst e2
        have e3 := FK.out
        rw [if_neg h0'] at e3
        subst e3
        have x1 : (ke != 0) = true := by simpa using h0'
        have x2 : (ke == 0) = false := by simpa using h0'
        have x3 : (ke == ke) = true := by simp
        clear hy hno FE FZ FK FZ0
        go_wp2_with fail
        refine (curAt g2 0 l _ hd12).mono ?_
        rintro e wz ⟨rfl, hwz⟩
        subst hwz
        go_wp2
        go_ret
        exact ⟨rfl, bW12⟩

theorem lawReads (A : Option Addr) (n c : Nat) (l : List UInt8) (num : Int) (w : World) (hb : Bs w A n l) (hc : n ≤ c) (ht : Tab w) :
    Calls Tryz.prog 3 #[.slice A n c, .int .i64 num] w fun e w' => e = .returned (.bool true) ∧ Below w.heap.size w w' :=
  lawReads1 A n (min n 300) c (l.take (min n 300)) num w ht (hb.take (Nat.min_le_left _ _)) (Nat.min_le_right _ _) (show _ = _ by split <;> omega) hc (show _ ≤ _ by omega)

end Go.Proofs.YtbjiknfebocepaaGreatDoor
