/-
  The law WholeContents.
-/
import Derived.Test.YtbjiknfebocepaaDoorKn3
import Derived.Test.YtbjiknfebocepaaDoorR3k
import Derived.Test.YtbjiknfebocepaaDoorR3d
import Derived.Test.YtbjiknfebocepaaDoorR3i
import Derived.Test.YtbjiknfebocepaaDoorJoin
namespace Go.Proofs.YtbjiknfebocepaaDoor
open Go.RowKit Go.Joins
set_option linter.unusedVariables false
set_option linter.unusedSimpArgs false
set_option maxRecDepth 4000

/-- Parse's answer, an error or not. -/
def ParA (l : List UInt8) (w : World) (e : Ending) (w' : World) : Prop :=
  ∃ s A c, e = .returned (.tuple #[.agg #[.bool (Nm.below s), .slice A s.size.length c], .int .i64 (parE l)]) ∧ Bs w' A s.size.length s.size ∧ s.size.length ≤ c ∧ s.ok ∧ s.z = (if parE l = 0 then parZ l else 0) ∧ s.size.length ≤ 80 ∧ Below w.heap.size w w'
theorem ParP.all {l : List UInt8} {w w' : World} {e : Ending} (h : ParP l w e w') : ParA l w e w' := by
  obtain ⟨h1, h2, h3⟩ := h
  by_cases h0 : parE l = 0
  · obtain ⟨s, u, rfl, ⟨A, c, rfl, hs, hc⟩, ho, hz, hl⟩ := h2 h0
    exact ⟨s, A, c, by rw [h0], hs, hc, ho, by rw [if_pos h0]; exact hz, hl, h3⟩
  · exact ⟨⟨false, []⟩, none, 0, h1 h0, Bs.nil _ _, Nat.le_refl _, ⟨Nz.nil, fun _ => rfl⟩, by rw [if_neg h0]; rfl, by simp, h3⟩
/-- Contents' answer, an error or not. -/
theorem ContO.all {w w' : World} {p : Bool} {s : List UInt8} {e : Ending} (h : ContO w p s e w') :
    ∃ A m c q B, e = .returned (.tuple #[.slice A m c, .int .i64 q]) ∧ Bs w' A m B ∧ m ≤ c ∧ ((64 < bitsL s / 8 + 1 ∧ q = 2 ∧ m = 0) ∨ (¬ 64 < bitsL s / 8 + 1 ∧ q = 0 ∧ m = bitsL s / 8 + 1 ∧ B = contB p s)) ∧ Below w.heap.size w w' := by
  obtain ⟨h1, h2, h3⟩ := h
  by_cases h0 : 64 < bitsL s / 8 + 1
  · exact ⟨none, 0, 0, 2, [], h1 h0, Bs.nil _ _, Nat.le_refl _, .inl ⟨h0, rfl, rfl⟩, h3⟩
  · obtain ⟨A, c, rfl, hs, hc⟩ := h2 (by omega)
    exact ⟨A, _, c, 0, _, rfl, hs, hc, .inr ⟨h0, rfl, rfl, rfl⟩, h3⟩

set_option maxHeartbeats 12800000 in
theorem lawContents1 (x xf : Nm) (A B : Option Addr) (na ca k0 k d : Nat) (lb : List UInt8) (ox : Bool) (w : World) (ht : Tab w)
    (hX : NumV w x (.agg #[.bool x.below, .slice A na ca])) (hB : Bs w B k lb) (HF : Hid (x.few = xf)) (lx : xf.size.length ≤ 200) (hk0 : Hid ((if (200 : Int) < (k0 : Int) then (200 : Int) else (k0 : Int)) = (k : Int))) (hkd : Hid (k0 ≤ d)) (hkl : k ≤ 200) (HOK : Hid (xf.okb = ox)) :
    Calls Tryd.prog 3 #[.agg #[.bool x.below, .slice A na ca], .slice B k0 d] w fun e w' => e = .returned (.bool true) ∧ Below w.heap.size w w' := by
  have hdk : Hid (k ≤ d) := by unfold Hid; have h1 := hk0.out; have h2 := hkd.out; split at h1 <;> omega
  have kd : (if (200 : Int) < (k0 : Int) then (200 : Int) else (k0 : Int)) ≤ (d : Int) := by have := hkd.out; split <;> omega
  have kd1 : min (k0 : Int) 200 ≤ (d : Int) := by have := hkd.out; omega
  have KD := Lib.hid kd
  have KD1 := Lib.hid kd1
  clear kd kd1
  have kR := Blk.new2 w (.bool x.below) (.slice A na ca) 24
  have b0 := below_alloc1 w (.cells #[.bool x.below, .slice A na ca] 24)
  go_enter Tryd.func3, Tryd.ntmps3
  go_upto_region 1 with (fail)
  generalize (w.alloc (.cells #[.bool x.below, .slice A na ca] 24)) = W0 at *
  obtain ⟨r0, r1, _, _⟩ := blk2 kR
  go_wp2_with fail
  refine (lwFew x _ W0 (hX.frame b0)).mono ?_
  rintro e w1 ⟨v1, rfl, n1, b1⟩
  rw [HF.out] at n1
  obtain ⟨A1, c1, rfl, s1, hc1⟩ := n1
  have HC1 := Lib.hid hc1
  have kR1 := kR.below b1
  have bW1 := below_st3 b0 b1
  clear r0 r1 kR b0 b1 hc1
  obtain ⟨r0, r1, f0, f1⟩ := blk2 kR1
  have s2 := s1.set2 kR1 (.bool xf.below) (.slice A1 xf.size.length c1)
  have kR2 := blkPut kR1 (.bool xf.below) (.slice A1 xf.size.length c1)
  have bW2 := below_set2 bW1 bW1.size (Nat.le_refl _) (.bool xf.below) (.slice A1 xf.size.length c1)
  go_upto_region 2 with (fail)
  generalize ((w1.setCell ⟨w.heap.size, 0, none⟩ (.bool xf.below)).setCell ⟨w.heap.size, 1, none⟩ (.slice A1 xf.size.length c1)) = W2 at *
  have KA : Hid (∀ W, Below W2.heap.size W2 W → (W.cell? ⟨w.heap.size, 0, none⟩ = some (.bool xf.below) ∧ W.cell? ⟨w.heap.size, 1, none⟩ = some (.slice A1 xf.size.length c1)) ∧ NumV W xf (.agg #[.bool xf.below, .slice A1 xf.size.length c1]) ∧ Bs W A1 xf.size.length xf.size ∧ Bs W B k lb ∧ Tab W ∧ Below w.heap.size w W) :=
    fun W hW => ⟨⟨(kR2.below hW).cell 0, (kR2.below hW).cell 1⟩, ⟨A1, c1, rfl, s2.below hW, HC1.out⟩, s2.below hW, (hB.below bW2).below hW, (ht.below bW2).below hW, below_st3 bW2 hW⟩
  clear r0 r1 f0 f1 kR1 bW1 s1 s2 kR2 bW2 hX hB ht
  generalize hRe0 : w.heap.size = R at KA ⊢
  have hRe := Lib.hid hRe0
  clear hRe0
  have kd := KD.out
  have kd1 := KD1.out
  go_upto_region 3 with (fail)
  have hkm : min (k0 : Int) 200 = (k : Int) := by have h1 := hk0.out; split at h1 <;> omega
  simp only [hk0.out, hkm, Int.toNat_natCast]
  clear hkm
  clear kd kd1
  obtain ⟨⟨r0, r1⟩, _, x3, hb3, _⟩ := KA.out _ (Below.refl _ _)
  go_wp2_with fail
  refine (refCopy A1 xf.size.length c1 xf.size _ x3 (by omega)).mono ?_
  rintro e w5 ⟨A5, n5, c5, rfl, o5, b5⟩
  have s5 := o5.bs.1
  clear r0 r1 x3 hb3 o5
  obtain ⟨_, _, _, hb5, _⟩ := KA.out _ b5
  go_wp2_with fail
  refine (refCopy B k d lb _ hb5 (by omega)).mono ?_
  rintro e w6 ⟨A6, n6, c6, rfl, o6, b6⟩
  have s6 := o6.bs.1
  have s5 := s5.below b6
  have b6 := below_st3 b5 b6
  clear hb5 o6 b5
  obtain ⟨⟨r0, r1⟩, nx6, _⟩ := KA.out _ b6
  go_upto_region 4 with (fail)
  go_wp2_with fail
  refine (lwTo xf _ _ nx6).mono ?_
  rintro e w7 ⟨v7, rfl, n7, b7⟩
  have s5 := s5.below b7
  have s6 := s6.below b7
  have b7 := below_st3 b6 b7
  clear r0 r1 nx6 b6
  go_wp2_with fail
  refine (whContents xf _ _ n7 (by omega)).mono ?_
  rintro e w8 ⟨s, hsok, hsz, hsl, hO⟩
  obtain ⟨A8, m8, c8, q8, B8, rfl, s8, hc8, CS8, b8⟩ := hO.all
  have s5 := s5.below b8
  have s6 := s6.below b8
  have b8 := below_st3 b7 b8
  have CS := Lib.hid CS8
  have HSOK := Lib.hid hsok
  have HSZ := Lib.hid hsz
  clear n7 b7 hO CS8 hsok hsz hsl
  obtain ⟨⟨r0, r1⟩, nx8, _⟩ := KA.out _ b8
  go_upto_region 5 with (fail)
  go_wp2_with fail
  refine (ref3Contents xf _ _ nx8 (by omega)).mono ?_
  rintro e w9 ⟨m9, A9, c9, B9, rfl, s9, hc9, h1, h2, hg, hbad, hv, b9⟩
  have hAG := cont_agree (x := xf.mk0) (s := s) xf.mk0_ok HSOK.out (by rw [xf.mk0_z]; exact HSZ.out) h1 hg hbad s9.len hv
  rw [xf.mk0_z] at hAG
  have HAG := Lib.hid hAG
  have s5 := s5.below b9
  have s6 := s6.below b9
  have s8 := s8.below b9
  have b9 := below_st3 b8 b9
  have HM9 : Hid (m9 ≤ 202) := by unfold Hid; have := xf.mk0_len; omega
  clear r0 r1 nx8 b8 hg hbad hv hAG h1 h2 hc9 hc8
  obtain ⟨_, _, _, hb9, _⟩ := KA.out _ b9
  go_upto_region 6 with (fail)
  go_wp2_with fail
  refine (whParse B k d lb _ hb9 (by omega)).mono ?_
  intro e w10 hP
  obtain ⟨y, AY, cY, rfl, sY, hcY, oY, zY, lY, b10⟩ := hP.all
  have s5 := s5.below b10
  have s6 := s6.below b10
  have s8 := s8.below b10
  have s9 := s9.below b10
  have b10 := below_st3 b9 b10
  have HCY := Lib.hid hcY
  have HOY : Hid (y.okb = true) := (Nm.okb_iff y).2 oY
  have ZY := Lib.hid zY
  clear hP hb9 b9 hcY zY oY
  have kY := Blk.new2 w10 (.bool y.below) (.slice AY y.size.length cY) 30
  have bx := below_alloc1 w10 (.cells #[.bool y.below, .slice AY y.size.length cY] 30)
  have sY := sY.below bx
  have s5 := s5.below bx
  have s6 := s6.below bx
  have s8 := s8.below bx
  have s9 := s9.below bx
  have b11 := below_st3 b10 bx
  clear bx b10
  obtain ⟨f, hf⟩ : ∃ f, parE lb = f := ⟨_, rfl⟩
  rw [hf] at ZY ⊢
  have HE := Lib.hid hf
  clear hf
  go_upto_region 7 with (fail)
  generalize (w10.alloc (.cells #[.bool y.below, .slice AY y.size.length cY] 30)) = W11 at *
  generalize w10.heap.size = Y at *
  obtain ⟨_, _, _, hb11, _⟩ := KA.out _ b11
  go_wp2_with fail
  refine (ref3Parse B k d lb _ hb11 hdk.out (by omega)).mono ?_
  intro e w12 hP
  obtain ⟨z, AZ, cZ, rfl, sZ, hcZ, oZ, zZ, lZ, b12⟩ := hP.all
  rw [HE.out] at zZ ⊢
  have HCZ := Lib.hid hcZ
  have HYZ : Hid (y.z = z.z) := by unfold Hid; rw [ZY.out, zZ]
  clear hP hb11 hcZ zZ oZ
  have kZ := Blk.new2 w12 (.bool z.below) (.slice AZ z.size.length cZ) 24
  have bx := below_st3 b12 (below_alloc1 w12 (.cells #[.bool z.below, .slice AZ z.size.length cZ] 24))
  have sZ := sZ.below (below_alloc1 w12 (.cells #[.bool z.below, .slice AZ z.size.length cZ] 24))
  have sY := sY.below bx
  have kY := kY.below bx
  have s5 := s5.below bx
  have s6 := s6.below bx
  have s8 := s8.below bx
  have s9 := s9.below bx
  have b13 := below_st3 b11 bx
  clear bx b11 b12
  go_upto_region 8 with (fail)
  generalize (w12.alloc (.cells #[.bool z.below, .slice AZ z.size.length cZ] 24)) = W13 at *
  generalize w12.heap.size = Z at *
  have HN5 : Hid (n5 ≤ 200) := by unfold Hid; have := s5.len; omega
  have HN6 : Hid (n6 ≤ 200) := by unfold Hid; have h1 := s6.len; have h2 := (KA.out _ b13).2.2.2.1.len; omega
  have K8 : Hid (∀ W, Below W13.heap.size W13 W → (W.cell? ⟨R, 0, none⟩ = some (.bool xf.below) ∧ W.cell? ⟨R, 1, none⟩ = some (.slice A1 xf.size.length c1) ∧ W.cell? ⟨Y, 0, none⟩ = some (.bool y.below) ∧ W.cell? ⟨Y, 1, none⟩ = some (.slice AY y.size.length cY) ∧ W.cell? ⟨Z, 0, none⟩ = some (.bool z.below) ∧ W.cell? ⟨Z, 1, none⟩ = some (.slice AZ z.size.length cZ)) ∧ NumV W xf (.agg #[.bool xf.below, .slice A1 xf.size.length c1]) ∧ NumV W y (.agg #[.bool y.below, .slice AY y.size.length cY]) ∧ NumV W z (.agg #[.bool z.below, .slice AZ z.size.length cZ]) ∧ Bs W A1 xf.size.length xf.size ∧ Bs W A5 n5 xf.size ∧ Bs W B k lb ∧ Bs W A6 n6 lb ∧ Tab W ∧ Bs W A8 m8 B8 ∧ Bs W A9 m9 B9 ∧ Below R w W) := by
    intro W hW
    obtain ⟨⟨r0, r1⟩, nx, bx, hb, tb, bl⟩ := KA.out W (below_st3 b13 hW)
    exact ⟨⟨r0, r1, (kY.below hW).cell 0, (kY.below hW).cell 1, (kZ.below hW).cell 0, (kZ.below hW).cell 1⟩, nx, ⟨AY, cY, rfl, sY.below hW, HCY.out⟩, ⟨AZ, cZ, rfl, sZ.below hW, HCZ.out⟩, bx, s5.below hW, hb, s6.below hW, tb, s8.below hW, s9.below hW, bl⟩
  have oo : (ox == ox) = true := by simp
  have on : (ox != ox) = false := by simp
  have ff : (f == f) = true := by simp
  have fn : (f != f) = false := by simp
  clear KA kY kZ sY sZ s5 s6 s8 s9 b13
  go_cut [87] from 44 (fun v87 wc => v87 = .bool false ∧ Below W13.heap.size W13 wc)
  case first =>
    by_cases hf0 : f = 0
    · subst hf0
      refine wp_region_held_drew (S := fun w' => w'.cell? ⟨R, 0, none⟩ = some (.bool xf.below) ∧ w'.cell? ⟨R, 1, none⟩ = some (.slice A1 xf.size.length c1) ∧ w'.cell? ⟨Y, 0, none⟩ = some (.bool y.below) ∧ w'.cell? ⟨Y, 1, none⟩ = some (.slice AY y.size.length cY) ∧ w'.cell? ⟨Z, 0, none⟩ = some (.bool z.below) ∧ w'.cell? ⟨Z, 1, none⟩ = some (.slice AZ z.size.length cZ)) (by kernel_rfl) ?_ (fun hHeld => ?_)
      · (try dsimp only); exact (K8.out _ (Below.drew (Below.refl _ _))).1
      refine wpAnyH_ready (rs := [0]) (by kernel_rfl) (by simp) ?_
      refine AllReadyH.cons rfl (fun K hK => ?_) AllReadyH.nil
      go_simp
      refine (known3 _ (K8.out _ (Below.drew (Below.refl _ _))).2.2.2.2.2.2.2.2.1).mono ?_
      rintro e ww0 ⟨rfl, bb0⟩
      have bb00 := bb0
      have bb0 := Below.trans (Below.drew (Below.refl _ _)) bb0
      have kk0 := K8.out _ bb0
      go_wp2_with fail
      refine hK.out _ _ ?_ (fun hHeld => ?_)
      · (try dsimp only); exact kk0.1
      clear hK K
      try simp only [Act.put, List.setIfInBounds_toArray, List.set_cons_zero, List.set_cons_succ, List.getElem_toArray, List.getElem_cons_succ, List.getElem_cons_zero]
      refine wpAnyH_take (i := 1) (v := ?_) rfl (by kernel_rfl) (by kernel_rfl) (by kernel_rfl) (fun _ _ _ h => h) (Or.inl ⟨by kernel_rfl, ?_⟩) (by assumption) ?_
      rotate_left 1
      · (intro w hSw; (try dsimp only at hSw); go_simp) <;> (try with_reducible rfl)
      try simp only [Act.put, List.setIfInBounds_toArray, List.set_cons_zero, List.set_cons_succ, List.getElem_toArray, List.getElem_cons_succ, List.getElem_cons_zero]
      refine wpAnyH_take (i := 2) (v := ?_) rfl (by kernel_rfl) (by kernel_rfl) (by kernel_rfl) (fun _ _ _ h => h) (Or.inl ⟨by kernel_rfl, ?_⟩) (by assumption) ?_
      rotate_left 1
      · (intro w hSw; (try dsimp only at hSw); go_simp) <;> (try with_reducible rfl)
      try simp only [Act.put, List.setIfInBounds_toArray, List.set_cons_zero, List.set_cons_succ, List.getElem_toArray, List.getElem_cons_succ, List.getElem_cons_zero]
      refine wpAnyH_take (i := 3) (v := ?_) rfl (by kernel_rfl) (by kernel_rfl) (by kernel_rfl) (fun _ _ _ h => h) (Or.inl ⟨by kernel_rfl, ?_⟩) (by assumption) ?_
      rotate_left 1
      · (intro w hSw; (try dsimp only at hSw); go_simp) <;> (try with_reducible rfl)
      try simp only [Act.put, List.setIfInBounds_toArray, List.set_cons_zero, List.set_cons_succ, List.getElem_toArray, List.getElem_cons_succ, List.getElem_cons_zero]
      refine wpAnyH_take (i := 6) (v := ?_) rfl (by kernel_rfl) (by kernel_rfl) (by kernel_rfl) (fun _ _ _ h => h) (Or.inl ⟨by kernel_rfl, ?_⟩) (by assumption) ?_
      rotate_left 1
      · (intro w hSw; (try dsimp only at hSw); go_simp) <;> (try with_reducible rfl)
      try simp only [Act.put, List.setIfInBounds_toArray, List.set_cons_zero, List.set_cons_succ, List.getElem_toArray, List.getElem_cons_succ, List.getElem_cons_zero]
      refine wpAnyH_ready (rs := [4]) (by kernel_rfl) (by simp) ?_
      refine AllReadyH.cons rfl (fun K hK => ?_) AllReadyH.nil
      go_simp
      refine (lwTo xf _ _ kk0.2.1).mono ?_
      rintro e ww1 ⟨u1, rfl, M1, bb1⟩
      have bb10 := bb1
      have bb1 := bb0.trans (Below.mono bb1 bb0.size)
      have kk1 := K8.out _ bb1
      go_wp2_with fail
      refine hK.out _ _ ?_ (fun hHeld => ?_)
      · (try dsimp only); exact kk1.1
      clear hK K
      try simp only [Act.put, List.setIfInBounds_toArray, List.set_cons_zero, List.set_cons_succ, List.getElem_toArray, List.getElem_cons_succ, List.getElem_cons_zero]
      refine wpAnyH_ready (rs := [5]) (by kernel_rfl) (by simp) ?_
      refine AllReadyH.cons rfl (fun K hK => ?_) AllReadyH.nil
      go_simp
      refine (whRight xf _ _ M1).mono ?_
      rw [HOK.out]
      rintro e ww2 ⟨rfl, bb2⟩
      have bb20 := bb2
      have bb2 := bb1.trans (Below.mono bb2 bb1.size)
      have kk2 := K8.out _ bb2
      go_wp2_with fail
      refine hK.out _ _ ?_ (fun hHeld => ?_)
      · (try dsimp only); exact kk2.1
      clear hK K
      try simp only [Act.put, List.setIfInBounds_toArray, List.set_cons_zero, List.set_cons_succ, List.getElem_toArray, List.getElem_cons_succ, List.getElem_cons_zero]
      refine wpAnyH_ready (rs := [7]) (by kernel_rfl) (by simp) ?_
      refine AllReadyH.cons rfl (fun K hK => ?_) AllReadyH.nil
      go_simp
      refine (ref3Right xf _ _ kk2.2.1).mono ?_
      rw [HOK.out]
      rintro e ww3 ⟨rfl, bb3⟩
      have bb30 := bb3
      have bb3 := bb2.trans (Below.mono bb3 bb2.size)
      have kk3 := K8.out _ bb3
      go_wp2_with fail
      refine hK.out _ _ ?_ (fun hHeld => ?_)
      · (try dsimp only); exact kk3.1
      clear hK K
      try simp only [Act.put, List.setIfInBounds_toArray, List.set_cons_zero, List.set_cons_succ, List.getElem_toArray, List.getElem_cons_succ, List.getElem_cons_zero]
      refine wpAnyH_take (i := 8) (v := ?_) rfl (by kernel_rfl) (by kernel_rfl) (by kernel_rfl) (fun _ _ _ h => h) (Or.inl ⟨by kernel_rfl, ?_⟩) (by assumption) ?_
      rotate_left 1
      · (intro w hSw; (try dsimp only at hSw); go_simp) <;> (try with_reducible rfl)
      try simp only [Act.put, List.setIfInBounds_toArray, List.set_cons_zero, List.set_cons_succ, List.getElem_toArray, List.getElem_cons_succ, List.getElem_cons_zero]
      refine wpAnyH_take (i := 9) (v := ?_) rfl (by kernel_rfl) (by kernel_rfl) (by kernel_rfl) (fun _ _ _ h => h) (Or.inl ⟨by kernel_rfl, ?_⟩) (by assumption) ?_
      rotate_left 1
      · (intro w hSw; (try dsimp only at hSw); go_simp) <;> (try with_reducible rfl)
      try simp only [Act.put, List.setIfInBounds_toArray, List.set_cons_zero, List.set_cons_succ, List.getElem_toArray, List.getElem_cons_succ, List.getElem_cons_zero]
      refine wpAnyH_take (i := 10) (v := ?_) rfl (by kernel_rfl) (by kernel_rfl) (by kernel_rfl) (fun _ _ _ h => h) (Or.inl ⟨by kernel_rfl, ?_⟩) (by assumption) ?_
      rotate_left 1
      · (intro w hSw; (try dsimp only at hSw); go_simp) <;> (try with_reducible rfl)
      try simp only [Act.put, List.setIfInBounds_toArray, List.set_cons_zero, List.set_cons_succ, List.getElem_toArray, List.getElem_cons_succ, List.getElem_cons_zero]
      refine wpAnyH_take (i := 11) (v := ?_) rfl (by kernel_rfl) (by kernel_rfl) (by kernel_rfl) (fun _ _ _ h => h) (Or.inl ⟨by kernel_rfl, ?_⟩) (by assumption) ?_
      rotate_left 1
      · (intro w hSw; (try dsimp only at hSw); go_simp) <;> (try with_reducible rfl)
      try simp only [Act.put, List.setIfInBounds_toArray, List.set_cons_zero, List.set_cons_succ, List.getElem_toArray, List.getElem_cons_succ, List.getElem_cons_zero]
      refine wpAnyH_take (i := 12) (v := ?_) rfl (by kernel_rfl) (by kernel_rfl) (by kernel_rfl) (fun _ _ _ h => h) (Or.inl ⟨by kernel_rfl, ?_⟩) (by assumption) ?_
      rotate_left 1
      · (intro w hSw; (try dsimp only at hSw); go_simp) <;> (try with_reducible rfl)
      try simp only [Act.put, List.setIfInBounds_toArray, List.set_cons_zero, List.set_cons_succ, List.getElem_toArray, List.getElem_cons_succ, List.getElem_cons_zero]
      refine wpAnyH_take (i := 13) (v := ?_) rfl (by kernel_rfl) (by kernel_rfl) (by kernel_rfl) (fun _ _ _ h => h) (Or.inl ⟨by kernel_rfl, ?_⟩) (by assumption) ?_
      rotate_left 1
      · (intro w hSw; (try dsimp only at hSw); go_simp) <;> (try with_reducible rfl)
      try simp only [Act.put, List.setIfInBounds_toArray, List.set_cons_zero, List.set_cons_succ, List.getElem_toArray, List.getElem_cons_succ, List.getElem_cons_zero]
      refine wpAnyH_take (i := 14) (v := ?_) rfl (by kernel_rfl) (by kernel_rfl) (by kernel_rfl) (fun _ _ _ h => h) (Or.inl ⟨by kernel_rfl, ?_⟩) (by assumption) ?_
      rotate_left 1
      · (intro w hSw; (try dsimp only at hSw); go_simp) <;> (try with_reducible rfl)
      try simp only [Act.put, List.setIfInBounds_toArray, List.set_cons_zero, List.set_cons_succ, List.getElem_toArray, List.getElem_cons_succ, List.getElem_cons_zero]
      refine wpAnyH_take (i := 15) (v := ?_) rfl (by kernel_rfl) (by kernel_rfl) (by kernel_rfl) (fun _ _ _ h => h) (Or.inl ⟨by kernel_rfl, ?_⟩) (by assumption) ?_
      rotate_left 1
      · (intro w hSw; (try dsimp only at hSw); go_simp) <;> (try with_reducible rfl)
      try simp only [Act.put, List.setIfInBounds_toArray, List.set_cons_zero, List.set_cons_succ, List.getElem_toArray, List.getElem_cons_succ, List.getElem_cons_zero]
      refine wpAnyH_take (i := 16) (v := ?_) rfl (by kernel_rfl) (by kernel_rfl) (by kernel_rfl) (fun _ _ _ h => h) (Or.inl ⟨by kernel_rfl, ?_⟩) (by assumption) ?_
      rotate_left 1
      · (intro w hSw; (try dsimp only at hSw); go_simp) <;> (try with_reducible rfl)
      try simp only [Act.put, List.setIfInBounds_toArray, List.set_cons_zero, List.set_cons_succ, List.getElem_toArray, List.getElem_cons_succ, List.getElem_cons_zero]
      refine wpAnyH_take (i := 18) (v := ?_) rfl (by kernel_rfl) (by kernel_rfl) (by kernel_rfl) (fun _ _ _ h => h) (Or.inl ⟨by kernel_rfl, ?_⟩) (by assumption) ?_
      rotate_left 1
      · (intro w hSw; (try dsimp only at hSw); go_simp) <;> (try with_reducible rfl)
      try simp only [Act.put, List.setIfInBounds_toArray, List.set_cons_zero, List.set_cons_succ, List.getElem_toArray, List.getElem_cons_succ, List.getElem_cons_zero]
      refine wpAnyH_ready (rs := [17]) (by kernel_rfl) (by simp) ?_
      refine AllReadyH.cons rfl (fun K hK => ?_) AllReadyH.nil
      go_simp
      refine (lwOf y _ _ kk3.2.2.1).mono ?_
      rintro e ww4 ⟨u4, rfl, M4, bb4⟩
      have bb40 := bb4
      have bb4 := bb3.trans (Below.mono bb4 bb3.size)
      have kk4 := K8.out _ bb4
      go_wp2_with fail
      refine hK.out _ _ ?_ (fun hHeld => ?_)
      · (try dsimp only); exact kk4.1
      clear hK K
      try simp only [Act.put, List.setIfInBounds_toArray, List.set_cons_zero, List.set_cons_succ, List.getElem_toArray, List.getElem_cons_succ, List.getElem_cons_zero]
      refine wpAnyH_ready (rs := [19]) (by kernel_rfl) (by simp) ?_
      refine AllReadyH.cons rfl (fun K hK => ?_) AllReadyH.nil
      go_simp
      refine (ref3Same y z _ _ _ M4 kk4.2.2.2.1 (by omega) (by omega)).mono ?_
      rw [decide_eq_true HYZ.out]
      rintro e ww5 ⟨rfl, bb5⟩
      have bb50 := bb5
      have bb5 := bb4.trans (Below.mono bb5 bb4.size)
      have kk5 := K8.out _ bb5
      go_wp2_with fail
      refine hK.out _ _ ?_ (fun hHeld => ?_)
      · (try dsimp only); exact kk5.1
      clear hK K
      try simp only [Act.put, List.setIfInBounds_toArray, List.set_cons_zero, List.set_cons_succ, List.getElem_toArray, List.getElem_cons_succ, List.getElem_cons_zero]
      refine wpAnyH_take (i := 20) (v := ?_) rfl (by kernel_rfl) (by kernel_rfl) (by kernel_rfl) (fun _ _ _ h => h) (Or.inl ⟨by kernel_rfl, ?_⟩) (by assumption) ?_
      rotate_left 1
      · (intro w hSw; (try dsimp only at hSw); go_simp) <;> (try with_reducible rfl)
      try simp only [Act.put, List.setIfInBounds_toArray, List.set_cons_zero, List.set_cons_succ, List.getElem_toArray, List.getElem_cons_succ, List.getElem_cons_zero]
      refine wpAnyH_take (i := 21) (v := ?_) rfl (by kernel_rfl) (by kernel_rfl) (by kernel_rfl) (fun _ _ _ h => h) (Or.inl ⟨by kernel_rfl, ?_⟩) (by assumption) ?_
      rotate_left 1
      · (intro w hSw; (try dsimp only at hSw); go_simp) <;> (try with_reducible rfl)
      try simp only [Act.put, List.setIfInBounds_toArray, List.set_cons_zero, List.set_cons_succ, List.getElem_toArray, List.getElem_cons_succ, List.getElem_cons_zero]
      refine wpAnyH_take (i := 22) (v := ?_) rfl (by kernel_rfl) (by kernel_rfl) (by kernel_rfl) (fun _ _ _ h => h) (Or.inl ⟨by kernel_rfl, ?_⟩) (by assumption) ?_
      rotate_left 1
      · (intro w hSw; (try dsimp only at hSw); go_simp) <;> (try with_reducible rfl)
      try simp only [Act.put, List.setIfInBounds_toArray, List.set_cons_zero, List.set_cons_succ, List.getElem_toArray, List.getElem_cons_succ, List.getElem_cons_zero]
      refine wpAnyH_take (i := 23) (v := ?_) rfl (by kernel_rfl) (by kernel_rfl) (by kernel_rfl) (fun _ _ _ h => h) (Or.inl ⟨by kernel_rfl, ?_⟩) (by assumption) ?_
      rotate_left 1
      · (intro w hSw; (try dsimp only at hSw); go_simp) <;> (try with_reducible rfl)
      try simp only [Act.put, List.setIfInBounds_toArray, List.set_cons_zero, List.set_cons_succ, List.getElem_toArray, List.getElem_cons_succ, List.getElem_cons_zero]
      refine wpAnyH_take (i := 24) (v := ?_) rfl (by kernel_rfl) (by kernel_rfl) (by kernel_rfl) (fun _ _ _ h => h) (Or.inl ⟨by kernel_rfl, ?_⟩) (by assumption) ?_
      rotate_left 1
      · (intro w hSw; (try dsimp only at hSw); go_simp) <;> (try with_reducible rfl)
      try simp only [Act.put, List.setIfInBounds_toArray, List.set_cons_zero, List.set_cons_succ, List.getElem_toArray, List.getElem_cons_succ, List.getElem_cons_zero]
      refine wpAnyH_take (i := 25) (v := ?_) rfl (by kernel_rfl) (by kernel_rfl) (by kernel_rfl) (fun _ _ _ h => h) (Or.inl ⟨by kernel_rfl, ?_⟩) (by assumption) ?_
      rotate_left 1
      · (intro w hSw; (try dsimp only at hSw); go_simp) <;> (try with_reducible rfl)
      try simp only [Act.put, List.setIfInBounds_toArray, List.set_cons_zero, List.set_cons_succ, List.getElem_toArray, List.getElem_cons_succ, List.getElem_cons_zero]
      refine wpAnyH_take (i := 26) (v := ?_) rfl (by kernel_rfl) (by kernel_rfl) (by kernel_rfl) (fun _ _ _ h => h) (Or.inl ⟨by kernel_rfl, ?_⟩) (by assumption) ?_
      rotate_left 1
      · (intro w hSw; (try dsimp only at hSw); go_simp) <;> (try with_reducible rfl)
      try simp only [Act.put, List.setIfInBounds_toArray, List.set_cons_zero, List.set_cons_succ, List.getElem_toArray, List.getElem_cons_succ, List.getElem_cons_zero]
      refine wpAnyH_ready (rs := [27]) (by kernel_rfl) (by simp) ?_
      refine AllReadyH.cons rfl (fun K hK => ?_) AllReadyH.nil
      go_simp
      refine (whRight y _ _ kk5.2.2.1).mono ?_
      rw [HOY.out]
      rintro e ww6 ⟨rfl, bb6⟩
      have bb60 := bb6
      have bb6 := bb5.trans (Below.mono bb6 bb5.size)
      have kk6 := K8.out _ bb6
      go_wp2_with fail
      refine hK.out _ _ ?_ (fun hHeld => ?_)
      · (try dsimp only); exact kk6.1
      clear hK K
      try simp only [Act.put, List.setIfInBounds_toArray, List.set_cons_zero, List.set_cons_succ, List.getElem_toArray, List.getElem_cons_succ, List.getElem_cons_zero]
      refine wpAnyH_take (i := 28) (v := ?_) rfl (by kernel_rfl) (by kernel_rfl) (by kernel_rfl) (fun _ _ _ h => h) (Or.inl ⟨by kernel_rfl, ?_⟩) (by assumption) ?_
      rotate_left 1
      · (intro w hSw; (try dsimp only at hSw); go_simp) <;> (try with_reducible rfl)
      try simp only [Act.put, List.setIfInBounds_toArray, List.set_cons_zero, List.set_cons_succ, List.getElem_toArray, List.getElem_cons_succ, List.getElem_cons_zero]
      refine wpAnyH_take (i := 29) (v := ?_) rfl (by kernel_rfl) (by kernel_rfl) (by kernel_rfl) (fun _ _ _ h => h) (Or.inl ⟨by kernel_rfl, ?_⟩) (by assumption) ?_
      rotate_left 1
      · (intro w hSw; (try dsimp only at hSw); go_simp) <;> (try with_reducible rfl)
      try simp only [Act.put, List.setIfInBounds_toArray, List.set_cons_zero, List.set_cons_succ, List.getElem_toArray, List.getElem_cons_succ, List.getElem_cons_zero]
      refine wpAnyH_take (i := 30) (v := ?_) rfl (by kernel_rfl) (by kernel_rfl) (by kernel_rfl) (fun _ _ _ h => h) (Or.inl ⟨by kernel_rfl, ?_⟩) (by assumption) ?_
      rotate_left 1
      · (intro w hSw; (try dsimp only at hSw); go_simp) <;> (try with_reducible rfl)
      try simp only [Act.put, List.setIfInBounds_toArray, List.set_cons_zero, List.set_cons_succ, List.getElem_toArray, List.getElem_cons_succ, List.getElem_cons_zero]
      refine wpAnyH_take (i := 31) (v := ?_) rfl (by kernel_rfl) (by kernel_rfl) (by kernel_rfl) (fun _ _ _ h => h) (Or.inl ⟨by kernel_rfl, ?_⟩) (by assumption) ?_
      rotate_left 1
      · (intro w hSw; (try dsimp only at hSw); go_simp) <;> (try with_reducible rfl)
      try simp only [Act.put, List.setIfInBounds_toArray, List.set_cons_zero, List.set_cons_succ, List.getElem_toArray, List.getElem_cons_succ, List.getElem_cons_zero]
      refine wpAnyH_take (i := 32) (v := ?_) rfl (by kernel_rfl) (by kernel_rfl) (by kernel_rfl) (fun _ _ _ h => h) (Or.inl ⟨by kernel_rfl, ?_⟩) (by assumption) ?_
      rotate_left 1
      · (intro w hSw; (try dsimp only at hSw); go_simp) <;> (try with_reducible rfl)
      try simp only [Act.put, List.setIfInBounds_toArray, List.set_cons_zero, List.set_cons_succ, List.getElem_toArray, List.getElem_cons_succ, List.getElem_cons_zero]
      refine wpAnyH_take (i := 33) (v := ?_) rfl (by kernel_rfl) (by kernel_rfl) (by kernel_rfl) (fun _ _ _ h => h) (Or.inl ⟨by kernel_rfl, ?_⟩) (by assumption) ?_
      rotate_left 1
      · (intro w hSw; (try dsimp only at hSw); go_simp) <;> (try with_reducible rfl)
      try simp only [Act.put, List.setIfInBounds_toArray, List.set_cons_zero, List.set_cons_succ, List.getElem_toArray, List.getElem_cons_succ, List.getElem_cons_zero]
      refine wpAnyH_take (i := 34) (v := ?_) rfl (by kernel_rfl) (by kernel_rfl) (by kernel_rfl) (fun _ _ _ h => h) (Or.inl ⟨by kernel_rfl, ?_⟩) (by assumption) ?_
      rotate_left 1
      · (intro w hSw; (try dsimp only at hSw); go_simp) <;> (try with_reducible rfl)
      try simp only [Act.put, List.setIfInBounds_toArray, List.set_cons_zero, List.set_cons_succ, List.getElem_toArray, List.getElem_cons_succ, List.getElem_cons_zero]
      refine wpAnyH_ready (rs := [35]) (by kernel_rfl) (by simp) ?_
      refine AllReadyH.cons rfl (fun K hK => ?_) AllReadyH.nil
      go_simp
      refine (refSame A1 A5 xf.size.length n5 c1 c5 xf.size xf.size _ kk6.2.2.2.2.1 kk6.2.2.2.2.2.1 (by omega) (by have := HN5.out; omega)).mono ?_
      rw [decide_eq_true (show xf.size = xf.size from rfl)]
      rintro e ww7 ⟨rfl, bb7⟩
      have bb7 := Qt.below (B := ww6.heap.size) bb7
      have bb70 := bb7
      have bb7 := bb6.trans (Below.mono bb7 bb6.size)
      have kk7 := K8.out _ bb7
      go_wp2_with fail
      refine hK.out _ _ ?_ (fun hHeld => ?_)
      · (try dsimp only); exact kk7.1
      clear hK K
      try simp only [Act.put, List.setIfInBounds_toArray, List.set_cons_zero, List.set_cons_succ, List.getElem_toArray, List.getElem_cons_succ, List.getElem_cons_zero]
      refine wpAnyH_take (i := 36) (v := ?_) rfl (by kernel_rfl) (by kernel_rfl) (by kernel_rfl) (fun _ _ _ h => h) (Or.inl ⟨by kernel_rfl, ?_⟩) (by assumption) ?_
      rotate_left 1
      · (intro w hSw; (try dsimp only at hSw); go_simp) <;> (try with_reducible rfl)
      try simp only [Act.put, List.setIfInBounds_toArray, List.set_cons_zero, List.set_cons_succ, List.getElem_toArray, List.getElem_cons_succ, List.getElem_cons_zero]
      refine wpAnyH_take (i := 37) (v := ?_) rfl (by kernel_rfl) (by kernel_rfl) (by kernel_rfl) (fun _ _ _ h => h) (Or.inl ⟨by kernel_rfl, ?_⟩) (by assumption) ?_
      rotate_left 1
      · (intro w hSw; (try dsimp only at hSw); go_simp) <;> (try with_reducible rfl)
      try simp only [Act.put, List.setIfInBounds_toArray, List.set_cons_zero, List.set_cons_succ, List.getElem_toArray, List.getElem_cons_succ, List.getElem_cons_zero]
      refine wpAnyH_take (i := 38) (v := ?_) rfl (by kernel_rfl) (by kernel_rfl) (by kernel_rfl) (fun _ _ _ h => h) (Or.inl ⟨by kernel_rfl, ?_⟩) (by assumption) ?_
      rotate_left 1
      · (intro w hSw; (try dsimp only at hSw); go_simp) <;> (try with_reducible rfl)
      try simp only [Act.put, List.setIfInBounds_toArray, List.set_cons_zero, List.set_cons_succ, List.getElem_toArray, List.getElem_cons_succ, List.getElem_cons_zero]
      refine wpAnyH_take (i := 39) (v := ?_) rfl (by kernel_rfl) (by kernel_rfl) (by kernel_rfl) (fun _ _ _ h => h) (Or.inl ⟨by kernel_rfl, ?_⟩) (by assumption) ?_
      rotate_left 1
      · (intro w hSw; (try dsimp only at hSw); go_simp) <;> (try with_reducible rfl)
      try simp only [Act.put, List.setIfInBounds_toArray, List.set_cons_zero, List.set_cons_succ, List.getElem_toArray, List.getElem_cons_succ, List.getElem_cons_zero]
      refine wpAnyH_take (i := 40) (v := ?_) rfl (by kernel_rfl) (by kernel_rfl) (by kernel_rfl) (fun _ _ _ h => h) (Or.inl ⟨by kernel_rfl, ?_⟩) (by assumption) ?_
      rotate_left 1
      · (intro w hSw; (try dsimp only at hSw); go_simp) <;> (try with_reducible rfl)
      try simp only [Act.put, List.setIfInBounds_toArray, List.set_cons_zero, List.set_cons_succ, List.getElem_toArray, List.getElem_cons_succ, List.getElem_cons_zero]
      refine wpAnyH_ready (rs := [41]) (by kernel_rfl) (by simp) ?_
      refine AllReadyH.cons rfl (fun K hK => ?_) AllReadyH.nil
      go_simp
      refine (refSame B A6 k n6 d c6 lb lb _ kk7.2.2.2.2.2.2.1 kk7.2.2.2.2.2.2.2.1 (by omega) (by have := HN6.out; omega)).mono ?_
      rw [decide_eq_true (show lb = lb from rfl)]
      rintro e ww8 ⟨rfl, bb8⟩
      have bb8 := Qt.below (B := ww7.heap.size) bb8
      have bb80 := bb8
      have bb8 := bb7.trans (Below.mono bb8 bb7.size)
      have kk8 := K8.out _ bb8
      go_wp2_with fail
      refine hK.out _ _ ?_ (fun hHeld => ?_)
      · (try dsimp only); exact kk8.1
      clear hK K
      try simp only [Act.put, List.setIfInBounds_toArray, List.set_cons_zero, List.set_cons_succ, List.getElem_toArray, List.getElem_cons_succ, List.getElem_cons_zero]
      refine wpAnyH_take (i := 42) (v := ?_) rfl (by kernel_rfl) (by kernel_rfl) (by kernel_rfl) (fun _ _ _ h => h) (Or.inl ⟨by kernel_rfl, ?_⟩) (by assumption) ?_
      rotate_left 1
      · (intro w hSw; (try dsimp only at hSw); go_simp) <;> (try with_reducible rfl)
      try simp only [Act.put, List.setIfInBounds_toArray, List.set_cons_zero, List.set_cons_succ, List.getElem_toArray, List.getElem_cons_succ, List.getElem_cons_zero]
      refine wpAnyH_take (i := 43) (v := ?_) rfl (by kernel_rfl) (by kernel_rfl) (by kernel_rfl) (fun _ _ _ h => h) (Or.inl ⟨by kernel_rfl, ?_⟩) (by assumption) ?_
      rotate_left 1
      · (intro w hSw; (try dsimp only at hSw); go_simp) <;> (try with_reducible rfl)
      try simp only [Act.put, List.setIfInBounds_toArray, List.set_cons_zero, List.set_cons_succ, List.getElem_toArray, List.getElem_cons_succ, List.getElem_cons_zero]
      refine wpAnyH_done (by kernel_rfl) ?_ _
      go_wp2_with fail
      go_meet
      exact ⟨rfl, bb8⟩
    · have f0' : (f == 0) = false := by simpa using hf0
      refine wp_region_held_drew (S := fun w' => w'.cell? ⟨R, 0, none⟩ = some (.bool xf.below) ∧ w'.cell? ⟨R, 1, none⟩ = some (.slice A1 xf.size.length c1) ∧ w'.cell? ⟨Y, 0, none⟩ = some (.bool y.below) ∧ w'.cell? ⟨Y, 1, none⟩ = some (.slice AY y.size.length cY) ∧ w'.cell? ⟨Z, 0, none⟩ = some (.bool z.below) ∧ w'.cell? ⟨Z, 1, none⟩ = some (.slice AZ z.size.length cZ)) (by kernel_rfl) ?_ (fun hHeld => ?_)
      · (try dsimp only); exact (K8.out _ (Below.drew (Below.refl _ _))).1
      refine wpAnyH_ready (rs := [0]) (by kernel_rfl) (by simp) ?_
      refine AllReadyH.cons rfl (fun K hK => ?_) AllReadyH.nil
      go_simp
      refine (known3 _ (K8.out _ (Below.drew (Below.refl _ _))).2.2.2.2.2.2.2.2.1).mono ?_
      rintro e ww0 ⟨rfl, bb0⟩
      have bb00 := bb0
      have bb0 := Below.trans (Below.drew (Below.refl _ _)) bb0
      have kk0 := K8.out _ bb0
      go_wp2_with fail
      refine hK.out _ _ ?_ (fun hHeld => ?_)
      · (try dsimp only); exact kk0.1
      clear hK K
      try simp only [Act.put, List.setIfInBounds_toArray, List.set_cons_zero, List.set_cons_succ, List.getElem_toArray, List.getElem_cons_succ, List.getElem_cons_zero]
      refine wpAnyH_take (i := 1) (v := ?_) rfl (by kernel_rfl) (by kernel_rfl) (by kernel_rfl) (fun _ _ _ h => h) (Or.inl ⟨by kernel_rfl, ?_⟩) (by assumption) ?_
      rotate_left 1
      · (intro w hSw; (try dsimp only at hSw); go_simp) <;> (try with_reducible rfl)
      try simp only [Act.put, List.setIfInBounds_toArray, List.set_cons_zero, List.set_cons_succ, List.getElem_toArray, List.getElem_cons_succ, List.getElem_cons_zero]
      refine wpAnyH_take (i := 2) (v := ?_) rfl (by kernel_rfl) (by kernel_rfl) (by kernel_rfl) (fun _ _ _ h => h) (Or.inl ⟨by kernel_rfl, ?_⟩) (by assumption) ?_
      rotate_left 1
      · (intro w hSw; (try dsimp only at hSw); go_simp) <;> (try with_reducible rfl)
      try simp only [Act.put, List.setIfInBounds_toArray, List.set_cons_zero, List.set_cons_succ, List.getElem_toArray, List.getElem_cons_succ, List.getElem_cons_zero]
      refine wpAnyH_take (i := 3) (v := ?_) rfl (by kernel_rfl) (by kernel_rfl) (by kernel_rfl) (fun _ _ _ h => h) (Or.inl ⟨by kernel_rfl, ?_⟩) (by assumption) ?_
      rotate_left 1
      · (intro w hSw; (try dsimp only at hSw); go_simp) <;> (try with_reducible rfl)
      try simp only [Act.put, List.setIfInBounds_toArray, List.set_cons_zero, List.set_cons_succ, List.getElem_toArray, List.getElem_cons_succ, List.getElem_cons_zero]
      refine wpAnyH_take (i := 6) (v := ?_) rfl (by kernel_rfl) (by kernel_rfl) (by kernel_rfl) (fun _ _ _ h => h) (Or.inl ⟨by kernel_rfl, ?_⟩) (by assumption) ?_
      rotate_left 1
      · (intro w hSw; (try dsimp only at hSw); go_simp) <;> (try with_reducible rfl)
      try simp only [Act.put, List.setIfInBounds_toArray, List.set_cons_zero, List.set_cons_succ, List.getElem_toArray, List.getElem_cons_succ, List.getElem_cons_zero]
      refine wpAnyH_ready (rs := [4]) (by kernel_rfl) (by simp) ?_
      refine AllReadyH.cons rfl (fun K hK => ?_) AllReadyH.nil
      go_simp
      refine (lwTo xf _ _ kk0.2.1).mono ?_
      rintro e ww1 ⟨u1, rfl, M1, bb1⟩
      have bb10 := bb1
      have bb1 := bb0.trans (Below.mono bb1 bb0.size)
      have kk1 := K8.out _ bb1
      go_wp2_with fail
      refine hK.out _ _ ?_ (fun hHeld => ?_)
      · (try dsimp only); exact kk1.1
      clear hK K
      try simp only [Act.put, List.setIfInBounds_toArray, List.set_cons_zero, List.set_cons_succ, List.getElem_toArray, List.getElem_cons_succ, List.getElem_cons_zero]
      refine wpAnyH_ready (rs := [5]) (by kernel_rfl) (by simp) ?_
      refine AllReadyH.cons rfl (fun K hK => ?_) AllReadyH.nil
      go_simp
      refine (whRight xf _ _ M1).mono ?_
      rw [HOK.out]
      rintro e ww2 ⟨rfl, bb2⟩
      have bb20 := bb2
      have bb2 := bb1.trans (Below.mono bb2 bb1.size)
      have kk2 := K8.out _ bb2
      go_wp2_with fail
      refine hK.out _ _ ?_ (fun hHeld => ?_)
      · (try dsimp only); exact kk2.1
      clear hK K
      try simp only [Act.put, List.setIfInBounds_toArray, List.set_cons_zero, List.set_cons_succ, List.getElem_toArray, List.getElem_cons_succ, List.getElem_cons_zero]
      refine wpAnyH_ready (rs := [7]) (by kernel_rfl) (by simp) ?_
      refine AllReadyH.cons rfl (fun K hK => ?_) AllReadyH.nil
      go_simp
      refine (ref3Right xf _ _ kk2.2.1).mono ?_
      rw [HOK.out]
      rintro e ww3 ⟨rfl, bb3⟩
      have bb30 := bb3
      have bb3 := bb2.trans (Below.mono bb3 bb2.size)
      have kk3 := K8.out _ bb3
      go_wp2_with fail
      refine hK.out _ _ ?_ (fun hHeld => ?_)
      · (try dsimp only); exact kk3.1
      clear hK K
      try simp only [Act.put, List.setIfInBounds_toArray, List.set_cons_zero, List.set_cons_succ, List.getElem_toArray, List.getElem_cons_succ, List.getElem_cons_zero]
      refine wpAnyH_take (i := 8) (v := ?_) rfl (by kernel_rfl) (by kernel_rfl) (by kernel_rfl) (fun _ _ _ h => h) (Or.inl ⟨by kernel_rfl, ?_⟩) (by assumption) ?_
      rotate_left 1
      · (intro w hSw; (try dsimp only at hSw); go_simp) <;> (try with_reducible rfl)
      try simp only [Act.put, List.setIfInBounds_toArray, List.set_cons_zero, List.set_cons_succ, List.getElem_toArray, List.getElem_cons_succ, List.getElem_cons_zero]
      refine wpAnyH_take (i := 9) (v := ?_) rfl (by kernel_rfl) (by kernel_rfl) (by kernel_rfl) (fun _ _ _ h => h) (Or.inl ⟨by kernel_rfl, ?_⟩) (by assumption) ?_
      rotate_left 1
      · (intro w hSw; (try dsimp only at hSw); go_simp) <;> (try with_reducible rfl)
      try simp only [Act.put, List.setIfInBounds_toArray, List.set_cons_zero, List.set_cons_succ, List.getElem_toArray, List.getElem_cons_succ, List.getElem_cons_zero]
      refine wpAnyH_take (i := 10) (v := ?_) rfl (by kernel_rfl) (by kernel_rfl) (by kernel_rfl) (fun _ _ _ h => h) (Or.inl ⟨by kernel_rfl, ?_⟩) (by assumption) ?_
      rotate_left 1
      · (intro w hSw; (try dsimp only at hSw); go_simp) <;> (try with_reducible rfl)
      try simp only [Act.put, List.setIfInBounds_toArray, List.set_cons_zero, List.set_cons_succ, List.getElem_toArray, List.getElem_cons_succ, List.getElem_cons_zero]
      refine wpAnyH_take (i := 11) (v := ?_) rfl (by kernel_rfl) (by kernel_rfl) (by kernel_rfl) (fun _ _ _ h => h) (Or.inl ⟨by kernel_rfl, ?_⟩) (by assumption) ?_
      rotate_left 1
      · (intro w hSw; (try dsimp only at hSw); go_simp) <;> (try with_reducible rfl)
      try simp only [Act.put, List.setIfInBounds_toArray, List.set_cons_zero, List.set_cons_succ, List.getElem_toArray, List.getElem_cons_succ, List.getElem_cons_zero]
      refine wpAnyH_take (i := 12) (v := ?_) rfl (by kernel_rfl) (by kernel_rfl) (by kernel_rfl) (fun _ _ _ h => h) (Or.inl ⟨by kernel_rfl, ?_⟩) (by assumption) ?_
      rotate_left 1
      · (intro w hSw; (try dsimp only at hSw); go_simp) <;> (try with_reducible rfl)
      try simp only [Act.put, List.setIfInBounds_toArray, List.set_cons_zero, List.set_cons_succ, List.getElem_toArray, List.getElem_cons_succ, List.getElem_cons_zero]
      refine wpAnyH_take (i := 13) (v := ?_) rfl (by kernel_rfl) (by kernel_rfl) (by kernel_rfl) (fun _ _ _ h => h) (Or.inl ⟨by kernel_rfl, ?_⟩) (by assumption) ?_
      rotate_left 1
      · (intro w hSw; (try dsimp only at hSw); go_simp) <;> (try with_reducible rfl)
      try simp only [Act.put, List.setIfInBounds_toArray, List.set_cons_zero, List.set_cons_succ, List.getElem_toArray, List.getElem_cons_succ, List.getElem_cons_zero]
      refine wpAnyH_take (i := 14) (v := ?_) rfl (by kernel_rfl) (by kernel_rfl) (by kernel_rfl) (fun _ _ _ h => h) (Or.inl ⟨by kernel_rfl, ?_⟩) (by assumption) ?_
      rotate_left 1
      · (intro w hSw; (try dsimp only at hSw); go_simp) <;> (try with_reducible rfl)
      try simp only [Act.put, List.setIfInBounds_toArray, List.set_cons_zero, List.set_cons_succ, List.getElem_toArray, List.getElem_cons_succ, List.getElem_cons_zero]
      refine wpAnyH_take (i := 15) (v := ?_) rfl (by kernel_rfl) (by kernel_rfl) (by kernel_rfl) (fun _ _ _ h => h) (Or.inl ⟨by kernel_rfl, ?_⟩) (by assumption) ?_
      rotate_left 1
      · (intro w hSw; (try dsimp only at hSw); go_simp) <;> (try with_reducible rfl)
      try simp only [Act.put, List.setIfInBounds_toArray, List.set_cons_zero, List.set_cons_succ, List.getElem_toArray, List.getElem_cons_succ, List.getElem_cons_zero]
      refine wpAnyH_take (i := 16) (v := ?_) rfl (by kernel_rfl) (by kernel_rfl) (by kernel_rfl) (fun _ _ _ h => h) (Or.inl ⟨by kernel_rfl, ?_⟩) (by assumption) ?_
      rotate_left 1
      · (intro w hSw; (try dsimp only at hSw); go_simp) <;> (try with_reducible rfl)
      try simp only [Act.put, List.setIfInBounds_toArray, List.set_cons_zero, List.set_cons_succ, List.getElem_toArray, List.getElem_cons_succ, List.getElem_cons_zero]
      refine wpAnyH_take (i := 18) (v := ?_) rfl (by kernel_rfl) (by kernel_rfl) (by kernel_rfl) (fun _ _ _ h => h) (Or.inl ⟨by kernel_rfl, ?_⟩) (by assumption) ?_
      rotate_left 1
      · (intro w hSw; (try dsimp only at hSw); go_simp) <;> (try with_reducible rfl)
      try simp only [Act.put, List.setIfInBounds_toArray, List.set_cons_zero, List.set_cons_succ, List.getElem_toArray, List.getElem_cons_succ, List.getElem_cons_zero]
      refine wpAnyH_ready (rs := [17]) (by kernel_rfl) (by simp) ?_
      refine AllReadyH.cons rfl (fun K hK => ?_) AllReadyH.nil
      go_simp
      refine (lwOf y _ _ kk3.2.2.1).mono ?_
      rintro e ww4 ⟨u4, rfl, M4, bb4⟩
      have bb40 := bb4
      have bb4 := bb3.trans (Below.mono bb4 bb3.size)
      have kk4 := K8.out _ bb4
      go_wp2_with fail
      refine hK.out _ _ ?_ (fun hHeld => ?_)
      · (try dsimp only); exact kk4.1
      clear hK K
      try simp only [Act.put, List.setIfInBounds_toArray, List.set_cons_zero, List.set_cons_succ, List.getElem_toArray, List.getElem_cons_succ, List.getElem_cons_zero]
      refine wpAnyH_ready (rs := [19]) (by kernel_rfl) (by simp) ?_
      refine AllReadyH.cons rfl (fun K hK => ?_) AllReadyH.nil
      go_simp
      refine (ref3Same y z _ _ _ M4 kk4.2.2.2.1 (by omega) (by omega)).mono ?_
      rw [decide_eq_true HYZ.out]
      rintro e ww5 ⟨rfl, bb5⟩
      have bb50 := bb5
      have bb5 := bb4.trans (Below.mono bb5 bb4.size)
      have kk5 := K8.out _ bb5
      go_wp2_with fail
      refine hK.out _ _ ?_ (fun hHeld => ?_)
      · (try dsimp only); exact kk5.1
      clear hK K
      try simp only [Act.put, List.setIfInBounds_toArray, List.set_cons_zero, List.set_cons_succ, List.getElem_toArray, List.getElem_cons_succ, List.getElem_cons_zero]
      refine wpAnyH_take (i := 20) (v := ?_) rfl (by kernel_rfl) (by kernel_rfl) (by kernel_rfl) (fun _ _ _ h => h) (Or.inl ⟨by kernel_rfl, ?_⟩) (by assumption) ?_
      rotate_left 1
      · (intro w hSw; (try dsimp only at hSw); go_simp) <;> (try with_reducible rfl)
      try simp only [Act.put, List.setIfInBounds_toArray, List.set_cons_zero, List.set_cons_succ, List.getElem_toArray, List.getElem_cons_succ, List.getElem_cons_zero]
      refine wpAnyH_take (i := 21) (v := ?_) rfl (by kernel_rfl) (by kernel_rfl) (by kernel_rfl) (fun _ _ _ h => h) (Or.inl ⟨by kernel_rfl, ?_⟩) (by assumption) ?_
      rotate_left 1
      · (intro w hSw; (try dsimp only at hSw); go_simp) <;> (try with_reducible rfl)
      try simp only [Act.put, List.setIfInBounds_toArray, List.set_cons_zero, List.set_cons_succ, List.getElem_toArray, List.getElem_cons_succ, List.getElem_cons_zero]
      refine wpAnyH_take (i := 22) (v := ?_) rfl (by kernel_rfl) (by kernel_rfl) (by kernel_rfl) (fun _ _ _ h => h) (Or.inl ⟨by kernel_rfl, ?_⟩) (by assumption) ?_
      rotate_left 1
      · (intro w hSw; (try dsimp only at hSw); go_simp) <;> (try with_reducible rfl)
      try simp only [Act.put, List.setIfInBounds_toArray, List.set_cons_zero, List.set_cons_succ, List.getElem_toArray, List.getElem_cons_succ, List.getElem_cons_zero]
      refine wpAnyH_take (i := 23) (v := ?_) rfl (by kernel_rfl) (by kernel_rfl) (by kernel_rfl) (fun _ _ _ h => h) (Or.inl ⟨by kernel_rfl, ?_⟩) (by assumption) ?_
      rotate_left 1
      · (intro w hSw; (try dsimp only at hSw); go_simp) <;> (try with_reducible rfl)
      try simp only [Act.put, List.setIfInBounds_toArray, List.set_cons_zero, List.set_cons_succ, List.getElem_toArray, List.getElem_cons_succ, List.getElem_cons_zero]
      refine wpAnyH_take (i := 24) (v := ?_) rfl (by kernel_rfl) (by kernel_rfl) (by kernel_rfl) (fun _ _ _ h => h) (Or.inl ⟨by kernel_rfl, ?_⟩) (by assumption) ?_
      rotate_left 1
      · (intro w hSw; (try dsimp only at hSw); go_simp) <;> (try with_reducible rfl)
      try simp only [Act.put, List.setIfInBounds_toArray, List.set_cons_zero, List.set_cons_succ, List.getElem_toArray, List.getElem_cons_succ, List.getElem_cons_zero]
      refine wpAnyH_take (i := 25) (v := ?_) rfl (by kernel_rfl) (by kernel_rfl) (by kernel_rfl) (fun _ _ _ h => h) (Or.inl ⟨by kernel_rfl, ?_⟩) (by assumption) ?_
      rotate_left 1
      · (intro w hSw; (try dsimp only at hSw); go_simp) <;> (try with_reducible rfl)
      try simp only [Act.put, List.setIfInBounds_toArray, List.set_cons_zero, List.set_cons_succ, List.getElem_toArray, List.getElem_cons_succ, List.getElem_cons_zero]
      refine wpAnyH_take (i := 26) (v := undef) rfl (by kernel_rfl) (by kernel_rfl) (by kernel_rfl) (fun _ _ _ h => h) (Or.inr ⟨by kernel_rfl, rfl⟩) (by assumption) ?_
      try simp only [Act.put, List.setIfInBounds_toArray, List.set_cons_zero, List.set_cons_succ, List.getElem_toArray, List.getElem_cons_succ, List.getElem_cons_zero]
      refine wpAnyH_take (i := 27) (v := undef) rfl (by kernel_rfl) (by kernel_rfl) (by kernel_rfl) (fun _ _ _ h => h) (Or.inr ⟨by kernel_rfl, rfl⟩) (by assumption) ?_
      try simp only [Act.put, List.setIfInBounds_toArray, List.set_cons_zero, List.set_cons_succ, List.getElem_toArray, List.getElem_cons_succ, List.getElem_cons_zero]
      refine wpAnyH_take (i := 28) (v := undef) rfl (by kernel_rfl) (by kernel_rfl) (by kernel_rfl) (fun _ _ _ h => h) (Or.inr ⟨by kernel_rfl, rfl⟩) (by assumption) ?_
      try simp only [Act.put, List.setIfInBounds_toArray, List.set_cons_zero, List.set_cons_succ, List.getElem_toArray, List.getElem_cons_succ, List.getElem_cons_zero]
      refine wpAnyH_take (i := 29) (v := ?_) rfl (by kernel_rfl) (by kernel_rfl) (by kernel_rfl) (fun _ _ _ h => h) (Or.inl ⟨by kernel_rfl, ?_⟩) (by assumption) ?_
      rotate_left 1
      · (intro w hSw; (try dsimp only at hSw); go_simp) <;> (try with_reducible rfl)
      try simp only [Act.put, List.setIfInBounds_toArray, List.set_cons_zero, List.set_cons_succ, List.getElem_toArray, List.getElem_cons_succ, List.getElem_cons_zero]
      refine wpAnyH_take (i := 30) (v := ?_) rfl (by kernel_rfl) (by kernel_rfl) (by kernel_rfl) (fun _ _ _ h => h) (Or.inl ⟨by kernel_rfl, ?_⟩) (by assumption) ?_
      rotate_left 1
      · (intro w hSw; (try dsimp only at hSw); go_simp) <;> (try with_reducible rfl)
      try simp only [Act.put, List.setIfInBounds_toArray, List.set_cons_zero, List.set_cons_succ, List.getElem_toArray, List.getElem_cons_succ, List.getElem_cons_zero]
      refine wpAnyH_take (i := 31) (v := ?_) rfl (by kernel_rfl) (by kernel_rfl) (by kernel_rfl) (fun _ _ _ h => h) (Or.inl ⟨by kernel_rfl, ?_⟩) (by assumption) ?_
      rotate_left 1
      · (intro w hSw; (try dsimp only at hSw); go_simp) <;> (try with_reducible rfl)
      try simp only [Act.put, List.setIfInBounds_toArray, List.set_cons_zero, List.set_cons_succ, List.getElem_toArray, List.getElem_cons_succ, List.getElem_cons_zero]
      refine wpAnyH_take (i := 32) (v := ?_) rfl (by kernel_rfl) (by kernel_rfl) (by kernel_rfl) (fun _ _ _ h => h) (Or.inl ⟨by kernel_rfl, ?_⟩) (by assumption) ?_
      rotate_left 1
      · (intro w hSw; (try dsimp only at hSw); go_simp) <;> (try with_reducible rfl)
      try simp only [Act.put, List.setIfInBounds_toArray, List.set_cons_zero, List.set_cons_succ, List.getElem_toArray, List.getElem_cons_succ, List.getElem_cons_zero]
      refine wpAnyH_take (i := 33) (v := ?_) rfl (by kernel_rfl) (by kernel_rfl) (by kernel_rfl) (fun _ _ _ h => h) (Or.inl ⟨by kernel_rfl, ?_⟩) (by assumption) ?_
      rotate_left 1
      · (intro w hSw; (try dsimp only at hSw); go_simp) <;> (try with_reducible rfl)
      try simp only [Act.put, List.setIfInBounds_toArray, List.set_cons_zero, List.set_cons_succ, List.getElem_toArray, List.getElem_cons_succ, List.getElem_cons_zero]
      refine wpAnyH_take (i := 34) (v := ?_) rfl (by kernel_rfl) (by kernel_rfl) (by kernel_rfl) (fun _ _ _ h => h) (Or.inl ⟨by kernel_rfl, ?_⟩) (by assumption) ?_
      rotate_left 1
      · (intro w hSw; (try dsimp only at hSw); go_simp) <;> (try with_reducible rfl)
      try simp only [Act.put, List.setIfInBounds_toArray, List.set_cons_zero, List.set_cons_succ, List.getElem_toArray, List.getElem_cons_succ, List.getElem_cons_zero]
      refine wpAnyH_ready (rs := [35]) (by kernel_rfl) (by simp) ?_
      refine AllReadyH.cons rfl (fun K hK => ?_) AllReadyH.nil
      go_simp
      refine (refSame A1 A5 xf.size.length n5 c1 c5 xf.size xf.size _ kk5.2.2.2.2.1 kk5.2.2.2.2.2.1 (by omega) (by have := HN5.out; omega)).mono ?_
      rw [decide_eq_true (show xf.size = xf.size from rfl)]
      rintro e ww6 ⟨rfl, bb6⟩
      have bb6 := Qt.below (B := ww5.heap.size) bb6
      have bb60 := bb6
      have bb6 := bb5.trans (Below.mono bb6 bb5.size)
      have kk6 := K8.out _ bb6
      go_wp2_with fail
      refine hK.out _ _ ?_ (fun hHeld => ?_)
      · (try dsimp only); exact kk6.1
      clear hK K
      try simp only [Act.put, List.setIfInBounds_toArray, List.set_cons_zero, List.set_cons_succ, List.getElem_toArray, List.getElem_cons_succ, List.getElem_cons_zero]
      refine wpAnyH_take (i := 36) (v := ?_) rfl (by kernel_rfl) (by kernel_rfl) (by kernel_rfl) (fun _ _ _ h => h) (Or.inl ⟨by kernel_rfl, ?_⟩) (by assumption) ?_
      rotate_left 1
      · (intro w hSw; (try dsimp only at hSw); go_simp) <;> (try with_reducible rfl)
      try simp only [Act.put, List.setIfInBounds_toArray, List.set_cons_zero, List.set_cons_succ, List.getElem_toArray, List.getElem_cons_succ, List.getElem_cons_zero]
      refine wpAnyH_take (i := 37) (v := ?_) rfl (by kernel_rfl) (by kernel_rfl) (by kernel_rfl) (fun _ _ _ h => h) (Or.inl ⟨by kernel_rfl, ?_⟩) (by assumption) ?_
      rotate_left 1
      · (intro w hSw; (try dsimp only at hSw); go_simp) <;> (try with_reducible rfl)
      try simp only [Act.put, List.setIfInBounds_toArray, List.set_cons_zero, List.set_cons_succ, List.getElem_toArray, List.getElem_cons_succ, List.getElem_cons_zero]
      refine wpAnyH_take (i := 38) (v := ?_) rfl (by kernel_rfl) (by kernel_rfl) (by kernel_rfl) (fun _ _ _ h => h) (Or.inl ⟨by kernel_rfl, ?_⟩) (by assumption) ?_
      rotate_left 1
      · (intro w hSw; (try dsimp only at hSw); go_simp) <;> (try with_reducible rfl)
      try simp only [Act.put, List.setIfInBounds_toArray, List.set_cons_zero, List.set_cons_succ, List.getElem_toArray, List.getElem_cons_succ, List.getElem_cons_zero]
      refine wpAnyH_take (i := 39) (v := ?_) rfl (by kernel_rfl) (by kernel_rfl) (by kernel_rfl) (fun _ _ _ h => h) (Or.inl ⟨by kernel_rfl, ?_⟩) (by assumption) ?_
      rotate_left 1
      · (intro w hSw; (try dsimp only at hSw); go_simp) <;> (try with_reducible rfl)
      try simp only [Act.put, List.setIfInBounds_toArray, List.set_cons_zero, List.set_cons_succ, List.getElem_toArray, List.getElem_cons_succ, List.getElem_cons_zero]
      refine wpAnyH_take (i := 40) (v := ?_) rfl (by kernel_rfl) (by kernel_rfl) (by kernel_rfl) (fun _ _ _ h => h) (Or.inl ⟨by kernel_rfl, ?_⟩) (by assumption) ?_
      rotate_left 1
      · (intro w hSw; (try dsimp only at hSw); go_simp) <;> (try with_reducible rfl)
      try simp only [Act.put, List.setIfInBounds_toArray, List.set_cons_zero, List.set_cons_succ, List.getElem_toArray, List.getElem_cons_succ, List.getElem_cons_zero]
      refine wpAnyH_ready (rs := [41]) (by kernel_rfl) (by simp) ?_
      refine AllReadyH.cons rfl (fun K hK => ?_) AllReadyH.nil
      go_simp
      refine (refSame B A6 k n6 d c6 lb lb _ kk6.2.2.2.2.2.2.1 kk6.2.2.2.2.2.2.2.1 (by omega) (by have := HN6.out; omega)).mono ?_
      rw [decide_eq_true (show lb = lb from rfl)]
      rintro e ww7 ⟨rfl, bb7⟩
      have bb7 := Qt.below (B := ww6.heap.size) bb7
      have bb70 := bb7
      have bb7 := bb6.trans (Below.mono bb7 bb6.size)
      have kk7 := K8.out _ bb7
      go_wp2_with fail
      refine hK.out _ _ ?_ (fun hHeld => ?_)
      · (try dsimp only); exact kk7.1
      clear hK K
      try simp only [Act.put, List.setIfInBounds_toArray, List.set_cons_zero, List.set_cons_succ, List.getElem_toArray, List.getElem_cons_succ, List.getElem_cons_zero]
      refine wpAnyH_take (i := 42) (v := ?_) rfl (by kernel_rfl) (by kernel_rfl) (by kernel_rfl) (fun _ _ _ h => h) (Or.inl ⟨by kernel_rfl, ?_⟩) (by assumption) ?_
      rotate_left 1
      · (intro w hSw; (try dsimp only at hSw); go_simp) <;> (try with_reducible rfl)
      try simp only [Act.put, List.setIfInBounds_toArray, List.set_cons_zero, List.set_cons_succ, List.getElem_toArray, List.getElem_cons_succ, List.getElem_cons_zero]
      refine wpAnyH_take (i := 43) (v := ?_) rfl (by kernel_rfl) (by kernel_rfl) (by kernel_rfl) (fun _ _ _ h => h) (Or.inl ⟨by kernel_rfl, ?_⟩) (by assumption) ?_
      rotate_left 1
      · (intro w hSw; (try dsimp only at hSw); go_simp) <;> (try with_reducible rfl)
      try simp only [Act.put, List.setIfInBounds_toArray, List.set_cons_zero, List.set_cons_succ, List.getElem_toArray, List.getElem_cons_succ, List.getElem_cons_zero]
      refine wpAnyH_done (by kernel_rfl) ?_ _
      go_wp2_with fail
      go_meet
      exact ⟨rfl, bb7⟩
  case rest =>
    obtain ⟨rfl, b14⟩ := hcut
    obtain ⟨_, _, _, _, _, _, _, _, _, s14, t14, bw14⟩ := K8.out _ b14
    obtain ⟨eM, eB⟩ := HAG.out
    rcases CS.out with ⟨g64, rfl, rfl⟩ | ⟨g64, rfl, hm8, hB8⟩
    · have q1 : (64 : Int) < (m9 : Int) := by omega
      clear eB
      go_wp2
      go_ret
      exact ⟨rfl, by first | exact bw14 | (rw [hRe.out]; exact bw14)⟩
    · have q1 : ¬ (64 : Int) < (m9 : Int) := by omega
      have hm9 : m9 ≤ 1000 := by have := HM9.out; omega
      have hm88 : m8 ≤ 1000 := by omega
      have q2 : (m9 : Int) ≤ 64 := by omega
      rw [hB8, ← eB] at s14
      clear eM eB hm8 hB8
      go_wp2_with fail
      refine (refSame A8 A9 m8 m9 c8 c9 B9 B9 _ s14 t14 (by omega) (by omega)).mono ?_
      rw [decide_eq_true (show B9 = B9 from rfl)]
      rintro e w15 ⟨rfl, q15⟩
      have bw15 := (K8.out _ (below_st3 b14 q15.below)).2.2.2.2.2.2.2.2.2.2.2
      go_wp2
      go_ret
      exact ⟨rfl, by first | exact bw15 | (rw [hRe.out]; exact bw15)⟩

theorem lawContents (xb : Bool) (A B : Option Addr) (na ca nb cb : Nat) (la lb : List UInt8) (w : World) (ha : Bs w A na la) (hb : Bs w B nb lb) (h1 : na ≤ ca) (h2 : nb ≤ cb) (ht : Tab w) :
    Calls Tryd.prog 3 #[.agg #[.bool xb, .slice A na ca], .slice B nb cb] w fun e w' => e = .returned (.bool true) ∧ Below w.heap.size w w' :=
  lawContents1 ⟨xb, la⟩ _ A B na ca nb (min nb 200) cb (lb.take (min nb 200)) _ w ht (NumV.mk' xb ha h1) (hb.take (Nat.min_le_left _ _)) rfl (Nm.few_len _) (show _ = _ by split <;> omega) h2 (Nat.min_le_right _ _) rfl

end Go.Proofs.YtbjiknfebocepaaDoor
