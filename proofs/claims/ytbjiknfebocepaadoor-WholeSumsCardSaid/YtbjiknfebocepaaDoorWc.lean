/-
  The contracts of the project's whole: sums of numbers.
-/
import Derived.Test.YtbjiknfebocepaaDoorWb
import Derived.Deep.RegionHeld3
import Derived.Deep.RegionWith
import Derived.Deep.RegionLaw
import Derived.Deep.Cut
import Derived.Deep.CutRange
namespace Go.Proofs.YtbjiknfebocepaaDoor
open Go.RowKit Go.Joins
set_option linter.unusedVariables false
set_option linter.unusedSimpArgs false
set_option maxRecDepth 4000

set_option maxHeartbeats 1600000 in
theorem whAdd (x y : Nm) (u v : Value) (w : World) (hx : NumV w x u) (hy : NumV w y v) (hn : x.size.length ≤ 900000) (hm : y.size.length ≤ 900000) :
    Calls Tryd.prog 25 #[u, v] w fun e w' => ∃ (s : Nm) (u' : Value), e = .returned u' ∧ NumV w' s u' ∧ s.ok ∧ s.z = x.z + y.z ∧ s.size.length ≤ max x.size.length y.size.length + 1 ∧ Below w.heap.size w w' := by
  obtain ⟨A, c, rfl, hb, hc⟩ := hx
  obtain ⟨A', c', rfl, hb', hc'⟩ := hy
  obtain ⟨xb, a⟩ := x
  obtain ⟨yb, b⟩ := y
  simp only at hb hc hn hb' hc' hm ⊢
  generalize hma : a.length = na at *
  generalize hmb : b.length = nb at *
  have HA := Lib.hid hma; clear hma
  have HB := Lib.hid hmb; clear hmb
  have hX : NumV w ⟨xb, a⟩ (.agg #[.bool xb, .slice A na c]) := NumV.mk' xb hb hc
  have hY : NumV w ⟨yb, b⟩ (.agg #[.bool yb, .slice A' nb c']) := NumV.mk' yb hb' hc'
  have hT := Three.start w 30 (.bool xb) (.slice A na c) (.bool yb) (.slice A' nb c') (.bool false) (.slice none 0 0)
  go_enter Tryd.func25, Tryd.ntmps25
  go_wp2
  generalize (((w.alloc (Obj.cells #[Value.bool xb, Value.slice A na c] 30)).alloc (Obj.cells #[Value.bool yb, Value.slice A' nb c'] 30)).alloc (Obj.cells #[Value.bool false, Value.slice none 0 0] 30)) = W0 at *
  generalize hR : w.heap.size = R at *
  have HR := Lib.hid hR; clear hR
  have KX : Hid (∀ W, Three w 30 R [.bool xb, .slice A na c] [.bool yb, .slice A' nb c'] [.bool false, .slice none 0 0] W → NumV W ⟨xb, a⟩ (.agg #[.bool xb, .slice A na c]) ∧ NumV W ⟨yb, b⟩ (.agg #[.bool yb, .slice A' nb c'])) :=
    fun W h => ⟨hX.frame h.2.2.2.1, hY.frame h.2.2.2.1⟩
  have CEL : Hid (∀ W, Three w 30 R [.bool xb, .slice A na c] [.bool yb, .slice A' nb c'] [.bool false, .slice none 0 0] W → W.cell? ⟨R, 0, none⟩ = some (.bool xb) ∧ W.cell? ⟨R, 1, none⟩ = some (.slice A na c) ∧ W.cell? ⟨R + 1, 0, none⟩ = some (.bool yb) ∧ W.cell? ⟨R + 1, 1, none⟩ = some (.slice A' nb c') ∧ W.frozen? ⟨R, 0, none⟩ = false ∧ W.frozen? ⟨R, 1, none⟩ = false ∧ W.frozen? ⟨R + 1, 0, none⟩ = false ∧ W.frozen? ⟨R + 1, 1, none⟩ = false) :=
    fun W h => ⟨h.1.cell 0, h.1.cell 1, h.2.1.cell 0, h.2.1.cell 1, h.1.free 0, h.1.free 1, h.2.1.free 0, h.2.1.free 1⟩
  obtain ⟨x0, hx0⟩ : ∃ x0, Nm.mk0 ⟨xb, a⟩ = x0 := ⟨_, rfl⟩
  obtain ⟨y0, hy0⟩ : ∃ y0, Nm.mk0 ⟨yb, b⟩ = y0 := ⟨_, rfl⟩
  have PX : Hid (∀ W, Three w 30 R [.bool xb, .slice A na c] [.bool yb, .slice A' nb c'] [.bool false, .slice none 0 0] W → Calls Tryd.prog 36 #[.agg #[.bool xb, .slice A na c]] W fun e w' => ∃ A1 c1, e = .returned (.agg #[.bool x0.below, .slice A1 x0.size.length c1]) ∧ Bs w' A1 x0.size.length x0.size ∧ x0.size.length ≤ c1 ∧ Three w 30 R [.bool xb, .slice A na c] [.bool yb, .slice A' nb c'] [.bool false, .slice none 0 0] w' ∧ Below W.heap.size W w') := by
    intro W h
    refine (whPlain ⟨xb, a⟩ _ W (KX.out W h).1 (by have := HA.out; simp; omega)).mono ?_
    rintro e w' ⟨v1, rfl, ⟨A1, c1, rfl, hs, hc⟩, hb⟩
    rw [hx0] at hs hc ⊢
    exact ⟨A1, c1, rfl, hs, hc, h.frame hb, hb⟩
  have PY : Hid (∀ W, Three w 30 R [.bool xb, .slice A na c] [.bool yb, .slice A' nb c'] [.bool false, .slice none 0 0] W → Calls Tryd.prog 36 #[.agg #[.bool yb, .slice A' nb c']] W fun e w' => ∃ A1 c1, e = .returned (.agg #[.bool y0.below, .slice A1 y0.size.length c1]) ∧ Bs w' A1 y0.size.length y0.size ∧ y0.size.length ≤ c1 ∧ Three w 30 R [.bool xb, .slice A na c] [.bool yb, .slice A' nb c'] [.bool false, .slice none 0 0] w' ∧ Below W.heap.size W w') := by
    intro W h
    refine (whPlain ⟨yb, b⟩ _ W (KX.out W h).2 (by have := HB.out; simp; omega)).mono ?_
    rintro e w' ⟨v1, rfl, ⟨A1, c1, rfl, hs, hc⟩, hb⟩
    rw [hy0] at hs hc ⊢
    exact ⟨A1, c1, rfl, hs, hc, h.frame hb, hb⟩
  have hT' : Three w 30 R [.bool xb, .slice A na c] [.bool yb, .slice A' nb c'] [.bool false, .slice none 0 0] W0.drew := ⟨hT.1, hT.2.1, hT.2.2.1, hT.2.2.2.1.drew, hT.2.2.2.2⟩
  obtain ⟨c00, c01, c10, c11, f00, f01, f10, f11⟩ := CEL.out _ hT
  go_cut [] from 6 (fun wc => ∃ A1 c1 A2 c2, Bs wc A1 x0.size.length x0.size ∧ x0.size.length ≤ c1 ∧ Bs wc A2 y0.size.length y0.size ∧ y0.size.length ≤ c2 ∧ Three w 30 R [.bool x0.below, .slice A1 x0.size.length c1] [.bool y0.below, .slice A2 y0.size.length c2] [.bool false, .slice none 0 0] wc)
  case first =>
    go_region_with (first
      | (go_at_call_of 36 (Value.agg #[Value.bool xb, Value.slice A na c]); refine (PX.out _ ?_).mono ?_; assumption; rintro e w1 ⟨A1, c1, rfl, hs1, hc1, hT1, hb1⟩; obtain ⟨c00, c01, c10, c11, f00, f01, f10, f11⟩ := CEL.out _ hT1)
      | (go_at_call_of 36 (Value.agg #[Value.bool yb, Value.slice A' nb c']); refine (PY.out _ ?_).mono ?_; assumption; rintro e w2 ⟨A2, c2, rfl, hs2, hc2, hT2, hb2⟩; obtain ⟨c00, c01, c10, c11, f00, f01, f10, f11⟩ := CEL.out _ hT2))

    all_goals
      go_wp2_with fail
      go_meet
      first
        | exact ⟨A1, c1, A2, c2, Three.putBs hT2 (by simp) (by simp) (by simp) (by simp) (hs1.below hb2), hc1, Three.putBs hT2 (by simp) (by simp) (by simp) (by simp) hs2, hc2, hT2.put rfl rfl⟩
        | exact ⟨A1, c1, A2, c2, Three.putBs hT1 (by simp) (by simp) (by simp) (by simp) hs1, hc1, Three.putBs hT1 (by simp) (by simp) (by simp) (by simp) (hs2.below hb1), hc2, hT1.put rfl rfl⟩
  case rest =>
  obtain ⟨A1, c1, A2, c2, hs1, hc1, hs2, hc2, hT2⟩ := hcut
  have hok1 : x0.ok := by rw [← hx0]; exact Nm.mk0_ok _
  have hok2 : y0.ok := by rw [← hy0]; exact Nm.mk0_ok _
  have hz1 : Hid (x0.z = Nm.z ⟨xb, a⟩) := by rw [← hx0]; exact Nm.mk0_z _
  have hz2 : Hid (y0.z = Nm.z ⟨yb, b⟩) := by rw [← hy0]; exact Nm.mk0_z _
  have hl1 : x0.size.length ≤ na := by rw [← hx0, ← HA.out]; exact Nm.mk0_len _
  have hl2 : y0.size.length ≤ nb := by rw [← hy0, ← HB.out]; exact Nm.mk0_len _
  clear KX CEL PX PY hT hT' hX hY c00 c01 c10 c11 f00 f01 f10 f11 hx0 hy0 W0 hb hb' hc hc'
  obtain ⟨c00, c01, c10, c11, f00, f01, f10, f11⟩ : wc.cell? ⟨R, 0, none⟩ = some (.bool x0.below) ∧ wc.cell? ⟨R, 1, none⟩ = some (.slice A1 x0.size.length c1) ∧ wc.cell? ⟨R + 1, 0, none⟩ = some (.bool y0.below) ∧ wc.cell? ⟨R + 1, 1, none⟩ = some (.slice A2 y0.size.length c2) ∧ wc.frozen? ⟨R, 0, none⟩ = false ∧ wc.frozen? ⟨R, 1, none⟩ = false ∧ wc.frozen? ⟨R + 1, 0, none⟩ = false ∧ wc.frozen? ⟨R + 1, 1, none⟩ = false :=
    ⟨hT2.1.cell 0, hT2.1.cell 1, hT2.2.1.cell 0, hT2.2.1.cell 1, hT2.1.free 0, hT2.1.free 1, hT2.2.1.free 0, hT2.2.1.free 1⟩
  go_wp2_with fail
  refine (whCompareSizes A1 A2 _ _ c1 c2 x0.size y0.size _ hs1 hs2 hok1.1 hok2.1).mono ?_
  rintro e w' ⟨rfl, rfl⟩
  go_upto_if 15 with fail
  go_cut [] from 10 (fun wd => ∃ (x1 y1 : Nm) (A1 : Option Addr) (c1 : Nat) (A2 : Option Addr) (c2 : Nat), Bs wd A1 x1.size.length x1.size ∧ Bs wd A2 y1.size.length y1.size ∧ x1.ok ∧ y1.ok ∧ Hid (x1.z + y1.z = Nm.z ⟨xb, a⟩ + Nm.z ⟨yb, b⟩) ∧ Hid (val y1.size ≤ val x1.size) ∧ y1.size.length ≤ x1.size.length ∧ x1.size.length ≤ max na nb ∧
      Three w 30 R [.bool x1.below, .slice A1 x1.size.length c1] [.bool y1.below, .slice A2 y1.size.length c2] [.bool false, .slice none 0 0] wd)
  case first =>
    by_cases hlt : val x0.size < val y0.size
    · have e1 : sg (val x0.size) (val y0.size) = -1 := by unfold sg; rw [if_pos (by omega)]
      rw [e1]
      have hll : x0.size.length ≤ y0.size.length := by
        have : ¬ y0.size.length < x0.size.length := fun e => by have := Nz.lt_of_len hok1.1 e; omega
        omega
      have HLT := Lib.hid hlt; clear hlt e1
      go_wp2
      go_meet
      exact ⟨y0, x0, A2, c2, A1, c1, Three.putBs hT2 (by simp) (by simp) (by simp) (by simp) hs2, Three.putBs hT2 (by simp) (by simp) (by simp) (by simp) hs1, hok2, hok1, by have := hz1.out; have := hz2.out; unfold Hid; omega, by have := HLT.out; unfold Hid; omega, hll, by omega, hT2.put rfl rfl⟩
    · have e1 : sg (val x0.size) (val y0.size) = 0 ∨ sg (val x0.size) (val y0.size) = 1 := by unfold sg; rw [if_neg (by omega)]; split <;> simp
      have hll : y0.size.length ≤ x0.size.length := by
        have : ¬ x0.size.length < y0.size.length := fun e => by have := Nz.lt_of_len hok2.1 e; omega
        omega
      have HLT := Lib.hid hlt; clear hlt
      rcases e1 with e1 | e1
      all_goals
        rw [e1]
        clear e1
        go_wp2
        go_meet
        exact ⟨x0, y0, A1, c1, A2, c2, hs1, hs2, hok1, hok2, by have := hz1.out; have := hz2.out; unfold Hid; omega, by have := HLT.out; unfold Hid; omega, hll, by omega, hT2⟩
  case rest =>
  obtain ⟨x1, y1, B1, d1, B2, d2, ks1, ks2, kok1, kok2, kz, kv, kl, kn, kT⟩ := hcut
  clear hs1 hs2 hc1 hc2 hT2 hok1 hok2 hz1 hz2 hl1 hl2 c00 c01 c10 c11 f00 f01 f10 f11
  have hlen1 : x1.size.length ≤ 900000 := by omega
  -- what the last region is told
  have FIN : Hid (∀ (s : List UInt8) (t : Int), s.length = x1.size.length + 1 → (val s : Int) = val x1.size + t * val y1.size → (t = 1 ∧ x1.below = y1.below ∨ t = -1 ∧ x1.below = !y1.below) →
      (Nm.mk0 ⟨x1.below, s⟩).ok ∧ (Nm.mk0 ⟨x1.below, s⟩).z = Nm.z ⟨xb, a⟩ + Nm.z ⟨yb, b⟩ ∧ (Nm.mk0 ⟨x1.below, s⟩).size.length ≤ max na nb + 1) := by
    intro s t hs hv ht
    refine ⟨Nm.mk0_ok _, ?_, ?_⟩
    · rw [Nm.mk0_z, ← kz.out]
      unfold Nm.z
      simp only
      rcases ht with ⟨rfl, hb⟩ | ⟨rfl, hb⟩ <;> rw [hb] <;> cases y1.below <;> simp <;> omega
    · have := Nm.mk0_len ⟨x1.below, s⟩
      simp only at this
      omega
  have kvl := kv.out
  have SUM : Hid (∀ (t : Int) (W : World), (t = 1 ∨ t = -1) → Three w 30 R [.bool x1.below, .slice B1 x1.size.length d1] [.bool y1.below, .slice B2 y1.size.length d2] [.bool false, .slice none 0 0] W → Bs W B1 x1.size.length x1.size → Bs W B2 y1.size.length y1.size →
      Calls Tryd.prog 45 #[.slice B1 x1.size.length d1, .slice B2 y1.size.length d2, .int .i64 t] W fun e w' => ∃ g s c, e = .returned (.slice (some ⟨g, 0, none⟩) s.length c) ∧ s.length ≤ c ∧ Bs w' (some ⟨g, 0, none⟩) s.length s ∧ Hid (s.length = x1.size.length + 1) ∧ Hid ((val s : Int) = val x1.size + t * val y1.size) ∧
        Three w 30 R [.bool x1.below, .slice B1 x1.size.length d1] [.bool y1.below, .slice B2 y1.size.length d2] [.bool false, .slice none 0 0] w' ∧ Below W.heap.size W w' ∧ w'.cell? ⟨R, 0, none⟩ = some (.bool x1.below) ∧ w'.cell? ⟨R, 1, none⟩ = some (.slice B1 x1.size.length d1) ∧ w'.cell? ⟨R + 1, 1, none⟩ = some (.slice B2 y1.size.length d2)) := by
    intro t W ht hT h1 h2
    refine (whSum B1 B2 _ _ d1 d2 x1.size y1.size t W h1 h2 ht (by omega) kl (by rcases ht with rfl | rfl <;> omega)).mono ?_
    rintro e w' ⟨g, s, c, rfl, hc, hg, hB, ⟨hl, hv⟩, hb⟩
    exact ⟨g, s, c, rfl, hc, hB.bs, hl, hv, hT.frame hb, hb, (hT.frame hb).1.cell 0, (hT.frame hb).1.cell 1, (hT.frame hb).2.1.cell 1⟩
  have PLN : Hid (∀ (s : List UInt8) (g c : Nat) (W : World), s.length = x1.size.length + 1 → s.length ≤ c → Bs W (some ⟨g, 0, none⟩) s.length s → Three w 30 R [.bool x1.below, .slice B1 x1.size.length d1] [.bool y1.below, .slice B2 y1.size.length d2] [.bool false, .slice none 0 0] W →
      Calls Tryd.prog 36 #[.agg #[.bool x1.below, .slice (some ⟨g, 0, none⟩) s.length c]] W fun e w' => ∃ A9 c9, e = .returned (.agg #[.bool (Nm.mk0 ⟨x1.below, s⟩).below, .slice A9 (Nm.mk0 ⟨x1.below, s⟩).size.length c9]) ∧ Bs w' A9 (Nm.mk0 ⟨x1.below, s⟩).size.length (Nm.mk0 ⟨x1.below, s⟩).size ∧ (Nm.mk0 ⟨x1.below, s⟩).size.length ≤ c9 ∧ Three w 30 R [.bool x1.below, .slice B1 x1.size.length d1] [.bool y1.below, .slice B2 y1.size.length d2] [.bool false, .slice none 0 0] w' ∧
        w'.cell? ⟨R, 0, none⟩ = some (.bool x1.below) ∧ w'.cell? ⟨R + 2, 0, none⟩ = some (.bool false) ∧ w'.cell? ⟨R + 2, 1, none⟩ = some (.slice none 0 0) ∧ w'.frozen? ⟨R + 2, 0, none⟩ = false ∧ w'.frozen? ⟨R + 2, 1, none⟩ = false ∧ w'.cell? ⟨R, 1, none⟩ = some (.slice B1 x1.size.length d1) ∧ w'.cell? ⟨R + 1, 1, none⟩ = some (.slice B2 y1.size.length d2)) := by
    intro s g c W hl hc hB hT
    refine (whPlain ⟨x1.below, s⟩ _ W (NumV.mk' _ hB hc) (by simp; omega)).mono ?_
    rintro e w' ⟨v1, rfl, ⟨A9, c9, rfl, hs, hc⟩, hb⟩
    have hT' := hT.frame hb
    exact ⟨A9, c9, rfl, hs, hc, hT', hT'.1.cell 0, hT'.2.2.1.cell 0, hT'.2.2.1.cell 1, hT'.2.2.1.free 0, hT'.2.2.1.free 1, hT'.1.cell 1, hT'.2.1.cell 1⟩
  obtain ⟨c00, c01, c10, c11⟩ : wc.cell? ⟨R, 0, none⟩ = some (.bool x1.below) ∧ wc.cell? ⟨R, 1, none⟩ = some (.slice B1 x1.size.length d1) ∧ wc.cell? ⟨R + 1, 0, none⟩ = some (.bool y1.below) ∧ wc.cell? ⟨R + 1, 1, none⟩ = some (.slice B2 y1.size.length d2) :=
    ⟨kT.1.cell 0, kT.1.cell 1, kT.2.1.cell 0, kT.2.1.cell 1⟩
  have kT' : Three w 30 R [.bool x1.below, .slice B1 x1.size.length d1] [.bool y1.below, .slice B2 y1.size.length d2] [.bool false, .slice none 0 0] wc.drew := ⟨kT.1, kT.2.1, kT.2.2.1, kT.2.2.2.1.drew, kT.2.2.2.2⟩
  obtain ⟨p, hp⟩ : ∃ p, x1.below = p := ⟨_, rfl⟩
  obtain ⟨q, hq⟩ : ∃ q, y1.below = q := ⟨_, rfl⟩
  rw [hp] at FIN SUM PLN c00 kT kT'
  rw [hq] at FIN SUM PLN c10 kT kT'
  clear hp hq
  generalize hN1 : x1.size.length = N1 at *
  generalize hN2 : y1.size.length = N2 at *
  clear hN1 hN2
  by_cases hpq : p = q
  · subst hpq
    have hpq : True := trivial
    go_wp2
    go_region_held3 (fun w' => w'.cell? ⟨R, 0, none⟩ = some (.bool p) ∧ w'.cell? ⟨R, 1, none⟩ = some (.slice B1 N1 d1) ∧ w'.cell? ⟨R + 1, 1, none⟩ = some (.slice B2 N2 d2)) (first | exact ⟨r0, r3, r4⟩ | exact ⟨q0, q1, q2⟩ | exact ⟨c00, c01, c11⟩ | exact ⟨(cell_set2 (by omega) 0).trans r0, (cell_set2 (by omega) 1).trans r3, (cell_set2 (by omega) 1).trans r4⟩) (first
      | (go_at_call 45; refine (SUM.out (1) _ (by simp) ?_ ?_ ?_).mono ?_; assumption; exact ks1; exact ks2; rintro e w1 ⟨g, s, cs, rfl, hsc, hsb, hsl, hsv, hT1, hb1, q0, q1, q2⟩)
      | (go_at_call 36; refine (PLN.out s g cs _ hsl.out hsc hsb ?_).mono ?_; assumption; rintro e w2 ⟨A9, c9, rfl, hs9, hc9, hT9, r0, r1, r2, f1, f2, r3, r4⟩))
    all_goals
      go_wp2
      refine bodyPost_ret (v := .agg #[.bool (Nm.mk0 ⟨p, s⟩).below, .slice A9 (Nm.mk0 ⟨p, s⟩).size.length c9]) (by simp [results, Tryd.results25, go_sem, r1, r2]) rfl ?_
      obtain ⟨g1, g2, g3⟩ := FIN.out s (1) hsl.out hsv.out (by simp [hpq])
      have hR2 := hT9.2.2.1.lt
      have hwR := hT9.2.2.2.2
      refine ⟨Nm.mk0 ⟨p, s⟩, _, rfl, ?_, g1, g2, g3, below_set2 hT9.2.2.2.1 (by omega) (by omega) _ _⟩
      refine NumV.mk' _ ?_ hc9
      refine hs9.only (((Only.refl (R + 2) w2).setCell rfl _).setCell rfl _) ?_
      intro o x hx
      rw [hT9.2.2.1.cell o] at hx
      rcases o with _ | _ | o <;> simp at hx
  · have hpq' : q = !p := by cases p <;> cases q <;> simp at hpq ⊢
    subst hpq'
    have e0 : (p != !p) = true := by cases p <;> rfl
    clear hpq
    have hpq : True := trivial
    go_wp2
    go_region_held3 (fun w' => w'.cell? ⟨R, 0, none⟩ = some (.bool p) ∧ w'.cell? ⟨R, 1, none⟩ = some (.slice B1 N1 d1) ∧ w'.cell? ⟨R + 1, 1, none⟩ = some (.slice B2 N2 d2)) (first | exact ⟨r0, r3, r4⟩ | exact ⟨q0, q1, q2⟩ | exact ⟨c00, c01, c11⟩ | exact ⟨(cell_set2 (by omega) 0).trans r0, (cell_set2 (by omega) 1).trans r3, (cell_set2 (by omega) 1).trans r4⟩) (first
      | (go_at_call 45; refine (SUM.out (-1) _ (by simp) ?_ ?_ ?_).mono ?_; assumption; exact ks1; exact ks2; rintro e w1 ⟨g, s, cs, rfl, hsc, hsb, hsl, hsv, hT1, hb1, q0, q1, q2⟩)
      | (go_at_call 36; refine (PLN.out s g cs _ hsl.out hsc hsb ?_).mono ?_; assumption; rintro e w2 ⟨A9, c9, rfl, hs9, hc9, hT9, r0, r1, r2, f1, f2, r3, r4⟩))
    all_goals
      go_wp2
      refine bodyPost_ret (v := .agg #[.bool (Nm.mk0 ⟨p, s⟩).below, .slice A9 (Nm.mk0 ⟨p, s⟩).size.length c9]) (by simp [results, Tryd.results25, go_sem, r1, r2]) rfl ?_
      obtain ⟨g1, g2, g3⟩ := FIN.out s (-1) hsl.out hsv.out (by simp [hpq])
      have hR2 := hT9.2.2.1.lt
      have hwR := hT9.2.2.2.2
      refine ⟨Nm.mk0 ⟨p, s⟩, _, rfl, ?_, g1, g2, g3, below_set2 hT9.2.2.2.1 (by omega) (by omega) _ _⟩
      refine NumV.mk' _ ?_ hc9
      refine hs9.only (((Only.refl (R + 2) w2).setCell rfl _).setCell rfl _) ?_
      intro o x hx
      rw [hT9.2.2.1.cell o] at hx
      rcases o with _ | _ | o <;> simp at hx

end Go.Proofs.YtbjiknfebocepaaDoor
