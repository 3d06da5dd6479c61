/-
  The law BitsStrings.
-/
import Derived.Test.YtdebekedilogoaaBp
namespace Go.Proofs.Ytdebekedilogoaa
open Go.RowKit
set_option linter.unusedVariables false
set_option linter.unusedSimpArgs false
set_option maxRecDepth 4000

set_option maxHeartbeats 6400000 in
theorem lawStrings1 (u i : Int) (A : Option Addr) (n0 n c : Nat) (l : List UInt8) (w : World) (hn0 : n = min n0 300) (hb : Bs w A n l) (hc0 : n0 ≤ c) (hi1 : -9223372036854775808 ≤ i) (hi2 : i ≤ 9223372036854775807) :
    Calls Try.prog 3 #[.agg #[.int .i64 u, .slice A n0 c], .int .i64 i] w fun e w' => e = .returned (.bool true) ∧ Below w.heap.size w w' := by
  have hc : n ≤ c := by omega
  have hn : n ≤ 300 := by omega
  have HL := Lib.hid hb.len
  have hR := Blk.new2 w (.int .i64 u) (.slice A n0 c) 24
  have b0 := below_alloc1 w (.cells #[.int .i64 u, .slice A n0 c] 24)
  have hb0 := hb.below b0
  go_enter Try.func3, Try.ntmps3
  go_upto_region 1 with (fail)
  generalize (w.alloc (Obj.cells #[.int .i64 u, .slice A n0 c] 24)) = W0 at *
  obtain ⟨r0, r1, _, _⟩ := hR.two
  have T1 := lw5To u A n0 c W0 hc0
  rw [← hn0] at T1
  clear hn0 hb
  go_wp2_with fail
  refine T1.mono ?_
  rintro e w1 ⟨rfl, b1⟩
  have hR1 := hR.below b1
  have hb1 := hb0.below b1
  have b1 := below_st b0 b1
  clear T1 r0 r1 hR hb0 b0
  have hX := Blk.new2 w1 (.int .i64 u) (.slice A n c) 25
  have hR2 := hR1.alloc (.cells #[.int .i64 u, .slice A n c] 25)
  have hb2 := hb1.below (below_alloc1 w1 (.cells #[.int .i64 u, .slice A n c] 25))
  have b2 := b1.alloc b1.size (.cells #[.int .i64 u, .slice A n c] 25)
  have hne : w1.heap.size ≠ w.heap.size := by have := hR1.lt; omega
  go_upto_region 2 with (fail)
  generalize (w1.alloc (Obj.cells #[.int .i64 u, .slice A n c] 25)) = W2 at *
  generalize w1.heap.size = g at *
  clear hR1 hb1 b1
  obtain ⟨x0, x1, _, _⟩ := hX.two
  go_wp2_with fail
  refine (lw5Of u A n c _).mono ?_
  rintro e w3 ⟨rfl, b3⟩
  have hR3 := hR2.below b3
  have hX3 := hX.below b3
  have hb3 := hb2.below b3
  have b3 := below_st b2 b3
  clear x0 x1 hX hR2 hb2 b2
  obtain ⟨r0, r1, r2, r3⟩ := hR3.two
  have hR4 := hR3.put (.int .i64 u) (.slice A n c)
  have hX4 := hX3.putOther hne (.int .i64 u) (.slice A n c)
  have hb4 := hb3.put hR3 (NoB.str _ _ _ _) (.int .i64 u) (.slice A n c)
  have b4 := below_set2 (R := w.heap.size) b3 b3.size (Nat.le_refl _) (.int .i64 u) (.slice A n c)
  go_upto_region 3 with (fail)
  generalize (w3.setCell ⟨w.heap.size, 0, none⟩ (.int .i64 u)).setCell ⟨w.heap.size, 1, none⟩ (.slice A n c) = W4 at *
  clear r0 r1 r2 r3 hR3 hX3 hb3 b3
  obtain ⟨r0, r1, _, _⟩ := hR4.two
  -- from here on only memory is made
  have ST : Hid (∀ W, Below W4.heap.size W4 W → (W.cell? ⟨w.heap.size, 0, none⟩ = some (.int .i64 u) ∧ W.cell? ⟨w.heap.size, 1, none⟩ = some (.slice A n c) ∧ W.cell? ⟨g, 0, none⟩ = some (.int .i64 u) ∧ W.cell? ⟨g, 1, none⟩ = some (.slice A n c)) ∧ Bs W A n l ∧ Below w.heap.size w W) :=
    fun W hW => ⟨⟨(hR4.below hW).two.1, (hR4.below hW).two.2.1, (hX4.below hW).two.1, (hX4.below hW).two.2.1⟩, hb4.below hW, below_st b4 hW⟩
  go_wp2_with fail
  refine (refCopy A n c l _ hb4 (by omega)).mono ?_
  rintro e w5 ⟨A5, n5, c5, rfl, o5, B5⟩
  have s5 := o5.bs.1
  clear r0 r1 hR4 hX4 hb4 b4 o5
  obtain ⟨⟨r0, r1, x0, x1⟩, hb5, _⟩ := ST.out _ B5
  have hn5 : n5 ≤ 300 := by have := s5.len; have := HL.out; omega
  go_wp2_with fail
  refine (rf5Right u A n c l _ hb5 hc (by omega)).mono ?_
  rintro e w6 ⟨rfl, B6⟩
  have s6 := s5.below B6
  have B6 := below_st B5 B6
  clear r0 r1 x0 x1 hb5 s5 B5
  obtain ⟨⟨r0, r1, x0, x1⟩, hb6, _⟩ := ST.out _ B6
  cases hr : rightS u l
  · go_wp2_with fail
    refine (btContentsNo u A n c l _ hb6 (by omega) hr).mono ?_
    rintro e w7 ⟨rfl, B7⟩
    have s7 := s6.below B7
    have B7 := below_st B6 B7
    clear r0 r1 x0 x1 hb6 s6 B6
    obtain ⟨⟨r0, r1, x0, x1⟩, hb7, _⟩ := ST.out _ B7
    go_wp2_with fail
    refine (known5 _).mono ?_
    rintro e w8 ⟨rfl, B8⟩
    have s8 := s7.below B8
    have B8 := below_st B7 B8
    clear r0 r1 x0 x1 hb7 s7 B7
    obtain ⟨⟨r0, r1, x0, x1⟩, hb8, _⟩ := ST.out _ B8
    have R8 := btRight u A n c l w8 hb8 (by omega)
    rw [hr] at R8
    go_wp2_with fail
    refine R8.mono ?_
    rintro e w9 ⟨rfl, B9⟩
    have s9 := s8.below B9
    have B9 := below_st B8 B9
    clear r0 r1 x0 x1 hb8 s8 B8 R8
    obtain ⟨⟨r0, r1, x0, x1⟩, hb9, _⟩ := ST.out _ B9
    have S9 := refSame A A5 n n5 c c5 l l w9 hb9 s9 (by omega) (by omega)
    rw [decide_eq_true (show l = l from rfl)] at S9
    go_wp2_with fail
    refine S9.mono ?_
    rintro e w10 ⟨rfl, q10⟩
    have B10 := B9.trans q10.below
    clear r0 r1 x0 x1 hb9 s9 B9 S9
    obtain ⟨⟨r0, r1, x0, x1⟩, hb10, _⟩ := ST.out _ B10
    go_wp2_with fail
    refine (btLenNo u A n c l _ hb10 (by omega) hr).mono ?_
    rintro e w11 ⟨rfl, B11⟩
    have B11 := below_st B10 B11
    clear r0 r1 x0 x1 hb10 B10
    obtain ⟨⟨r0, r1, x0, x1⟩, hb11, _⟩ := ST.out _ B11
    have H11 := btHas u i A n c l _ hb11 (by omega)
    rw [show hasS u l i = false by unfold hasS lenA; rw [hr, if_neg (by simp)]; cases h0 : decide (0 ≤ i) <;> simp; intro h1; simp at h0; omega] at H11
    go_wp2_with fail
    refine H11.mono ?_
    rintro e w12 ⟨rfl, B12⟩
    have B12 := below_st B11 B12
    have b12 := (ST.out _ B12).2.2
    go_wp2
    go_ret
    exact ⟨rfl, b12⟩
  · have C7 := btContents u A n c l w6 hb6 hc (by omega) hr
    go_wp2_with fail
    refine C7.mono ?_
    rintro e w7 ⟨A7, n7, c7, rfl, o7, B7⟩
    have s7 := s6.below B7
    have t7 := o7.bs.1
    have B7 := below_st B6 B7
    clear r0 r1 x0 x1 hb6 s6 B6 C7 o7
    obtain ⟨⟨r0, r1, x0, x1⟩, hb7, _⟩ := ST.out _ B7
    go_wp2_with fail
    refine (known5 _).mono ?_
    rintro e w8 ⟨rfl, B8⟩
    have s8 := s7.below B8
    have t8' := t7.below B8
    have B8 := below_st B7 B8
    clear r0 r1 x0 x1 hb7 s7 B7 t7
    obtain ⟨⟨r0, r1, x0, x1⟩, hb8, _⟩ := ST.out _ B8
    have R8 := btRight u A n c l w8 hb8 (by omega)
    rw [hr] at R8
    go_wp2_with fail
    refine R8.mono ?_
    rintro e w9 ⟨rfl, B9⟩
    have s9 := s8.below B9
    have t9 := t8'.below B9
    have B9 := below_st B8 B9
    clear r0 r1 x0 x1 hb8 s8 B8 R8 t8'
    obtain ⟨⟨r0, r1, x0, x1⟩, hb9, _⟩ := ST.out _ B9
    have S9 := refSame A A5 n n5 c c5 l l w9 hb9 s9 (by omega) (by omega)
    rw [decide_eq_true (show l = l from rfl)] at S9
    go_wp2_with fail
    refine S9.mono ?_
    rintro e w10 ⟨rfl, q10⟩
    have t10 := t9.qt q10
    have B10 := B9.trans q10.below
    clear r0 r1 x0 x1 hb9 s9 B9 S9 t9
    obtain ⟨⟨r0, r1, x0, x1⟩, hb10, _⟩ := ST.out _ B10
    go_wp2_with fail
    refine (rf5Bits u A n c l _ hb10 (by omega) hr).mono ?_
    rintro e w11 ⟨A11, c11, rfl, hc11, z11, B11⟩
    have t11 := t10.below B11
    have B11 := below_st B10 B11
    clear r0 r1 x0 x1 hb10 B10 t10
    obtain ⟨⟨r0, r1, x0, x1⟩, hb11, _⟩ := ST.out _ B11
    have HAS : Hid (∀ W, Bs W A n l → ∀ j : Int, Calls Try.prog 17 #[.agg #[.int .i64 u, .slice A n c], .int .i64 j] W fun e w' => e = .returned (.bool (hasS u l j)) ∧ Below W.heap.size W w') := fun W hW j => btHas u j A n c l W hW (by omega)
    have LEN : Hid (∀ W, Bs W A n l → Calls Try.prog 16 #[.agg #[.int .i64 u, .slice A n c]] W fun e w' => e = .returned (.int .i64 (lenS u l : Int)) ∧ Below W.heap.size W w') := fun W hW => btLenYes u A n c l W hW (by omega) hr
    have CNT := Lib.hid (fun W (hW : Bs W A n l) => rf5Contents u A n c l W hW (by omega) hr)
    have BIT : Hid (∀ j : Nat, j < lenS u l → hasS u l j = bitS l j ∧ zth (bitsS u l) j = ((bitS l j).toNat : Int)) := fun j hj => ⟨by unfold hasS lenA; rw [if_pos hr, decide_eq_true (by omega), decide_eq_true (by omega)]; simp, bitsS_get hj⟩
    have OUT : Hid (∀ j : Int, j < 0 ∨ (lenS u l : Int) ≤ j → hasS u l j = false) := by
      intro j hj
      unfold hasS lenA
      rw [if_pos hr]
      rcases hj with h | h
      · rw [decide_eq_false (by omega)]; rfl
      · rw [decide_eq_false (p := j < _) (by omega)]; simp
    have hlen : lenS u l ≤ 8 * n := by have := HL.out; unfold lenS; omega
    generalize lenS u l = len at *
    by_cases l0 : 0 < len
    · have l1 : (0 : Int) < (len : Int) := by omega
      obtain ⟨b, o, hA11, _⟩ := z11.at_ l0
      subst hA11
      have CELL : Hid (∀ W, Zs W (some ⟨b, o, none⟩) len (bitsS u l) → ∀ j : Nat, j < len → W.cell? ⟨b, o + j, none⟩ = some (.int .i64 ((bitS l j).toNat : Int))) := by
        intro W hW j hj
        obtain ⟨b', o', e, hcj⟩ := hW.at_ hj
        cases e
        rw [(BIT.out j hj).2] at hcj
        exact hcj
      obtain ⟨k, hk, hkl⟩ : ∃ k : Nat, wrap64 ((IntKind.u64.wrap i).tmod (len : Int)) = (k : Int) ∧ k < len := by
        have h1 : 0 ≤ IntKind.u64.wrap i := by simp [IntKind.wrap, IntKind.bits, IntKind.signed]; omega
        have h2 : (IntKind.u64.wrap i).tmod (len : Int) = IntKind.u64.wrap i % (len : Int) := Int.tmod_eq_emod_of_nonneg h1
        have h3 := Int.emod_nonneg (IntKind.u64.wrap i) (show (len : Int) ≠ 0 by omega)
        have h4 := Int.emod_lt_of_pos (IntKind.u64.wrap i) l1
        rw [h2]
        refine ⟨(IntKind.u64.wrap i % (len : Int)).toNat, ?_, by omega⟩
        generalize IntKind.u64.wrap i % (len : Int) = q at *
        simp [wrap64, IntKind.wrap, IntKind.bits, IntKind.signed]
        omega
      have hk1 : (k : Int) < (len : Int) := by omega
      have k0 : (0 : Int) ≤ (k : Int) := by omega
      have hK : hasS u l (k : Int) = bitS l k := (BIT.out k hkl).1
      have CK : Hid (∀ W, Zs W (some ⟨b, o, none⟩) len (bitsS u l) → W.cell? ⟨b, o + k, none⟩ = some (.int .i64 ((bitS l k).toNat : Int))) := fun W hW => CELL.out W hW k hkl
      have eK : (((bitS l k).toNat : Int) == 1) = bitS l k := by cases bitS l k <;> rfl
      have eK2 : (bitS l k == bitS l k) = true := by simp
      have CS : (decide (0 ≤ i) = false ∧ hasS u l i = false ∧ Hid (∀ W, Zs W (some ⟨b, o, none⟩) len (bitsS u l) → True)) ∨ (decide (0 ≤ i) = true ∧ decide (i < (len : Int)) = false ∧ hasS u l i = false ∧ Hid (∀ W, Zs W (some ⟨b, o, none⟩) len (bitsS u l) → True)) ∨
          (decide (0 ≤ i) = true ∧ decide (i < (len : Int)) = true ∧ 0 ≤ i ∧ i < (len : Int) ∧ hasS u l i = bitS l i.toNat ∧ Hid (∀ W, Zs W (some ⟨b, o, none⟩) len (bitsS u l) → W.cell? ⟨b, o + i.toNat, none⟩ = some (.int .i64 ((bitS l i.toNat).toNat : Int))) ∧
            (((bitS l i.toNat).toNat : Int) == 1) = bitS l i.toNat) := by
        by_cases h0 : 0 ≤ i
        · by_cases h1 : i < (len : Int)
          · refine .inr (.inr ⟨decide_eq_true h0, decide_eq_true h1, h0, h1, ?_, fun W hW => CELL.out W hW _ (by omega), by cases bitS l i.toNat <;> rfl⟩)
            have := (BIT.out i.toNat (by omega)).1
            rw [Int.toNat_of_nonneg h0] at this
            exact this
          · exact .inr (.inl ⟨decide_eq_true h0, decide_eq_false h1, OUT.out i (.inr (by omega)), fun _ _ => trivial⟩)
        · exact .inl ⟨decide_eq_false h0, OUT.out i (.inl (by omega)), fun _ _ => trivial⟩
      go_upto_region 14 with (fail)
      rw [hk]
      clear CELL BIT OUT hk
      rcases CS with ⟨d0, hI, CI⟩ | ⟨d0, d1, hI, CI⟩ | ⟨d0, d1, i0, i1, hI, CI, eI⟩
      all_goals
        go_wp2_with fail
        refine (CNT.out _ hb11).mono ?_
        rintro e w12 ⟨A12, n12, c12, rfl, o12, B12⟩
        have s12 := o12.bs.1
        have t12 := t11.below B12
        have z12 := z11.below B12
        have B12 := below_st B11 B12
        clear r0 r1 x0 x1 hb11 B11 t11 z11 o12
        obtain ⟨⟨r0, r1, x0, x1⟩, hb12, _⟩ := ST.out _ B12
        have h7l : n7 ≤ 400 := by have := t12.len; simp [contS] at this; have := HL.out; omega
        have S12 := refSame A7 A12 n7 n12 c7 c12 _ _ w12 t12 s12 (by omega) (by have h1 := s12.len; have h2 := t12.len; omega)
        rw [decide_eq_true (show contS u l = contS u l from rfl)] at S12
        go_wp2_with fail
        refine S12.mono ?_
        rintro e w13 ⟨rfl, q13⟩
        have z13 := z12.qt q13
        have B13 := B12.trans q13.below
        clear r0 r1 x0 x1 hb12 B12 t12 z12 s12 S12
        obtain ⟨⟨r0, r1, x0, x1⟩, hb13, _⟩ := ST.out _ B13
        go_wp2_with fail
        refine (LEN.out _ hb13).mono ?_
        rintro e w14 ⟨rfl, B14⟩
        have z14 := z13.below B14
        have B14 := below_st B13 B14
        clear r0 r1 x0 x1 hb13 B13 z13
        obtain ⟨⟨r0, r1, x0, x1⟩, hb14, _⟩ := ST.out _ B14
        have ee : ((len : Int) == (len : Int)) = true := by simp
        have HI := HAS.out _ hb14 i
        rw [hI] at HI
        go_wp2_with fail
        refine HI.mono ?_
        rintro e w15 ⟨rfl, B15⟩
        have z15 := z14.below B15
        have B15 := below_st B14 B15
        clear r0 r1 x0 x1 hb14 B14 z14 HI
        obtain ⟨⟨r0, r1, x0, x1⟩, hb15, _⟩ := ST.out _ B15
        have cI := CI.out _ z15
        have HK := HAS.out _ hb15 (k : Int)
        rw [hK] at HK
        go_wp2_with fail
        refine HK.mono ?_
        rintro e w16 ⟨rfl, B16⟩
        have z16 := z15.below B16
        have B16 := below_st B15 B16
        clear r0 r1 x0 x1 hb15 B15 z15 HK cI
        have cK := CK.out _ z16
        have b16 := (ST.out _ B16).2.2
        go_wp2
        go_ret
        exact ⟨rfl, b16⟩

    · have hl0 : len = 0 := by omega
      subst hl0
      have CS : (decide (0 ≤ i) = false ∧ hasS u l i = false) ∨ (decide (0 ≤ i) = true ∧ decide (i < 0) = false ∧ hasS u l i = false) := by
        by_cases h0 : 0 ≤ i
        · exact .inr ⟨decide_eq_true h0, decide_eq_false (by omega), OUT.out i (.inr (by simpa using h0))⟩
        · exact .inl ⟨decide_eq_false h0, OUT.out i (.inl (by omega))⟩
      go_upto_region 14 with (fail)
      clear BIT OUT
      rcases CS with ⟨d0, hI⟩ | ⟨d0, d1, hI⟩
      all_goals
        go_wp2_with fail
        refine (CNT.out _ hb11).mono ?_
        rintro e w12 ⟨A12, n12, c12, rfl, o12, B12⟩
        have s12 := o12.bs.1
        have t12 := t11.below B12
        have z12 := z11.below B12
        have B12 := below_st B11 B12
        clear r0 r1 x0 x1 hb11 B11 t11 z11 o12
        obtain ⟨⟨r0, r1, x0, x1⟩, hb12, _⟩ := ST.out _ B12
        have h7l : n7 ≤ 400 := by have := t12.len; simp [contS] at this; have := HL.out; omega
        have S12 := refSame A7 A12 n7 n12 c7 c12 _ _ w12 t12 s12 (by omega) (by have h1 := s12.len; have h2 := t12.len; omega)
        rw [decide_eq_true (show contS u l = contS u l from rfl)] at S12
        go_wp2_with fail
        refine S12.mono ?_
        rintro e w13 ⟨rfl, q13⟩
        have z13 := z12.qt q13
        have B13 := B12.trans q13.below
        clear r0 r1 x0 x1 hb12 B12 t12 z12 s12 S12
        obtain ⟨⟨r0, r1, x0, x1⟩, hb13, _⟩ := ST.out _ B13
        go_wp2_with fail
        refine (LEN.out _ hb13).mono ?_
        rintro e w14 ⟨rfl, B14⟩
        have z14 := z13.below B14
        have B14 := below_st B13 B14
        clear r0 r1 x0 x1 hb13 B13 z13
        obtain ⟨⟨r0, r1, x0, x1⟩, hb14, _⟩ := ST.out _ B14
        have HI := HAS.out _ hb14 i
        rw [hI] at HI
        go_wp2_with fail
        refine HI.mono ?_
        rintro e w15 ⟨rfl, B15⟩
        have z15 := z14.below B15
        have B15 := below_st B14 B15
        clear r0 r1 x0 x1 hb14 B14 z14 HI
        obtain ⟨⟨r0, r1, x0, x1⟩, hb15, _⟩ := ST.out _ B15
        have HK := HAS.out _ hb15 i
        rw [hI] at HK
        go_wp2_with fail
        refine HK.mono ?_
        rintro e w16 ⟨rfl, B16⟩
        have z16 := z15.below B16
        have B16 := below_st B15 B16
        clear r0 r1 x0 x1 hb15 B15 z15 HK
        have b16 := (ST.out _ B16).2.2
        go_wp2
        go_ret
        exact ⟨rfl, b16⟩


theorem lawStrings (u i : Int) (A : Option Addr) (n c : Nat) (l : List UInt8) (w : World) (hb : Bs w A n l) (hc : n ≤ c) (hi1 : -9223372036854775808 ≤ i) (hi2 : i ≤ 9223372036854775807) :
    Calls Try.prog 3 #[.agg #[.int .i64 u, .slice A n c], .int .i64 i] w fun e w' => e = .returned (.bool true) ∧ Below w.heap.size w w' :=
  lawStrings1 u i A n (min n 300) c (l.take (min n 300)) w rfl (hb.take (Nat.min_le_left _ _)) hc hi1 hi2
end Go.Proofs.Ytdebekedilogoaa
