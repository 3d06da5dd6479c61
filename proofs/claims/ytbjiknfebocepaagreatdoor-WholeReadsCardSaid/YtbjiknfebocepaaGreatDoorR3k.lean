/-
  The contract of layer 3's reference: Parse.
-/
import Derived.Test.YtbjiknfebocepaaGreatDoorPar
import Derived.Test.YtbjiknfebocepaaGreatDoorR3
import Derived.Test.YtbjiknfebocepaaGreatDoorR3b
namespace Go.Proofs.YtbjiknfebocepaaGreatDoor
open Go.RowKit Go.Joins
set_option linter.unusedVariables false
set_option linter.unusedSimpArgs false
set_option maxRecDepth 4000

theorem blk2 {w : World} {g : Nat} {t : TypeId} {a b : Value} (h : Blk w g t [a, b]) : w.cell? ⟨g, 0, none⟩ = some a ∧ w.cell? ⟨g, 1, none⟩ = some b ∧ w.frozen? ⟨g, 0, none⟩ = false ∧ w.frozen? ⟨g, 1, none⟩ = false :=
  ⟨h.cell 0, h.cell 1, h.free 0, h.free 1⟩
theorem blkPut {w : World} {g : Nat} {t : TypeId} {a b : Value} (h : Blk w g t [a, b]) (x y : Value) : Blk ((w.setCell ⟨g, 0, none⟩ x).setCell ⟨g, 1, none⟩ y) g t [x, y] := (h.set 0 x).set 1 y
theorem blkPutO {w : World} {g r : Nat} {t : TypeId} {cs : List Value} (h : Blk w g t cs) (hne : g ≠ r) (x y : Value) : Blk ((w.setCell ⟨r, 0, none⟩ x).setCell ⟨r, 1, none⟩ y) g t cs := (h.setOther hne 0 x).setOther hne 1 y
theorem below_st3 {w W W' : World} (h : Below w.heap.size w W) (k : Below W.heap.size W W') : Below w.heap.size w W' := h.trans (Below.mono k h.size)
theorem bs_rest {w : World} {g : Nat} {l : List UInt8} {rest : List Value} {t : TypeId} (h : Blk w g t (l.map byteV ++ rest)) : Bs w (some ⟨g, 0, none⟩) l.length l :=
  ⟨rfl, fun i x hx => ⟨_, _, rfl, by
    obtain ⟨hk, rfl⟩ := List.getElem?_eq_some_iff.1 hx
    rw [Nat.zero_add, h.cell, List.getElem?_append_left (by simp; omega), List.getElem?_map, hx]; rfl⟩⟩
theorem bs_set1 {W : World} {t : TypeId} {R i : Nat} {a b : Value} {A : Option Addr} {n : Nat} {l : List UInt8} (hb : Bs W A n l) (h : Blk W R t [a, b]) (ha : ∀ x : UInt8, a ≠ .int .u8 (x.toNat : Int)) (hb2 : ∀ x : UInt8, b ≠ .int .u8 (x.toNat : Int)) (v : Value) :
    Bs (W.setCell ⟨R, i, none⟩ v) A n l :=
  hb.only ((Only.refl R W).setCell (p := ⟨R, i, none⟩) rfl v) (by
    intro o x hx
    rw [h.cell o] at hx
    rcases o with _ | _ | o <;> simp at hx
    · exact ha x hx
    · exact hb2 x hx)

set_option maxHeartbeats 12800000 in
theorem ref3Parse (A : Option Addr) (n c : Nat) (l : List UInt8) (w : World) (h : Bs w A n l) (hc : n ≤ c) (hn : n ≤ 1000000) :
    Calls Tryz.prog 27 #[.slice A n c] w (ParP l w) := by
  obtain ⟨i0, hi, hz0, hz1, hz2⟩ := info_parts u8_info
  have hT := One.start w 30 (.bool false) (.slice none 0 0)
  have HL := Lib.hid h.len
  go_enter Tryz.func27, Tryz.ntmps27
  go_upto_region 1 with (fail)
  generalize (w.alloc (Obj.cells #[Value.bool false, Value.slice none 0 0] 30)) = W0 at *
  have h0 := h.below hT.2.1
  obtain ⟨r0, r1, g0, g1⟩ := blk2 hT.1
  have hlt := hT.1.lt
  by_cases hn0 : n = 0
  · subst hn0
    have hF : Hid (parE l = 6) := by
      unfold Hid parE
      rw [if_pos (List.eq_nil_of_length_eq_zero HL.out)]
    go_wp2
    refine bodyPost_ret (v := .tuple #[.agg #[.bool false, .slice none 0 0], .int .i64 6]) (by simp [results, Tryz.results27, go_sem, r0, r1]) rfl ?_
    exact ParP.err hF.out (by decide) (below_set2 hT.2.1 hT.2.1.size (Nat.le_refl _) _ _)
  · have hne : Hid (l ≠ []) := by unfold Hid; intro e; subst e; exact hn0 HL.out.symm
    have z0 : ((n : Int) == 0) = false := by simp; omega
    by_cases h64 : 64 < n
    · have z1 : (64 : Int) < n := by omega
      have hF : Hid (parE l = 2) := by
        unfold Hid parE
        rw [if_neg hne.out, if_pos (by rw [HL.out]; exact h64)]
      go_wp2
      refine bodyPost_ret (v := .tuple #[.agg #[.bool false, .slice none 0 0], .int .i64 2]) (by simp [results, Tryz.results27, go_sem, r0, r1]) rfl ?_
      exact ParP.err hF.out (by decide) (below_set2 hT.2.1 hT.2.1.size (Nat.le_refl _) _ _)
    · have z1 : ¬ (64 : Int) < n := by omega
      have z2 : (n : Int) ≤ 64 := by omega
      have hbc := h0.below (below_alloc1 W0 (Obj.cells #[] 5))
      have ho0 : Ob (W0.alloc (.cells #[] 5)) W0.heap.size 5 (.slice (some ⟨W0.heap.size, 0, none⟩) 0 0) [] := World.ownsRow_made W0 #[] 0 (Nat.le_refl _) (Nat.zero_le _) rfl
      go_wp2_with (at_builtin; refine wpList_appendB rfl _ _ 22 rfl W0.heap.size 5 i0 (.int .u8 0) Tryz.underlying22 hi hz0 hz1 hz2 rfl _ [] rfl ho0 _ _ _ l rfl hbc (by first | omega | (simp; omega)) (by simp) ?_)
      intro v1 w1 hob1 hg1 _ _
      have hB1 : Below W0.heap.size W0 w1 := ho0.grew (below_alloc1 W0 _) (Nat.le_refl _) hg1
      try rw [List.nil_append] at hob1
      obtain ⟨A2, c2, rfl, hc2, hbs2⟩ := hob1.slice
      rw [HL.out] at hob1 hc2 hbs2 ⊢
      obtain ⟨g, og, rfl, _⟩ := hbs2.at_ (k := 0) (by omega)
      obtain rfl := hob1.zero
      obtain ⟨rest, kg1, lg, _⟩ := hob1.blk
      have lg1 := kg1.lt
      have kR1 := hT.1.below hB1
      have hA1 := h0.below hB1
      have bW1 := below_st3 hT.2.1 hB1
      have HC2 := Lib.hid hc2
      have kN := Blk.new2 w1 (.bool false) (.slice (some ⟨g, 0, none⟩) n c2) 30
      have bx := below_alloc1 w1 (.cells #[.bool false, .slice (some ⟨g, 0, none⟩) n c2] 30)
      have kR := kR1.below bx
      have hA := hA1.below bx
      have kg := kg1.below bx
      have bW := below_st3 bW1 bx
      have lRG : Hid (w.heap.size < w1.heap.size) := kR1.lt
      have lRg : Hid (w.heap.size < g) := by unfold Hid; omega
      have lgG : Hid (g < w1.heap.size) := lg1
      have HB : Hid (∀ W, Below w.heap.size w W → Bs W A n l) := fun W hW => h.below hW
      clear ho0 hg1 hbc hB1 hob1 hbs2 kg1 kR1 hA1 bW1 bx r0 r1 g0 g1 hT h0 h lg lg1 hlt
      go_upto_region 6 with (fail)
      generalize (w1.alloc (Obj.cells #[.bool false, .slice (some ⟨g, 0, none⟩) n c2] 30)) = W2 at *
      generalize w1.heap.size = G at *
      obtain ⟨q, hq⟩ : ∃ q, idleL l = q := ⟨_, rfl⟩
      have HQ := Lib.hid hq
      clear hq
      obtain ⟨ba, oa, rfl, ca⟩ := hA.at_ (k := 0) (by omega)
      rw [Nat.add_zero] at ca
      generalize hAA : (some (⟨ba, oa, none⟩ : Addr)) = A at *
      have hp : 0 < n := by omega
      have hpI : (0 : Int) < n := by omega
      by_cases hx : nth l 0 < 128
      · have HZ : Hid ((Nm.mk false l).z = parZ l) := by unfold Hid parZ Nm.z; rw [if_pos hx]; simp
        have hx2 : ¬ 128 ≤ nth l 0 := by omega
        have hrow : Bs W2 (some ⟨g, 0, none⟩) n l := by have := bs_rest kg; rw [HL.out] at this; exact this
        generalize nth l 0 = X at *
        subst hAA
        clear kg
        go_upto_region 17 with (fail)
        generalize hAA : (some (⟨ba, oa, none⟩ : Addr)) = A at *
        clear hAA ca
        obtain ⟨x0, hx0⟩ : ∃ x0, Nm.mk0 ⟨false, l⟩ = x0 := ⟨_, rfl⟩
        have hok : x0.ok := by rw [← hx0]; exact Nm.mk0_ok _
        have hxz : Hid (x0.z = parZ l) := by unfold Hid; rw [← hx0, Nm.mk0_z]; exact HZ.out
        have hxl : x0.size.length ≤ 64 := by have h1 := Nm.mk0_len ⟨false, l⟩; have h2 := hrow.len; rw [hx0] at h1; simp only at h1; omega
        have MD := ref3Made ⟨false, l⟩ _ _ (NumV.mk' false hrow hc2) (by have h2 := hrow.len; simp only; omega)
        rw [hx0] at MD
        have HX0 := Lib.hid hok
        clear hx0 hok
        obtain ⟨n0, n1, _, _⟩ := blk2 kN
        go_wp2_with fail
        refine MD.mono ?_
        rintro e w4 ⟨v4, rfl, ⟨A4, c4, rfl, hs4, hc4⟩, b4⟩
        have kR4 := kR.below b4
        have kN4 := kN.below b4
        have hA4 := hA.below b4
        have bW4 := below_st3 bW b4
        clear MD n0 n1 kR kN hA hrow b4 bW
        obtain ⟨n0, n1, n2, n3⟩ := blk2 kN4
        have HC4 := Lib.hid hc4; clear hc4
        have hs5 := hs4.set2 kN4 (.bool x0.below) (.slice A4 x0.size.length c4)
        have hA5 := hA4.set2 kN4 (.bool x0.below) (.slice A4 x0.size.length c4)
        have kR5 := blkPutO kR4 (show w.heap.size ≠ G by have := lRG.out; omega) (.bool x0.below) (.slice A4 x0.size.length c4)
        have kN5 := blkPut kN4 (.bool x0.below) (.slice A4 x0.size.length c4)
        have bW5 := below_set2 bW4 bW4.size (show w.heap.size ≤ G by have := lRG.out; omega) (.bool x0.below) (.slice A4 x0.size.length c4)
        go_upto_region 18 with (fail)
        generalize ((w4.setCell ⟨G, 0, none⟩ (.bool x0.below)).setCell ⟨G, 1, none⟩ (.slice A4 x0.size.length c4)) = W5 at *
        clear n0 n1 n2 n3 kR4 kN4 hA4 bW4 hs4
        have cA5 := hA5.convert (P := Tryz.prog) c 22 9 5 Tryz.underlying22 Tryz.underlying5 Tryz.underlying9
        have ST : Hid (∀ W, Below W5.heap.size W5 W → (W.cell? ⟨G, 0, none⟩ = some (.bool x0.below) ∧ W.cell? ⟨G, 1, none⟩ = some (.slice A4 x0.size.length c4) ∧ (convert 22 9 (.slice A n c)).run Tryz.prog W = .ok (.string ⟨l.toArray⟩) W) ∧ Bs W A4 x0.size.length x0.size ∧ Blk W w.heap.size 30 [.bool false, .slice none 0 0] ∧ Blk W G 30 [.bool x0.below, .slice A4 x0.size.length c4] ∧ Below w.heap.size w W) :=
          fun W hW => ⟨⟨(kN5.below hW).cell 0, (kN5.below hW).cell 1, (hA5.below hW).convert (P := Tryz.prog) c 22 9 5 Tryz.underlying22 Tryz.underlying5 Tryz.underlying9⟩, hs5.below hW, kR5.below hW, kN5.below hW, below_st3 bW5 hW⟩
        clear cA5 hs5 hA5 kR5 kN5 bW5
        refine wp_region_held_drew (S := fun w' => w'.cell? ⟨G, 0, none⟩ = some (.bool x0.below) ∧ w'.cell? ⟨G, 1, none⟩ = some (.slice A4 x0.size.length c4) ∧ (convert 22 9 (.slice A n c)).run Tryz.prog w' = .ok (.string ⟨l.toArray⟩) w') (by kernel_rfl) ?_ (fun hHeld => ?_)
        · (try dsimp only); exact (ST.out _ (Below.drew (Below.refl _ _))).1
        refine wpAnyH_take (i := 0) (v := ?_) rfl (by kernel_rfl) (by kernel_rfl) (by kernel_rfl) (fun _ _ _ h => h) (Or.inl ⟨by kernel_rfl, ?_⟩) (by assumption) ?_
        rotate_left 1
        · (intro w hSw; (try dsimp only at hSw); go_simp) <;> (try with_reducible rfl)
        try simp only [Act.put, List.setIfInBounds_toArray, List.set_cons_zero, List.set_cons_succ, List.getElem_toArray, List.getElem_cons_succ, List.getElem_cons_zero]
        refine wpAnyH_take (i := 3) (v := ?_) rfl (by kernel_rfl) (by kernel_rfl) (by kernel_rfl) (fun _ _ _ h => h) (Or.inl ⟨by kernel_rfl, ?_⟩) (by assumption) ?_
        rotate_left 1
        · (intro w hSw; (try dsimp only at hSw); go_simp) <;> (try with_reducible rfl)
        try simp only [Act.put, List.setIfInBounds_toArray, List.set_cons_zero, List.set_cons_succ, List.getElem_toArray, List.getElem_cons_succ, List.getElem_cons_zero]
        refine wpAnyH_take (i := 4) (v := ?_) rfl (by kernel_rfl) (by kernel_rfl) (by kernel_rfl) (fun _ _ _ h => h) (Or.inl ⟨by kernel_rfl, ?_⟩) (by assumption) ?_
        rotate_left 1
        · (intro w hSw; (try dsimp only at hSw); go_simp) <;> (try with_reducible rfl)
        try simp only [Act.put, List.setIfInBounds_toArray, List.set_cons_zero, List.set_cons_succ, List.getElem_toArray, List.getElem_cons_succ, List.getElem_cons_zero]
        refine wpAnyH_ready (rs := [1]) (by kernel_rfl) (by simp) ?_
        refine AllReadyH.cons rfl (fun K hK => ?_) AllReadyH.nil
        go_simp
        refine (ref3Contents x0 _ _ ⟨A4, c4, rfl, (ST.out _ (Below.drew (Below.refl _ _))).2.1, HC4.out⟩ (by omega)).mono ?_
        rw [Nm.mk0_of_ok HX0.out]
        rintro e w6 ⟨m6, A6, c6, B6, rfl, hs6, hc6, h1, h2, hg, hb, hv, b6⟩
        have hEq : Hid ((B6 == l) = !q) := by unfold Hid; rw [← HQ.out]; exact par_back hne.out HX0.out hxz.out h1 hg hb hs6.len hv
        have b6 := Below.trans (Below.drew (Below.refl _ _)) b6
        have k6 := ST.out _ b6
        have c6' := hs6.convert (P := Tryz.prog) c6 22 9 5 Tryz.underlying22 Tryz.underlying5 Tryz.underlying9
        clear hg hb hv h1 h2
        go_wp2_with fail
        refine hK.out _ _ ?_ (fun hHeld => ?_)
        · (try dsimp only); exact k6.1
        clear hK K
        try simp only [Act.put, List.setIfInBounds_toArray, List.set_cons_zero, List.set_cons_succ, List.getElem_toArray, List.getElem_cons_succ, List.getElem_cons_zero]
        refine wpAnyH_ready (rs := [2]) (by kernel_rfl) (by simp) ?_
        refine AllReadyH.cons rfl (fun K hK => ?_) AllReadyH.nil
        go_simp
        refine hK.out _ _ ?_ (fun hHeld => ?_)
        · (try dsimp only); exact k6.1
        clear hK K
        try simp only [Act.put, List.setIfInBounds_toArray, List.set_cons_zero, List.set_cons_succ, List.getElem_toArray, List.getElem_cons_succ, List.getElem_cons_zero]
        refine wpAnyH_take (i := 5) (v := ?_) rfl (by kernel_rfl) (by kernel_rfl) (by kernel_rfl) (fun _ _ _ h => h) (Or.inl ⟨by kernel_rfl, ?_⟩) (by assumption) ?_
        rotate_left 1
        · (intro w hSw; (try dsimp only at hSw); go_simp) <;> (try with_reducible rfl)
        try simp only [Act.put, List.setIfInBounds_toArray, List.set_cons_zero, List.set_cons_succ, List.getElem_toArray, List.getElem_cons_succ, List.getElem_cons_zero]
        refine wpAnyH_done (by kernel_rfl) ?_ _
        simp only [hEq.out, Bool.not_not]
        have hEq1 : (B6 == l) = !q := hEq.out
        obtain ⟨_, hx6, kR6, kN6, bW6⟩ := k6
        obtain ⟨r0, r1, f0, f1⟩ := blk2 kR6
        obtain ⟨n0, n1, _, _⟩ := blk2 kN6
        have HEQ : Hid (parE l = if q = true then 6 else 0) := by unfold Hid parE; rw [if_neg hne.out, if_neg (by rw [HL.out]; omega), HQ.out]
        cases q
        · clear hEq hEq1
          go_wp2
          refine bodyPost_ret (v := .tuple #[.agg #[.bool x0.below, .slice A4 x0.size.length c4], .int .i64 0]) (by simp [results, Tryz.results27, go_sem, r0, r1]) rfl ?_
          exact ParP.fine HEQ.out ⟨A4, c4, rfl, hx6.set2 kR6 _ _, HC4.out⟩ HX0.out hxz.out (by omega) (below_set2 bW6 bW6.size (Nat.le_refl _) _ _)
        · clear hEq hEq1
          go_wp2
          refine bodyPost_ret (v := .tuple #[.agg #[.bool false, .slice none 0 0], .int .i64 6]) (by simp [results, Tryz.results27, go_sem, r0, r1]) rfl ?_
          exact ParP.err HEQ.out (by decide) (below_set2 bW6 bW6.size (Nat.le_refl _) _ _)
      · have hx2 : 128 ≤ nth l 0 := by omega
        have hx3 : ¬ nth l 0 < 128 := hx
        have HZ0 : Hid (parZ l = (val l : Int) - 256 ^ n) := by
          have := val_map_flip l
          rw [HL.out] at this
          unfold Hid parZ; rw [if_neg hx]
          have e : ((256 ^ n : Nat) : Int) = 256 ^ n := by push_cast; rfl
          omega
        have hlv : Hid (0 < val l) := by
          have h1 := head_lt hne.out
          unfold Hid
          rcases Nat.eq_zero_or_pos (val l) with h2 | h2
          · exact absurd (h1.2 (by rw [h2]; exact Nat.mul_pos (by decide) (Nat.pow_pos (by decide)))) hx
          · exact h2
        obtain ⟨n0, n1, n2, n3⟩ := blk2 kN
        have kN2 : Blk (W2.setCell ⟨G, 0, none⟩ (.bool true)) G 30 [.bool true, .slice (some ⟨g, 0, none⟩) n c2] := kN.set 0 (.bool true)
        have kR2 := kR.setOther (show w.heap.size ≠ G by have := lRG.out; omega) 0 (.bool true)
        have kg2 := kg.setOther (show g ≠ G by have := lgG.out; omega) 0 (.bool true)
        have hA2 := bs_set1 (i := 0) hA kN (by simp) (by simp) (.bool true)
        have bW2 : Below w.heap.size w (W2.setCell ⟨G, 0, none⟩ (.bool true)) := Only.below ((Only.refl G W2).setCell rfl (.bool true)) bW (by have := lRG.out; omega) bW.size
        generalize nth l 0 = X at *
        subst hAA
        go_upto_region 10 with (fail)
        generalize hAA : (some (⟨ba, oa, none⟩ : Addr)) = A at *
        clear hAA ca n0 n1 n2 n3 kN kR kg hA bW
        generalize (W2.setCell ⟨G, 0, none⟩ (.bool true)) = W3 at *
        have hAof : Hid (∀ W, Only g W3 W → Bs W A n l) := fun W hW => HB.out W (Only.below hW bW2 (show w.heap.size ≤ g by have := lRg.out; omega) bW2.size)
        go_loopw [5, 6] (fun cv iv w' => ∃ (j kc : Nat) (C : List UInt8), j ≤ n ∧ kc ≤ 1 ∧ cv = .int .i64 (kc : Int) ∧ iv = .int .i64 ((j : Int) - 1) ∧ C.length = n - j ∧ Blk w' g 5 ((l.take j ++ C).map byteV ++ rest) ∧ Hid (val C + kc * 256 ^ (n - j) + val (l.drop j) = 256 ^ (n - j)) ∧ Only g W3 w') (fun _ iv _ => (intOf iv + 1).toNat)
        case atStart =>
          refine ⟨n, 1, [], by omega, by omega, rfl, by first | rfl | go_num, by simp, ?_, ?_, Only.refl _ _⟩
          · rw [List.take_of_length_le (by rw [HL.out]; exact Nat.le_refl _), List.append_nil]; exact kg2
          · unfold Hid; rw [List.drop_eq_nil_of_le (by rw [HL.out]; exact Nat.le_refl _), Nat.sub_self]; simp [val]
        case round =>
          obtain ⟨j, kc, C, hj, hkc, rfl, rfl, hCl, hkC, hCv, hO⟩ := hrel
          have kR3 := kR2.only hO (show w.heap.size ≠ g by have := lRg.out; omega)
          have kN3 := kN2.only hO (show G ≠ g by have := lgG.out; omega)
          have bW3 := Only.below hO bW2 (show w.heap.size ≤ g by have := lRg.out; omega) bW2.size
          by_cases hj0 : j = 0
          · subst hj0
            rw [List.take_zero, List.nil_append] at hkC
            rw [List.drop_zero, Nat.sub_zero] at hCv
            rw [Nat.sub_zero] at hCl
            obtain rfl : kc = 0 := by
              rcases Nat.lt_or_ge kc 1 with h2 | h2
              · omega
              · have e : kc = 1 := by omega
                have h1 := hCv.out
                have := hlv.out
                rw [e] at h1
                omega
            have HZ : Hid ((Nm.mk true C).z = parZ l) := by
              have h1 := hCv.out
              unfold Hid Nm.z
              rw [HZ0.out, if_pos rfl]
              have e : ((256 ^ n : Nat) : Int) = 256 ^ n := by push_cast; rfl
              simp only
              omega
            have hrow : Bs wr (some ⟨g, 0, none⟩) n C := by have := bs_rest hkC; rw [hCl] at this; exact this
            have hA3 : Bs wr A n l := hAof.out _ hO
            clear hCv hkC HZ0 hlv
            rename World => WN
            have kR := kR3
            have kN := kN3
            have hA := hA3
            have bW := bW3
            clear kR2 kN2 kg2 hA2 bW2 kR3 kN3 hA3 bW3 hO
            go_upto_region 17 with (fail)
            obtain ⟨x0, hx0⟩ : ∃ x0, Nm.mk0 ⟨true, C⟩ = x0 := ⟨_, rfl⟩
            have hok : x0.ok := by rw [← hx0]; exact Nm.mk0_ok _
            have hxz : Hid (x0.z = parZ l) := by unfold Hid; rw [← hx0, Nm.mk0_z]; exact HZ.out
            have hxl : x0.size.length ≤ 64 := by have h1 := Nm.mk0_len ⟨true, C⟩; have h2 := hrow.len; rw [hx0] at h1; simp only at h1; omega
            have MD := ref3Made ⟨true, C⟩ _ _ (NumV.mk' true hrow hc2) (by have h2 := hrow.len; simp only; omega)
            rw [hx0] at MD
            have HX0 := Lib.hid hok
            clear hx0 hok
            obtain ⟨n0, n1, _, _⟩ := blk2 kN
            go_wp2_with fail
            refine MD.mono ?_
            rintro e w4 ⟨v4, rfl, ⟨A4, c4, rfl, hs4, hc4⟩, b4⟩
            have kR4 := kR.below b4
            have kN4 := kN.below b4
            have hA4 := hA.below b4
            have bW4 := below_st3 bW b4
            clear MD n0 n1 kR kN hA hrow b4 bW
            obtain ⟨n0, n1, n2, n3⟩ := blk2 kN4
            have HC4 := Lib.hid hc4; clear hc4
            have hs5 := hs4.set2 kN4 (.bool x0.below) (.slice A4 x0.size.length c4)
            have hA5 := hA4.set2 kN4 (.bool x0.below) (.slice A4 x0.size.length c4)
            have kR5 := blkPutO kR4 (show w.heap.size ≠ G by have := lRG.out; omega) (.bool x0.below) (.slice A4 x0.size.length c4)
            have kN5 := blkPut kN4 (.bool x0.below) (.slice A4 x0.size.length c4)
            have bW5 := below_set2 bW4 bW4.size (show w.heap.size ≤ G by have := lRG.out; omega) (.bool x0.below) (.slice A4 x0.size.length c4)
            go_upto_region 18 with (fail)
            generalize ((w4.setCell ⟨G, 0, none⟩ (.bool x0.below)).setCell ⟨G, 1, none⟩ (.slice A4 x0.size.length c4)) = W5 at *
            clear n0 n1 n2 n3 kR4 kN4 hA4 bW4 hs4
            have cA5 := hA5.convert (P := Tryz.prog) c 22 9 5 Tryz.underlying22 Tryz.underlying5 Tryz.underlying9
            have ST : Hid (∀ W, Below W5.heap.size W5 W → (W.cell? ⟨G, 0, none⟩ = some (.bool x0.below) ∧ W.cell? ⟨G, 1, none⟩ = some (.slice A4 x0.size.length c4) ∧ (convert 22 9 (.slice A n c)).run Tryz.prog W = .ok (.string ⟨l.toArray⟩) W) ∧ Bs W A4 x0.size.length x0.size ∧ Blk W w.heap.size 30 [.bool false, .slice none 0 0] ∧ Blk W G 30 [.bool x0.below, .slice A4 x0.size.length c4] ∧ Below w.heap.size w W) :=
              fun W hW => ⟨⟨(kN5.below hW).cell 0, (kN5.below hW).cell 1, (hA5.below hW).convert (P := Tryz.prog) c 22 9 5 Tryz.underlying22 Tryz.underlying5 Tryz.underlying9⟩, hs5.below hW, kR5.below hW, kN5.below hW, below_st3 bW5 hW⟩
            clear cA5 hs5 hA5 kR5 kN5 bW5
            refine wp_region_held_drew (S := fun w' => w'.cell? ⟨G, 0, none⟩ = some (.bool x0.below) ∧ w'.cell? ⟨G, 1, none⟩ = some (.slice A4 x0.size.length c4) ∧ (convert 22 9 (.slice A n c)).run Tryz.prog w' = .ok (.string ⟨l.toArray⟩) w') (by kernel_rfl) ?_ (fun hHeld => ?_)
            · (try dsimp only); exact (ST.out _ (Below.drew (Below.refl _ _))).1
            refine wpAnyH_take (i := 0) (v := ?_) rfl (by kernel_rfl) (by kernel_rfl) (by kernel_rfl) (fun _ _ _ h => h) (Or.inl ⟨by kernel_rfl, ?_⟩) (by assumption) ?_
            rotate_left 1
            · (intro w hSw; (try dsimp only at hSw); go_simp) <;> (try with_reducible rfl)
            try simp only [Act.put, List.setIfInBounds_toArray, List.set_cons_zero, List.set_cons_succ, List.getElem_toArray, List.getElem_cons_succ, List.getElem_cons_zero]
            refine wpAnyH_take (i := 3) (v := ?_) rfl (by kernel_rfl) (by kernel_rfl) (by kernel_rfl) (fun _ _ _ h => h) (Or.inl ⟨by kernel_rfl, ?_⟩) (by assumption) ?_
            rotate_left 1
            · (intro w hSw; (try dsimp only at hSw); go_simp) <;> (try with_reducible rfl)
            try simp only [Act.put, List.setIfInBounds_toArray, List.set_cons_zero, List.set_cons_succ, List.getElem_toArray, List.getElem_cons_succ, List.getElem_cons_zero]
            refine wpAnyH_take (i := 4) (v := ?_) rfl (by kernel_rfl) (by kernel_rfl) (by kernel_rfl) (fun _ _ _ h => h) (Or.inl ⟨by kernel_rfl, ?_⟩) (by assumption) ?_
            rotate_left 1
            · (intro w hSw; (try dsimp only at hSw); go_simp) <;> (try with_reducible rfl)
            try simp only [Act.put, List.setIfInBounds_toArray, List.set_cons_zero, List.set_cons_succ, List.getElem_toArray, List.getElem_cons_succ, List.getElem_cons_zero]
            refine wpAnyH_ready (rs := [1]) (by kernel_rfl) (by simp) ?_
            refine AllReadyH.cons rfl (fun K hK => ?_) AllReadyH.nil
            go_simp
            refine (ref3Contents x0 _ _ ⟨A4, c4, rfl, (ST.out _ (Below.drew (Below.refl _ _))).2.1, HC4.out⟩ (by omega)).mono ?_
            rw [Nm.mk0_of_ok HX0.out]
            rintro e w6 ⟨m6, A6, c6, B6, rfl, hs6, hc6, h1, h2, hg, hb, hv, b6⟩
            have hEq : Hid ((B6 == l) = !q) := by unfold Hid; rw [← HQ.out]; exact par_back hne.out HX0.out hxz.out h1 hg hb hs6.len hv
            have b6 := Below.trans (Below.drew (Below.refl _ _)) b6
            have k6 := ST.out _ b6
            have c6' := hs6.convert (P := Tryz.prog) c6 22 9 5 Tryz.underlying22 Tryz.underlying5 Tryz.underlying9
            clear hg hb hv h1 h2
            go_wp2_with fail
            refine hK.out _ _ ?_ (fun hHeld => ?_)
            · (try dsimp only); exact k6.1
            clear hK K
            try simp only [Act.put, List.setIfInBounds_toArray, List.set_cons_zero, List.set_cons_succ, List.getElem_toArray, List.getElem_cons_succ, List.getElem_cons_zero]
            refine wpAnyH_ready (rs := [2]) (by kernel_rfl) (by simp) ?_
            refine AllReadyH.cons rfl (fun K hK => ?_) AllReadyH.nil
            go_simp
            refine hK.out _ _ ?_ (fun hHeld => ?_)
            · (try dsimp only); exact k6.1
            clear hK K
            try simp only [Act.put, List.setIfInBounds_toArray, List.set_cons_zero, List.set_cons_succ, List.getElem_toArray, List.getElem_cons_succ, List.getElem_cons_zero]
            refine wpAnyH_take (i := 5) (v := ?_) rfl (by kernel_rfl) (by kernel_rfl) (by kernel_rfl) (fun _ _ _ h => h) (Or.inl ⟨by kernel_rfl, ?_⟩) (by assumption) ?_
            rotate_left 1
            · (intro w hSw; (try dsimp only at hSw); go_simp) <;> (try with_reducible rfl)
            try simp only [Act.put, List.setIfInBounds_toArray, List.set_cons_zero, List.set_cons_succ, List.getElem_toArray, List.getElem_cons_succ, List.getElem_cons_zero]
            refine wpAnyH_done (by kernel_rfl) ?_ _
            simp only [hEq.out, Bool.not_not]
            have hEq1 : (B6 == l) = !q := hEq.out
            obtain ⟨_, hx6, kR6, kN6, bW6⟩ := k6
            obtain ⟨r0, r1, f0, f1⟩ := blk2 kR6
            obtain ⟨n0, n1, _, _⟩ := blk2 kN6
            have HEQ : Hid (parE l = if q = true then 6 else 0) := by unfold Hid parE; rw [if_neg hne.out, if_neg (by rw [HL.out]; omega), HQ.out]
            cases q
            · clear hEq hEq1
              go_wp2
              refine bodyPost_ret (v := .tuple #[.agg #[.bool x0.below, .slice A4 x0.size.length c4], .int .i64 0]) (by simp [results, Tryz.results27, go_sem, r0, r1]) rfl ?_
              exact ParP.fine HEQ.out ⟨A4, c4, rfl, hx6.set2 kR6 _ _, HC4.out⟩ HX0.out hxz.out (by omega) (below_set2 bW6 bW6.size (Nat.le_refl _) _ _)
            · clear hEq hEq1
              go_wp2
              refine bodyPost_ret (v := .tuple #[.agg #[.bool false, .slice none 0 0], .int .i64 6]) (by simp [results, Tryz.results27, go_sem, r0, r1]) rfl ?_
              exact ParP.err HEQ.out (by decide) (below_set2 bW6 bW6.size (Nat.le_refl _) _ _)
          · obtain ⟨j', rfl⟩ : ∃ j', j = j' + 1 := ⟨j - 1, by omega⟩
            have te : ((j' + 1 : Nat) : Int) - 1 = (j' : Int) := by omega
            rw [te]
            have hjB : j' < l.length := by rw [HL.out]; omega
            obtain ⟨x, hx⟩ : ∃ x, l[j']? = some x := ⟨l[j'], List.getElem?_eq_getElem hjB⟩
            have hxb : x.toNat < 256 := UInt8.toNat_lt x
            obtain ⟨ba', oa', hAe, hca⟩ := (hAof.out _ hO).at_ (k := j') (by omega)
            have hnx : nth l j' = (x.toNat : Int) := by simp [nth, List.getD, hx]
            rw [hnx] at hca
            clear hnx
            have hc7 := hkC.cell j'
            have hgt : ∃ z, ((l.take (j' + 1) ++ C).map byteV ++ rest)[j']? = some z := ⟨_, List.getElem?_eq_getElem (by simp; omega)⟩
            obtain ⟨z7, hz7⟩ := hgt
            rw [hz7] at hc7
            clear hz7
            have hf7 := hkC.free j'
            obtain ⟨X', hX⟩ : ∃ X, x.toNat = X := ⟨_, rfl⟩
            rw [hX] at hca hxb
            obtain ⟨S, hS⟩ : ∃ S, 255 - X' + kc = S := ⟨_, rfl⟩
            obtain ⟨Y, hY⟩ : ∃ Y, S % 256 = Y := ⟨_, rfl⟩
            obtain ⟨k', hk'⟩ : ∃ k', S / 256 = k' := ⟨_, rfl⟩
            have tS : (255 : Int) - X' + kc = (S : Int) := by omega
            have tY : (S : Int) % 256 = (Y : Int) := by omega
            have tYt : (S : Int).tmod 256 = (Y : Int) := by rw [Int.tmod_eq_emod_of_nonneg (by omega)]; omega
            have tk : (S : Int) / 256 = (k' : Int) := by omega
            have tkt : (S : Int).tdiv 256 = (k' : Int) := by rw [Int.tdiv_eq_ediv_of_nonneg (by omega)]; omega
            obtain ⟨y, hy⟩ : ∃ y : UInt8, y.toNat = Y := ⟨UInt8.ofNat Y, by rw [UInt8.toNat_ofNat']; omega⟩
            have hSb : S ≤ 256 := by omega
            have hYb : Y < 256 := by omega
            have hk1 : k' ≤ 1 := by omega
            have HSV : Hid (val (y :: C) + k' * 256 ^ (n - j') + val (l.drop j') = 256 ^ (n - j')) := comp_val HL.out (by omega) hx hX hy hCl (by omega) hCv.out
            have hset := hkC.set j' (byteV y)
            rw [List.set_append_left _ _ (by simp; omega), comp_step hjB] at hset
            have hO8 := hO.setCell (p := ⟨g, j', none⟩) rfl (byteV y)
            have HBV : Hid (byteV y = .int .u8 (Y : Int)) := by unfold Hid byteV; rw [hy]
            rw [HBV.out] at hset hO8
            have hjm : j' < n := by omega
            have hjI : (j' : Int) < n := by omega
            obtain ⟨m0, m1, _, _⟩ := blk2 kN3
            subst hAe
            clear hS hY hk' hX hx hCv kR3 bW3 kR2 kN2 kg2 hA2 bW2 kN3
            go_wp2
            refine ⟨⟨j', k', y :: C, by omega, hk1, by go_num, by go_num, by rw [List.length_cons]; omega, hset, HSV, hO8⟩, by simp [intOf] <;> omega⟩

end Go.Proofs.YtbjiknfebocepaaGreatDoor
