/-
  The law BuildPlays.
-/
import Derived.Test.YtbhfaakhcnkegaaZC
import Derived.Test.YtbhfaakhcnkegaaWl
import Derived.Deep.CutBlock
namespace Go.Proofs.Ytbhfaakhcnkegaa
open Go.RowKit
set_option linter.unusedVariables false
set_option linter.unusedSimpArgs false
set_option maxRecDepth 4000

theorem quietP {P : Program} {f : FuncId} {args : Array Value} {w : World} {n : Nat} {v : Value}
    (h : Calls P f args (w.drewN n) fun e w' => e = .returned v ∧ Qt (w.drewN n) w') : Calls P f args (w.drewN n) fun e w'' => e = .returned v ∧ ∃ m, w'' = w.drewN m :=
  h.mono fun _ _ ⟨he, m, hm⟩ => ⟨he, n + m, by rw [hm, World.drewN_drewN]⟩
/-- Between two calls. -/
def Betw (w0 : World) (S T k : Nat) (w : World) : Prop := ∃ fp rp F Fs er fs, Two w0 w S T fp rp F Fs er fs er ∧ Agr F Fs er fs ∧ Fs.length ≤ k ∧ sumB (Fs ++ [F]) ≤ 1100 * k

theorem Betw.below {w0 w w' : World} {S T k : Nat} (h : Betw w0 S T k w) (hb : Below w.heap.size w w') : Betw w0 S T k w' := by
  obtain ⟨fp, rp, F, Fs, er, fs, h2, h3⟩ := h
  exact ⟨fp, rp, F, Fs, er, fs, h2.below hb, h3⟩

theorem lateB {w W W' : World} (h : Below w.heap.size w W) (k : Below W.heap.size W W') : Below w.heap.size w W' := h.trans (k.mono h.size)
theorem lateA {w W W' : World} {o o' : Obj} (h : Below w.heap.size w W) (k : Below ((W.alloc o).alloc o').heap.size ((W.alloc o).alloc o') W') : Below w.heap.size w W' := lateB (lateB (lateB h (below_alloc1 W o)) (below_alloc1 _ o')) k
set_option maxHeartbeats 12800000 in
theorem lawPlays (A : Option Addr) (n c : Nat) (xs : List ActL) (w : World) (h : Acts w A n xs) :
    Calls Try.prog 3 #[.slice A n c] w fun e w' => e = .returned (.bool true) ∧ Below w.heap.size w w' := by
  have HX := Lib.hid h
  have KN := Lib.hid (fun W => bdNew W)
  have KR := Lib.hid (fun W => ref8New W)
  clear h
  go_enter Try.func3, Try.ntmps3
  go_wp2_with fail
  refine (KN.out _).mono ?_
  rintro e w1 ⟨rfl, hs1, hb1⟩
  have HS1 := Lib.hid hs1
  have HB1 := Lib.hid hb1
  clear hs1 hb1
  go_wp2_with fail
  refine (KR.out _).mono ?_
  rintro e w2 ⟨T, rfl, hT, hr2, hb2⟩
  have HT := Lib.hid hT
  have HR2 := Lib.hid hr2
  have HB2 := Lib.hid hb2
  have BEL : Hid (Below w.heap.size w w2) := HB1.out.trans (HB2.out.mono HB1.out.size)
  clear hT hr2 hb2 KN KR
  go_wp2
  go_loopw [5] (fun i wr => ∃ k : Nat, k ≤ n ∧ k ≤ 60 ∧ i = .int .i64 (k : Int) ∧ Betw w w.heap.size T k wr) (fun i _ => 60 - (intOf i).toNat)
  case atStart =>
    refine ⟨0, Nat.zero_le _, by omega, rfl, [w.heap.size], [w1.heap.size, T], fr0, [], 0, [fr0], ⟨?_, HR2.out, ?_, ?_, ?_, ?_⟩, ⟨rfl, fun _ => rfl⟩, Nat.le_refl _, by simp [sumB, fr0]⟩
    · exact HS1.out.below HB2.out
    · have h1 := HS1.out.lt w.heap.size (by simp)
      have h2 := HT.out
      intro k hk hm
      simp at hk hm
      omega
    · intro k hk
      simp at hk
      omega
    · have h1 := HS1.out.lt w.heap.size (by simp)
      have h2 := HT.out
      intro k hk
      simp at hk
      omega
    · exact BEL.out
  case round =>
    obtain ⟨k, hk, hk60, rfl, hbt⟩ := hrel
    by_cases hlt : k < n ∧ k < 60
    · obtain ⟨hl1, hl2⟩ := hlt
      have hkx : k < xs.length := by have := HX.out.1; omega
      obtain ⟨fp, rp, F, Fs, er, fs, h2, hag, hcn, hsm⟩ := hbt
      obtain ⟨b, oo, Ai, ni, ci, rfl, ⟨c0, c1, c2, c3, c4, c5⟩, hbs, hni⟩ := HX.out.2 k xs[k] (by simp)
      generalize xs[k] = a at *
      obtain ⟨ki, ls, tg, x⟩ := a
      obtain ⟨tc, tn, tm⟩ := tg
      dsimp only at c0 c1 c2 c3 c4 c5 hbs
      have HB0 := Lib.hid h2.bel
      have KC : Hid (∀ {i : Nat} {v : Value}, w.cell? ⟨b, i, none⟩ = some v → wr.cell? ⟨b, i, none⟩ = some v) := fun h => (HB0.out.cell (World.block_lt_of_cell? _ _ h)).trans h
      have d0 := KC.out c0
      have d1 := KC.out c1
      have d2 := KC.out c2
      have d3 := KC.out c3
      have d4 := KC.out c4
      have d5 := KC.out c5
      have e1 : (k : Int) < (n : Int) := by omega
      have e2 : (k : Int) < 60 := by omega
      have HBO := Lib.hid hbs
      have H2 := Lib.hid h2
      clear c0 c1 c2 c3 c4 c5 hbs h2
      go_upto_region 5 with (fail)
      go_upto_region 6 with (fail)
      obtain ⟨r, hr⟩ : ∃ r : Nat, r = (ki % 18446744073709551616 % 5).toNat := ⟨_, rfl⟩
      have hr5 : r < 5 := by omega
      have u1 : IntKind.u64.wrap ki = ki % 18446744073709551616 := by simp [IntKind.wrap, IntKind.bits, IntKind.signed]
      have u2 : (ki % 18446744073709551616).tmod 5 = (r : Int) := by rw [Int.tmod_eq_emod_of_nonneg (by omega), hr]; rw [Int.toNat_of_nonneg (by omega)]
      clear hr
      have hA : Blk (wr.alloc (.cells #[.int .i64 ki, .slice Ai ni ci, .int .i64 tc, .int .i64 tn, .bool tm, .int .i64 x] 31)) wr.heap.size 31 [.int .i64 ki, .slice Ai ni ci, .int .i64 tc, .int .i64 tn, .bool tm, .int .i64 x] := Blk.new wr _ _
      have hA0 := hA.cell 0
      have hA1 := hA.cell 1
      simp only [List.getElem?_cons_zero, List.getElem?_cons_succ] at hA0 hA1
      go_upto_region 7 with (fail)
      generalize hN : min ni 10 = N
      have hHB4 := below_alloc1 wr (.cells #[.int .i64 r, .slice Ai ni ci, .int .i64 tc, .int .i64 tn, .bool tm, .int .i64 x] 31)
      have HA4 : Hid (Blk (wr.alloc (.cells #[.int .i64 r, .slice Ai ni ci, .int .i64 tc, .int .i64 tn, .bool tm, .int .i64 x] 31)) wr.heap.size 31 [.int .i64 r, .slice Ai ni ci, .int .i64 tc, .int .i64 tn, .bool tm, .int .i64 x]) := Blk.new wr _ _
      have hA1 := HA4.out.cell 1
      simp only [List.getElem?_cons_zero, List.getElem?_cons_succ] at hA1
      have HB4 := Lib.hid hHB4
      clear hA hA0 hHB4 u1 u2 d0 d1 d2 d3 d4 d5
      generalize wr.alloc (.cells #[.int .i64 r, .slice Ai ni ci, .int .i64 tc, .int .i64 tn, .bool tm, .int .i64 x] 31) = W4 at *
      have HKK := Lib.hid HA4.out.lt
      have KFE : Hid (Calls Try.prog 10 #[.slice Ai ni ci] W4 (FewV w W4 N (fewL ls N))) := by
        have h4 := HB0.out.trans (HB4.out.mono HB0.out.size)
        have := (lw8FewB Ai ni ci ls w W4 HBO.out h4).mono fun e w' h => FewOkB.v h
        rw [hN] at this
        exact this
      have hms : (fewL ls N).flatten.length ≤ 1000 := by
        have h1 := flat_le8 (fewL ls N) (fewL_short8 ls N)
        have h2 : (fewL ls N).length ≤ 10 := by unfold fewL; simp; omega
        omega
      have HMS := Lib.hid hms
      have HN10 := Lib.hid (show N ≤ 10 by omega)
      clear hms hN
      generalize fewL ls N = ms at *
      go_wp2_with fail
      refine KFE.out.mono ?_
      rintro e w5 ⟨A5, c5, rfl, hb5, hrows⟩
      have HA5 := Lib.hid (HA4.out.below hb5)
      have HR5 := Lib.hid hrows
      have HB5 := Lib.hid hb5
      have z1 := HA5.out.cell 1
      have z1f := HA5.out.free 1
      have HA6 := Lib.hid (HA5.out.set 1 (.slice A5 N c5))
      have HB6 : Hid (Below wr.heap.size wr (w5.setCell ⟨wr.heap.size, 1, none⟩ (.slice A5 N c5))) := Only.below ((Only.refl wr.heap.size w5).setCell rfl _) (HB4.out.trans (HB5.out.mono HB4.out.size)) (Nat.le_refl _) (Nat.le_trans HB4.out.size HB5.out.size)
      have HO6 : Hid (OnlyF (wr.heap.size :: fp) w5 (w5.setCell ⟨wr.heap.size, 1, none⟩ (.slice A5 N c5))) := (OnlyF.refl _ w5).setCell (.inl (by simp)) _
      simp only [List.getElem?_cons_zero, List.getElem?_cons_succ] at z1
      clear hb5 hrows hA1
      go_upto_region 8 with (fail)
      generalize w5.setCell ⟨wr.heap.size, 1, none⟩ (.slice A5 N c5) = W6 at *
      clear z1 z1f
      have H6 := Lib.hid (H2.out.below HB6.out)
      have HRW : Hid (∀ W, OnlyF fp W6 W → Bss W A5 N ms) := by
        intro W hW
        refine HR5.out (wr.heap.size :: fp) W ?_ (hW.below H6.out.bel H6.out.bel.size H6.out.fpB) ?_
        · intro q hq
          rcases List.mem_cons.1 hq with e | e
          · rw [e]; exact HKK.out
          · exact Nat.lt_of_lt_of_le (H2.out.sh.lt q e) HB4.out.size
        · exact HO6.out.trans (hW.mono fun q hq => List.mem_cons_of_mem _ hq) (Grew.refl _ _)
      have HAC : Hid (∀ W, OnlyF fp W6 W → Blk W wr.heap.size 31 [.int .i64 r, .slice A5 N c5, .int .i64 tc, .int .i64 tn, .bool tm, .int .i64 x]) := by
        intro W hW
        refine (hW.block _ HA6.out.lt ?_).trans HA6.out
        intro hm
        have := H2.out.sh.lt _ hm
        omega
      have hb0 := (HAC.out _ (OnlyF.refl fp W6)).cell 0
      have hb1 := (HAC.out _ (OnlyF.refl fp W6)).cell 1
      have hb2 := (HAC.out _ (OnlyF.refl fp W6)).cell 2
      have hb3 := (HAC.out _ (OnlyF.refl fp W6)).cell 3
      have hb4 := (HAC.out _ (OnlyF.refl fp W6)).cell 4
      have hb5 := (HAC.out _ (OnlyF.refl fp W6)).cell 5
      simp only [List.getElem?_cons_zero, List.getElem?_cons_succ] at hb0 hb1 hb2 hb3 hb4 hb5
      have hFs : Fs.length ≤ 900 := by omega
      have hSm : sumB (Fs ++ [F]) ≤ 90000 := by omega
      have hMl : ms.flatten.length ≤ 10000 := by have := HMS.out; omega
      have hNl : N ≤ 1000 := by have := HN10.out; omega
      have KPut := Lib.hid (H6.out.put A5 N c5 ms ⟨tc, tn, tm⟩ x HRW.out hNl hMl hSm)
      have KOpn : Hid (∀ W, Below W6.heap.size W6 W → Calls Try.prog 12 #[.pointer (some ⟨w.heap.size, 0, none⟩), .agg #[.int .i64 tc, .int .i64 tn, .bool tm]] W (LeftOk w W w.heap.size T fp rp (stpP 1 ms ⟨tc, tn, tm⟩ x F Fs er) fs er)) := fun W hW => (H6.out.below hW).opn ms ⟨tc, tn, tm⟩ x hFs
      have KSet := Lib.hid (H6.out.set ms ⟨tc, tn, tm⟩ x hFs)
      have KShu := Lib.hid (H6.out.shut ms ⟨tc, tn, tm⟩ x hFs hSm)
      have KFai := Lib.hid (H6.out.fail ms ⟨tc, tn, tm⟩ x)
      have KTo : Hid (∀ W, Calls Try.prog 13 #[.agg #[.int .i64 tc, .int .i64 tn, .bool tm]] W fun e w' => e = .returned (.agg #[.int .i64 tc, .int .i64 tn, .bool tm]) ∧ Below W.heap.size W w') := fun W => lw2To ⟨tc, tn, tm⟩ W
      go_upto_block 2 with fail
      go_cut [42, 43, 44, 45, 46, 47, 48, 49, 50, 51, 52, 53, 54, 55, 56, 57, 58, 59, 60, 61, 62, 63, 64, 65, 66, 67, 68] from 127 (fun _ _ _ _ _ _ _ _ _ _ _ _ _ _ _ _ _ _ _ _ _ _ _ _ _ _ _ wc => OnlyF fp W6 wc ∧ ∃ fp', Two w wc w.heap.size T fp' rp (stpP r ms ⟨tc, tn, tm⟩ x F Fs er).1 (stpP r ms ⟨tc, tn, tm⟩ x F Fs er).2.1 (stpP r ms ⟨tc, tn, tm⟩ x F Fs er).2.2 fs er)
      case first =>
        obtain rfl | rfl | rfl | rfl | rfl : r = 0 ∨ r = 1 ∨ r = 2 ∨ r = 3 ∨ r = 4 := by omega
        · go_wp2_with fail
          refine KPut.out.mono ?_
          rintro e w7 ⟨rfl, ho, ht⟩
          have HZ := Lib.hid (And.intro ho ht)
          clear ho ht
          go_wp2_with fail
          go_meet
          exact HZ.out
        · go_wp2_with fail
          refine (KTo.out _).mono ?_
          rintro e w7 ⟨rfl, hb⟩
          have HBT := Lib.hid hb
          clear hb
          go_wp2_with fail
          refine (KOpn.out _ HBT.out).mono ?_
          rintro e w8 ⟨rfl, ho, ht⟩
          have HZ := Lib.hid (And.intro ((OnlyF.of_below (fp := fp) HBT.out).trans ho (Grew.refl _ _)) ht)
          clear ho ht
          go_wp2_with fail
          go_meet
          exact HZ.out
        · go_wp2_with fail
          refine KSet.out.mono ?_
          rintro e w7 ⟨rfl, ho, ht⟩
          have HZ := Lib.hid (And.intro ho ht)
          clear ho ht
          go_wp2_with fail
          go_meet
          exact HZ.out
        · go_wp2_with fail
          refine KShu.out.mono ?_
          rintro e w7 ⟨rfl, ho, ht⟩
          have HZ := Lib.hid (And.intro ho ht)
          clear ho ht
          go_wp2_with fail
          go_meet
          exact HZ.out
        · go_wp2_with fail
          refine KFai.out.mono ?_
          rintro e w7 ⟨rfl, ho, ht⟩
          have HZ := Lib.hid (And.intro ho ht)
          clear ho ht
          go_wp2_with fail
          go_meet
          exact HZ.out
      case rest =>
        obtain ⟨ho, fp2, ht⟩ := hcut
        have HO := Lib.hid ho
        have H7 := Lib.hid ht
        have hb0 := (HAC.out _ ho).cell 0
        have hb1 := (HAC.out _ ho).cell 1
        have hb2 := (HAC.out _ ho).cell 2
        have hb3 := (HAC.out _ ho).cell 3
        have hb4 := (HAC.out _ ho).cell 4
        have hb5 := (HAC.out _ ho).cell 5
        simp only [List.getElem?_cons_zero, List.getElem?_cons_succ] at hb0 hb1 hb2 hb3 hb4 hb5
        have KDo : Hid (Calls Try.prog 17 #[.pointer (some ⟨T, 0, none⟩), .agg #[.int .i64 r, .slice A5 N c5, .int .i64 tc, .int .i64 tn, .bool tm, .int .i64 x]] wc (BothOk w w.heap.size T (stpP r ms ⟨tc, tn, tm⟩ x F Fs er))) := H7.out.ref hag hr5 (HRW.out _ ho) hNl hMl hFs hSm
        have hcn2 : Hid ((stpP r ms ⟨tc, tn, tm⟩ x F Fs er).2.1.length ≤ k + 1) := Nat.le_trans (stpP_count _ _ _ _ _ _ _) (by omega)
        have hsm2 : Hid (sumB ((stpP r ms ⟨tc, tn, tm⟩ x F Fs er).2.1 ++ [(stpP r ms ⟨tc, tn, tm⟩ x F Fs er).1]) ≤ 1100 * (k + 1)) := Nat.le_trans (stpP_sum _ _ _ _ _ _ _) (by have := HMS.out; omega)
        clear ho ht H7 HO KPut KOpn KSet KShu KFai KTo
        generalize stpP r ms ⟨tc, tn, tm⟩ x F Fs er = P at *
        obtain ⟨F2, Fs2, er2⟩ := P
        dsimp only at hcn2 hsm2
        go_wp2_with fail
        refine KDo.out.mono ?_
        rintro e w8 ⟨rfl, fp3, rp3, fs3, h8, hag8⟩
        dsimp only at h8 hag8
        have H8 := Lib.hid h8
        have HG8 := Lib.hid hag8
        clear h8 hag8 hb0 hb1 hb2 hb3 hb4 hb5 hag
        have hne : fs3 ≠ [] := by intro e'; have := HG8.out.1; rw [e'] at this; simp at this
        obtain ⟨q1, q2⟩ := agr_bytes HG8.out hne
        have hF2 : F2.b.length ≤ 100000 := Nat.le_trans (sumB_mem (by simp)) (Nat.le_trans hsm2.out (by omega))
        have KBy := Lib.hid (bdBytes w.heap.size fp3 F2 Fs2 er2 w8 H8.out.sh (by omega))
        have KRB : Hid (∀ W, Below w8.heap.size w8 W → Calls Try.prog 19 #[.pointer (some ⟨T, 0, none⟩)] W fun e w' => (∃ A n c, e = .returned (.tuple #[.slice A n c, .int .i64 (bytF F2 Fs2 er2).2]) ∧ Bs w' A n (bytF F2 Fs2 er2).1) ∧ Qt W w') := fun W hW =>
          (ref8Bytes T rp3 fs3 er2 W (H8.out.rs.below hW) hne).mono fun e w' hh => by
            rw [q1, q2] at hh
            obtain ⟨⟨A, n, c, he, hb, _⟩, hq⟩ := hh
            exact ⟨⟨A, n, c, he, hb⟩, hq⟩
        clear q1 q2
        have hBL : (bytF F2 Fs2 er2).1.length ≤ 100000 := by
          unfold bytF; split
          · simp
          · split
            · simp
            · exact hF2
        obtain ⟨BV, hBV⟩ : ∃ BV, bytF F2 Fs2 er2 = BV := ⟨_, rfl⟩
        rw [hBV] at KBy KRB hBL
        clear hBV
        obtain ⟨BL, BE⟩ := BV
        dsimp only at KBy KRB hBL
        have HBL := Lib.hid hBL
        clear hBL
        go_wp2_with fail
        refine KBy.out.mono ?_
        rintro e w9 ⟨X9, n9, k9, rfl, ho9, hb9⟩
        have HB9 := Lib.hid hb9
        have HO9 := Lib.hid ho9
        clear hb9 ho9
        dsimp only
        go_wp2_with fail
        refine (KRB.out _ HB9.out).mono ?_
        rintro e w10 ⟨⟨X10, n10, k10, rfl, hs10⟩, hq10⟩
        have HS10 := Lib.hid hs10
        have HQ10 := Lib.hid hq10
        clear hs10 hq10
        go_upto_region 22 with fail
        have H10 := Lib.hid ((H8.out.below HB9.out).below HQ10.out.below)
        have KSm : Hid (∀ W, Below w10.heap.size w10 W → Calls Try.prog 20 #[.slice X9 n9 k9, .slice X10 n10 k10] W fun e w' => e = .returned (.bool true) ∧ Qt W w') := fun W hW => by
          have h1 := ((HO9.out.bs.1).below HQ10.out.below).below hW
          have h2 := HS10.out.below hW
          have h3 := h1.len
          have h4 := h2.len
          refine (refSame X9 X10 n9 n10 k9 k10 BL BL W h1 h2 (by have := HBL.out; omega) (by have := HBL.out; omega)).mono ?_
          rintro e w' ⟨he, hq⟩
          exact ⟨by rw [he]; simp, hq⟩
        have KDp : Hid (∀ W, Below w10.heap.size w10 W → Calls Try.prog 21 #[.pointer (some ⟨w.heap.size, 0, none⟩)] W fun e w' => e = .returned (.int .i64 (Fs2.length : Int)) ∧ Qt W w') := fun W hW => bdDepth _ fp3 F2 Fs2 er2 W (H10.out.sh.below hW)
        have hrc : Hid (∃ g cg, w10.cell? ⟨T, 0, none⟩ = some (.slice (some ⟨g, 0, none⟩) (Fs2.length + 1) cg)) := by
          obtain ⟨va, vs, hT⟩ := H10.out.rs
          obtain ⟨g, cg, rfl, _, _⟩ := hT.vaForm hne
          rw [← HG8.out.1]
          exact ⟨g, cg, hT.cells.1.1⟩
        obtain ⟨g, cg, t0⟩ := hrc.out
        have hL : Fs2.length ≤ 61 := by have := hcn2.out; omega
        have FIN : Hid (Betw w w.heap.size T (k + 1) w10) := ⟨fp3, rp3, F2, Fs2, er2, fs3, H10.out, HG8.out, hcn2.out, hsm2.out⟩
        generalize Fs2.length = L at *
        go_quiet (first | (go_at_call 20; exact quietP (KSm.out _ (below_drewN (Below.refl w10.heap.size w10) _))) | (go_at_call 21; exact quietP (KDp.out _ (below_drewN (Below.refl w10.heap.size w10) _))))
        have FINq := Lib.hid (FIN.out.below (below_drewN (Below.refl w10.heap.size w10) nq))
        generalize w10.drewN nq = Wq at *
        go_wp2
        go_roundw
        case rel => exact ⟨k + 1, by omega, by omega, by go_num, FINq.out⟩
        case measure => simp [intOf]; omega
    · have hx : (decide ((k : Int) < (n : Int)) && decide ((k : Int) < 60)) = false := by
        simp
        omega
      have hB0 : Below w.heap.size w wr := by
        obtain ⟨_, _, _, _, _, _, h2, _⟩ := hbt
        exact h2.bel
      have B0 := Lib.hid hB0
      clear hbt hB0
      by_cases hl1 : k < n
      · have e1 : (k : Int) < (n : Int) := by omega
        have e2 : ¬ (k : Int) < 60 := by omega
        clear hx
        go_wp2_with fail
        refine (bdPut0 _ _ _ _).mono ?_
        rintro e z1 ⟨rfl, hq⟩
        have B1 := Lib.hid (lateA B0.out (hq.below))
        clear hq
        go_wp2_with fail
        refine (bdOpenSet0 _).mono ?_
        rintro e z2 ⟨rfl, hq⟩
        have B2 := Lib.hid (lateB B1.out (hq))
        clear hq
        go_wp2_with fail
        refine (bdShut0 _).mono ?_
        rintro e z3 ⟨rfl, hq⟩
        have B3 := Lib.hid (lateB B2.out (hq.below))
        clear hq
        go_wp2_with fail
        refine (bdFail0 _ _).mono ?_
        rintro e z4 ⟨rfl, hq⟩
        have B4 := Lib.hid (lateB B3.out (hq.below))
        clear hq
        go_wp2_with fail
        refine (bdBytes0 _).mono ?_
        rintro e z5 ⟨rfl, hq⟩
        have B5 := Lib.hid (lateB B4.out (hq.below))
        clear hq
        go_wp2_with fail
        refine (known8 _).mono ?_
        rintro e z6 ⟨rfl, hq⟩
        have B6 := Lib.hid (lateB B5.out (hq))
        clear hq
        go_wp2_with fail
        refine (bdDepth0 _).mono ?_
        rintro e z7 ⟨rfl, hq⟩
        have B7 := Lib.hid (lateB B6.out (hq.below))
        clear hq
        go_wp2
        go_ret
        exact ⟨rfl, B7.out⟩
      · have e1 : ¬ (k : Int) < (n : Int) := by omega
        clear hx
        go_wp2_with fail
        refine (bdPut0 _ _ _ _).mono ?_
        rintro e z1 ⟨rfl, hq⟩
        have B1 := Lib.hid (lateA B0.out (hq.below))
        clear hq
        go_wp2_with fail
        refine (bdOpenSet0 _).mono ?_
        rintro e z2 ⟨rfl, hq⟩
        have B2 := Lib.hid (lateB B1.out (hq))
        clear hq
        go_wp2_with fail
        refine (bdShut0 _).mono ?_
        rintro e z3 ⟨rfl, hq⟩
        have B3 := Lib.hid (lateB B2.out (hq.below))
        clear hq
        go_wp2_with fail
        refine (bdFail0 _ _).mono ?_
        rintro e z4 ⟨rfl, hq⟩
        have B4 := Lib.hid (lateB B3.out (hq.below))
        clear hq
        go_wp2_with fail
        refine (bdBytes0 _).mono ?_
        rintro e z5 ⟨rfl, hq⟩
        have B5 := Lib.hid (lateB B4.out (hq.below))
        clear hq
        go_wp2_with fail
        refine (known8 _).mono ?_
        rintro e z6 ⟨rfl, hq⟩
        have B6 := Lib.hid (lateB B5.out (hq))
        clear hq
        go_wp2_with fail
        refine (bdDepth0 _).mono ?_
        rintro e z7 ⟨rfl, hq⟩
        have B7 := Lib.hid (lateB B6.out (hq.below))
        clear hq
        go_wp2
        go_ret
        exact ⟨rfl, B7.out⟩
end Go.Proofs.Ytbhfaakhcnkegaa
