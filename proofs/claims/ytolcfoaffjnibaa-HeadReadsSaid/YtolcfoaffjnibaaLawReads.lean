/-
  HeadReads: for any bytes and any place quittancelaw02.HeadReads returns true and changes nothing that was there.
-/
import Derived.Test.YtolcfoaffjnibaaLawOpens
import Derived.Deep.RegionHeld3
namespace Go.Proofs.Ytolcfoaffjnibaa
open Go.RowKit
set_option linter.unusedVariables false
set_option linter.unusedSimpArgs false
set_option maxRecDepth 4000

theorem modU2 (z d : Int) (h0 : 0 < d) (hd : d ≤ 1099511627777) : 0 ≤ wrap64 ((IntKind.u64.wrap z).tmod d) ∧ wrap64 ((IntKind.u64.wrap z).tmod d) < d := by
  have h1 : 0 ≤ IntKind.u64.wrap z := by simp [IntKind.wrap, IntKind.bits, IntKind.signed]; omega
  rw [Int.tmod_eq_emod_of_nonneg h1]
  have h3 := Int.emod_nonneg (IntKind.u64.wrap z) (show d ≠ 0 by omega)
  have h4 := Int.emod_lt_of_pos (IntKind.u64.wrap z) h0
  unfold wrap64
  omega

/-- The three cursors, and all that was there at the start. -/
def RdS (w : World) (g1 g2 g3 : Nat) (s1 s2 s3 : Value) (l : List UInt8) (k1 k2 k3 : Nat) (w' : World) : Prop :=
  Below w.heap.size w w' ∧ Cur w' g1 s1 l k1 ∧ Cur w' g2 s2 l k2 ∧ Cur w' g3 s3 l k3
theorem RdS.step {w : World} {g1 g2 g3 : Nat} {s1 s2 s3 : Value} {l : List UInt8} {k1 k2 k3 : Nat} {a b : World} (h : RdS w g1 g2 g3 s1 s2 s3 l k1 k2 k3 a) (hb : Below a.heap.size a b) : RdS w g1 g2 g3 s1 s2 s3 l k1 k2 k3 b :=
  ⟨bstep h.1 hb, h.2.1.below hb, h.2.2.1.below hb, h.2.2.2.below hb⟩

set_option maxHeartbeats 12800000 in
theorem lawReads (A : Option Addr) (n c : Nat) (l : List UInt8) (z : Int) (w : World) (h : Bs w A n l) (hc : n ≤ c) :
    Calls Try.prog 4 #[.slice A n c, .int .i64 z] w fun e w' => e = .returned (.bool true) ∧ Below w.heap.size w w' := by
  have h' : Bs w A (min n 3000) (l.take (min n 3000)) := h.take (by omega)
  have hn' : min n 3000 ≤ 3000 := by omega
  go_enter Try.func4, Try.ntmps4
  go_wp2_with fail
  refine (few2 A n c _ hc).mono ?_
  rintro e w0 ⟨rfl, rfl⟩
  have hc' : min n 3000 ≤ c := by omega
  clear h hc
  generalize min n 3000 = n at *
  generalize l.take n = l at *
  have h := h'
  have hc := hc'
  clear h' hc'
  have hl := Lib.hid h.len
  have hm := modU2 z ((n : Int) + 1) (by omega) (by omega)
  generalize hK : wrap64 ((IntKind.u64.wrap z).tmod ((n : Int) + 1)) = K at *
  obtain ⟨p, rfl⟩ : ∃ p : Nat, K = p := ⟨K.toNat, by omega⟩
  have hp : p ≤ n := by omega
  go_wp2_with fail
  refine (octNew A n c l _ h (by omega)).mono ?_
  rintro e w1 ⟨g1, s1, rfl, hg1, c1, b1⟩
  go_wp2_with fail
  refine (octNew A n c l _ (h.below b1) (by omega)).mono ?_
  rintro e w2 ⟨g2, s2, rfl, hg2, c2, b2⟩
  have B2 := bstep b1 b2
  have hl1 := c1.lt
  have c1 := c1.below b2
  go_wp2_with fail
  refine (octNew A n c l _ (h.below B2) (by omega)).mono ?_
  rintro e w3 ⟨g3, s3, rfl, hg3, c3, b3⟩
  have B3 := bstep B2 b3
  have hl2 := c2.lt
  have c1 := c1.below b3
  have c2 := c2.below b3
  have hl3 := c3.lt
  have n12 : g1 ≠ g2 := by omega
  have hs12 := b2.size
  have n13 : g1 ≠ g3 := by omega
  have n23 : g2 ≠ g3 := by omega
  have hw1 := b1.size
  have hw2 := B2.size
  have m1 : w.heap.size ≤ g1 := hg1
  have m2 : w.heap.size ≤ g2 := by omega
  have m3 : w.heap.size ≤ g3 := by omega
  clear b1 b2 b3 B2 hg1 hg2 hg3 hl1 hl2 hl3 hs12 hw1 hw2
  -- Take
  have hpl : 0 + p ≤ l.length := by have := hl.out; omega
  have hpz : Hid (0 + p = p) := by unfold Hid; omega
  go_wp2_with fail
  refine (curTake g1 0 p _ l _ c1 hpl rfl).mono ?_
  rintro e w4 ⟨A4, n4, c4, rfl, _, d1, O4⟩
  rw [hpz.out] at d1
  have c2 := c2.only O4 n12.symm c1.noByte
  have c3 := c3.only O4 n13.symm c1.noByte
  have B4 := O4.below B3 m1 B3.size
  clear c1 O4 B3
  go_wp2_with fail
  refine (curTake g2 0 p _ l _ c2 hpl rfl).mono ?_
  rintro e w5 ⟨A5, n5, c5, rfl, _, d2, O5⟩
  rw [hpz.out] at d2
  have d1 := d1.only O5 n12 c2.noByte
  have c3 := c3.only O5 n23.symm c2.noByte
  have B5 := O5.below B4 m2 B4.size
  clear c2 O5 B4
  go_wp2_with fail
  refine (curTake g3 0 p _ l _ c3 hpl rfl).mono ?_
  rintro e w6 ⟨A6, n6, c6, rfl, _, d3, O6⟩
  rw [hpz.out] at d3
  have d1 := d1.only O6 n13 c3.noByte
  have d2 := d2.only O6 n23 c3.noByte
  have B6 := O6.below B5 m3 B5.size
  clear c3 O6 B5
  -- ReadTag
  have rT := Lib.hid (fun W (hW : Bs W A n l) => refReadTag A n c p p l W hW (by omega) (by omega) rfl)
  have rL := Lib.hid (fun W (hW : Bs W A n l) => refReadLength A n c p p l W hW (by omega) (by omega) rfl)
  have rH := Lib.hid (fun W (hW : Bs W A n l) => refRead A n c p p l W hW (by omega) (by omega) rfl)
  have hT := Lib.hid (fun W (hW : Cur W g1 s1 l p) => hdReadTag g1 p l W hW)
  have hL := Lib.hid (fun W (hW : Cur W g2 s2 l p) => hdReadLength g2 p l W hW)
  have hH := Lib.hid (fun W (hW : Cur W g3 s3 l p) => hdRead g3 p l W hW)
  unfold TagOk at hT
  unfold LenOk at hL
  unfold HeadOk at hH
  generalize rTag l p = T1 at *
  obtain ⟨⟨tc, tn, tm⟩, k1, E1⟩ := T1
  generalize rLen l p = T2 at *
  obtain ⟨y2, k2, E2⟩ := T2
  generalize rHead l p = T3 at *
  obtain ⟨⟨uc, un, um⟩, y3, k3, E3⟩ := T3
  unfold tagV Tg.v at rT
  unfold lenV at rL
  unfold headV Tg.v at rH
  unfold Tg.v at hT hH
  go_wp2_with fail
  refine (hT.out _ d1).mono ?_
  rintro e w7 ⟨rfl, e1, O7⟩
  have e1 : Cur w7 g1 s1 l k1 := e1
  have d2 := d2.only O7 n12.symm d1.noByte
  have d3 := d3.only O7 n13.symm d1.noByte
  have B7 := O7.below B6 m1 B6.size
  have b8 := below_alloc1 w7 (blk3 tc tn tm)
  have B8 := bstep B7 b8
  have oT := Own3.new w7 (.int .i64 tc) (.int .i64 tn) (.bool tm) 29
  have nT2 : w7.heap.size ≠ g2 := by have := d2.lt; omega
  have nT3 : w7.heap.size ≠ g3 := by have := d3.lt; omega
  have e1 := e1.below b8
  have d2 := d2.below b8
  have d3 := d3.below b8
  clear d1 O7 B6 B7 b8 hT
  -- ReadLength
  go_wp2_with fail
  refine (hL.out _ d2).mono ?_
  rintro e w9 ⟨rfl, e2, O9⟩
  have e2 : Cur w9 g2 s2 l k2 := e2
  have e1 := e1.only O9 n12 d2.noByte
  have d3 := d3.only O9 n23.symm d2.noByte
  have oT := oT.only O9 nT2
  have B9 := O9.below B8 m2 B8.size
  clear d2 O9 B8 hL
  -- Read
  go_wp2_with fail
  refine (hH.out _ d3).mono ?_
  rintro e w10 ⟨rfl, e3, O10⟩
  have e3 : Cur w10 g3 s3 l k3 := e3
  have e1 := e1.only O10 n13 d3.noByte
  have e2 := e2.only O10 n23 d3.noByte
  have oT := oT.only O10 nT3
  have B10 := O10.below B9 m3 B9.size
  have b11 := below_alloc1 w10 (blk3 uc un um)
  have B11 := bstep B10 b11
  have oU := Own3.new w10 (.int .i64 uc) (.int .i64 un) (.bool um) 29
  have e1 := e1.below b11
  have e2 := e2.below b11
  have e3 := e3.below b11
  have oT := oT.below b11
  clear d3 O10 B9 B10 b11 hH
  -- the reference
  go_wp2_with fail
  refine (rT.out _ (h.below B11)).mono ?_
  rintro e w12 ⟨rfl, b12⟩
  have b13 := below_alloc1 w12 (blkR tc tn tm)
  have B12 := bstep (bstep B11 b12) b13
  have oV := Own3.new w12 (.int .i64 tc) (.int .i64 tn) (.bool tm) 23
  have e1 := (e1.below b12).below b13
  have e2 := (e2.below b12).below b13
  have e3 := (e3.below b12).below b13
  have oT := (oT.below b12).below b13
  have oU := (oU.below b12).below b13
  clear b12 b13 B11 rT
  go_wp2_with fail
  refine (rL.out _ (h.below B12)).mono ?_
  rintro e w14 ⟨rfl, q14⟩
  have B14 := B12.trans q14.below
  have e1 := e1.qt q14
  have e2 := e2.qt q14
  have e3 := e3.qt q14
  have oT := oT.below q14.below
  have oU := oU.below q14.below
  have oV := oV.below q14.below
  clear B12 q14 rL
  go_wp2_with fail
  refine (rH.out _ (h.below B14)).mono ?_
  rintro e w15 ⟨rfl, b15⟩
  have b16 := below_alloc1 w15 (blkR uc un um)
  have B16 := bstep (bstep B14 b15) b16
  have oX := Own3.new w15 (.int .i64 uc) (.int .i64 un) (.bool um) 23
  have e1 := (e1.below b15).below b16
  have e2 := (e2.below b15).below b16
  have e3 := (e3.below b15).below b16
  obtain ⟨t0, t1, t2, _, _, _⟩ := (oT.below b15).below b16
  obtain ⟨u0, u1, u2, _, _, _⟩ := (oU.below b15).below b16
  obtain ⟨v0, v1, v2, _, _, _⟩ := (oV.below b15).below b16
  obtain ⟨x0, x1, x2, _, _, _⟩ := oX
  have hRS : RdS w g1 g2 g3 s1 s2 s3 l k1 k2 k3 (w15.alloc (blkR uc un um)) := ⟨B16, e1, e2, e3⟩
  clear oT oU oV b15 b16 B14 rH B16 e1 e2 e3
  have heq := @eqlTag
  have hOfT := Lib.hid (fun W => lawOf ⟨tc, tn, tm⟩ W)
  have hOfU := Lib.hid (fun W => lawOf ⟨uc, un, um⟩ W)
  unfold Tg.v at hOfT hOfU
  have SPR : Hid (∀ a : World, (a.cell? ⟨w7.heap.size, 0, none⟩ = some (.int .i64 tc) ∧ a.cell? ⟨w7.heap.size, 1, none⟩ = some (.int .i64 tn) ∧ a.cell? ⟨w7.heap.size, 2, none⟩ = some (.bool tm) ∧
      a.cell? ⟨w10.heap.size, 0, none⟩ = some (.int .i64 uc) ∧ a.cell? ⟨w10.heap.size, 1, none⟩ = some (.int .i64 un) ∧ a.cell? ⟨w10.heap.size, 2, none⟩ = some (.bool um) ∧
      a.cell? ⟨w12.heap.size, 0, none⟩ = some (.int .i64 tc) ∧ a.cell? ⟨w12.heap.size, 1, none⟩ = some (.int .i64 tn) ∧ a.cell? ⟨w12.heap.size, 2, none⟩ = some (.bool tm) ∧
      a.cell? ⟨w15.heap.size, 0, none⟩ = some (.int .i64 uc) ∧ a.cell? ⟨w15.heap.size, 1, none⟩ = some (.int .i64 un) ∧ a.cell? ⟨w15.heap.size, 2, none⟩ = some (.bool um) ∧
      RdS w g1 g2 g3 s1 s2 s3 l k1 k2 k3 a) → RdS w g1 g2 g3 s1 s2 s3 l k1 k2 k3 a) := fun a h => h.2.2.2.2.2.2.2.2.2.2.2.2
  have STP : Hid (∀ a b : World, Below a.heap.size a b → (a.cell? ⟨w7.heap.size, 0, none⟩ = some (.int .i64 tc) ∧ a.cell? ⟨w7.heap.size, 1, none⟩ = some (.int .i64 tn) ∧ a.cell? ⟨w7.heap.size, 2, none⟩ = some (.bool tm) ∧
      a.cell? ⟨w10.heap.size, 0, none⟩ = some (.int .i64 uc) ∧ a.cell? ⟨w10.heap.size, 1, none⟩ = some (.int .i64 un) ∧ a.cell? ⟨w10.heap.size, 2, none⟩ = some (.bool um) ∧
      a.cell? ⟨w12.heap.size, 0, none⟩ = some (.int .i64 tc) ∧ a.cell? ⟨w12.heap.size, 1, none⟩ = some (.int .i64 tn) ∧ a.cell? ⟨w12.heap.size, 2, none⟩ = some (.bool tm) ∧
      a.cell? ⟨w15.heap.size, 0, none⟩ = some (.int .i64 uc) ∧ a.cell? ⟨w15.heap.size, 1, none⟩ = some (.int .i64 un) ∧ a.cell? ⟨w15.heap.size, 2, none⟩ = some (.bool um) ∧
      RdS w g1 g2 g3 s1 s2 s3 l k1 k2 k3 a) → (b.cell? ⟨w7.heap.size, 0, none⟩ = some (.int .i64 tc) ∧ b.cell? ⟨w7.heap.size, 1, none⟩ = some (.int .i64 tn) ∧ b.cell? ⟨w7.heap.size, 2, none⟩ = some (.bool tm) ∧
      b.cell? ⟨w10.heap.size, 0, none⟩ = some (.int .i64 uc) ∧ b.cell? ⟨w10.heap.size, 1, none⟩ = some (.int .i64 un) ∧ b.cell? ⟨w10.heap.size, 2, none⟩ = some (.bool um) ∧
      b.cell? ⟨w12.heap.size, 0, none⟩ = some (.int .i64 tc) ∧ b.cell? ⟨w12.heap.size, 1, none⟩ = some (.int .i64 tn) ∧ b.cell? ⟨w12.heap.size, 2, none⟩ = some (.bool tm) ∧
      b.cell? ⟨w15.heap.size, 0, none⟩ = some (.int .i64 uc) ∧ b.cell? ⟨w15.heap.size, 1, none⟩ = some (.int .i64 un) ∧ b.cell? ⟨w15.heap.size, 2, none⟩ = some (.bool um) ∧
      RdS w g1 g2 g3 s1 s2 s3 l k1 k2 k3 b)) := by
    rintro a b hb ⟨h1, h2, h3, h4, h5, h6, h7, h8, h9, h10, h11, h12, h13⟩
    have kp : ∀ {q : Addr} {v : Value}, a.cell? q = some v → b.cell? q = some v := fun hq => (hb.cell (World.block_lt_of_cell? a _ hq)).trans hq
    exact ⟨kp h1, kp h2, kp h3, kp h4, kp h5, kp h6, kp h7, kp h8, kp h9, kp h10, kp h11, kp h12, h13.step hb⟩
  have hRS2 := hRS.step ((Below.refl _ _).drew)
  go_wp2
  go_region_held3 (fun w' => w'.cell? ⟨w7.heap.size, 0, none⟩ = some (.int .i64 tc) ∧ w'.cell? ⟨w7.heap.size, 1, none⟩ = some (.int .i64 tn) ∧ w'.cell? ⟨w7.heap.size, 2, none⟩ = some (.bool tm) ∧
      w'.cell? ⟨w10.heap.size, 0, none⟩ = some (.int .i64 uc) ∧ w'.cell? ⟨w10.heap.size, 1, none⟩ = some (.int .i64 un) ∧ w'.cell? ⟨w10.heap.size, 2, none⟩ = some (.bool um) ∧
      w'.cell? ⟨w12.heap.size, 0, none⟩ = some (.int .i64 tc) ∧ w'.cell? ⟨w12.heap.size, 1, none⟩ = some (.int .i64 tn) ∧ w'.cell? ⟨w12.heap.size, 2, none⟩ = some (.bool tm) ∧
      w'.cell? ⟨w15.heap.size, 0, none⟩ = some (.int .i64 uc) ∧ w'.cell? ⟨w15.heap.size, 1, none⟩ = some (.int .i64 un) ∧ w'.cell? ⟨w15.heap.size, 2, none⟩ = some (.bool um) ∧
      RdS w g1 g2 g3 s1 s2 s3 l k1 k2 k3 w') (first | exact ⟨t0, t1, t2, u0, u1, u2, v0, v1, v2, x0, x1, x2, hRS2⟩ | assumption)
    (first
     | (go_at_call 21; refine (known2 _).mono ?_; rintro e wK ⟨rfl, bK⟩; have hS2 := STP.out _ _ bK (by assumption))
     | (go_at_call 14; refine (hOfT.out _).mono ?_; rintro e wK ⟨rfl, bK⟩; have hS2 := STP.out _ _ bK (by assumption))
     | (go_at_call 14; refine (hOfU.out _).mono ?_; rintro e wK ⟨rfl, bK⟩; have hS2 := STP.out _ _ bK (by assumption))
     | (go_at_call 32; refine (curAt g1 k1 l _ (SPR.out _ (by assumption)).2.1).mono ?_; rintro e wK ⟨rfl, rfl⟩)
     | (go_at_call 32; refine (curAt g2 k2 l _ (SPR.out _ (by assumption)).2.2.1).mono ?_; rintro e wK ⟨rfl, rfl⟩)
     | (go_at_call 32; refine (curAt g3 k3 l _ (SPR.out _ (by assumption)).2.2.2).mono ?_; rintro e wK ⟨rfl, rfl⟩))
  all_goals
    rename_i hlast
    go_wp2
    go_ret
    exact ⟨rfl, (SPR.out _ (by assumption)).1⟩

end Go.Proofs.Ytolcfoaffjnibaa
