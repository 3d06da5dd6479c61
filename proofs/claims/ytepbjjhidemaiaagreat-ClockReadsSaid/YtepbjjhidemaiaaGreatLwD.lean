/-
  The law ClockReads.
-/
import Derived.Test.YtepbjjhidemaiaaGreatKr
import Derived.Test.YtepbjjhidemaiaaGreatKn
import Derived.Deep.RegionHeld3
namespace Go.Proofs.YtepbjjhidemaiaaGreat
open Go.RowKit
set_option linter.unusedVariables false
set_option linter.unusedSimpArgs false
set_option maxRecDepth 4000

theorem eqRT (w : World) (a b : Int) : (binOp .eql 32 (.agg #[.int .i64 a, .int .i64 b]) (.agg #[.int .i64 a, .int .i64 b])).run Tryz.prog w = .ok (.bool true) w := by go_simp

set_option maxHeartbeats 12800000 in
theorem lawReads (A : Option Addr) (n0 n c : Nat) (b : List UInt8) (w : World) (hn0 : n = min n0 100) (hb : Bs w A n b) (hc0 : n0 ≤ c) :
    Calls Tryz.prog 3 #[.slice A n0 c] w fun e w' => e = .returned (.bool true) ∧ Below w.heap.size w w' := by
  have hc : n ≤ c := by omega
  have hn : n ≤ 100 := by omega
  have hmin : min (n0 : Int) 100 = (n : Int) := by omega
  have hmin2 : (if (100 : Int) < (n0 : Int) then (100 : Int) else (n0 : Int)) = (n : Int) := by split <;> omega
  have m1 : (n : Int) ≤ (c : Int) := by omega
  have hbl : b.length ≤ 1099511627776 := by have := hb.len; omega
  have HN := Lib.hid (fun W (hW : Bs W A n b) => octNew A n c b W hW (by omega))
  have HR0 := fun g (sv : Value) W (hW : Cur W g sv b 0) => ckRead g 0 b W hW hbl
  have HS0 := fun g (sv : Value) W (hW : Cur W g sv b 0) => ckReadStrict g 0 b W hW hbl
  have HG0 := fun g (sv : Value) W (hW : Cur W g sv b 0) => ckReadGeneral g 0 b W hW hbl
  have KR0 := fun W (hW : Bs W A n b) => rfRead false A n c b W hW hc (by omega)
  have KS0 := fun W (hW : Bs W A n b) => rfRead true A n c b W hW hc (by omega)
  have KG0 := fun W (hW : Bs W A n b) => rfReadGeneral A n c b W hW hc (by omega)
  have cst : ∀ (e : Int) (P : Nat), (if e = 0 then (P : Int) else 0) = ((if e = 0 then P else 0 : Nat) : Int) := by intro e P; split <;> rfl
  rw [if_neg (by decide)] at KR0
  rw [if_pos rfl] at KS0
  unfold KeptOk at HR0 HS0
  unfold rdE at KR0 KS0
  simp only [cst] at KR0 KS0 KG0
  generalize tmR b 0 = R at *
  generalize tmS b 0 = S at *
  generalize tmG b 0 = G at *
  generalize (if R.2.2 = 0 then tmP b 0 else 0) = q1 at *
  generalize (if S.2.2 = 0 then tmP b 0 else 0) = q2 at *
  generalize (if G.2.2 = 0 then (rOpen b 0 (tgU 24)).2.1 else 0) = q3 at *
  obtain ⟨a1, a2, a3⟩ := R
  obtain ⟨b1, b2, b3⟩ := S
  obtain ⟨d1, d2, d3⟩ := G
  unfold prsE at HR0 HS0
  unfold tmv at HR0 HS0 KR0 KS0
  simp only at HR0 HS0 HG0 KR0 KS0 KG0
  have HR := Lib.hid HR0
  have HS := Lib.hid HS0
  have HG := Lib.hid HG0
  have KR := Lib.hid KR0
  have KS := Lib.hid KS0
  have KG := Lib.hid KG0
  have HOf0 := lwaOf
  unfold tmv at HOf0
  have HOf := Lib.hid HOf0
  have HKn := Lib.hid known10
  have HAt := Lib.hid (fun g k (sv : Value) W (hW : Cur W g sv b k) => curAt g k b W hW)
  have HS0' := Lib.hid hb
  clear hn0 hb hc0 HR0 HS0 HG0 KR0 KS0 KG0 HOf0 cst hc
  go_enter Tryz.func3, Tryz.ntmps3
  go_wp2_with fail
  refine (HN.out _ HS0'.out).mono ?_
  rintro e w1 ⟨g1, s1, rfl, hg1, hc1, hB1⟩
  have HB1 := Lib.hid hB1
  have S1 := Lib.hid (HS0'.out.below hB1)
  have C1 := Lib.hid hc1
  have G1 := Lib.hid (show w.heap.size ≤ g1 ∧ g1 < w1.heap.size from ⟨hg1, hc1.lt⟩)
  clear hg1 hc1 hB1 HS0'
  go_wp2_with fail
  refine (HN.out _ S1.out).mono ?_
  rintro e w2 ⟨g2, s2, rfl, hg2, hc2, hB2⟩
  have HB2 := Lib.hid (HB1.out.trans (hB2.mono HB1.out.size))
  have S2 := Lib.hid (S1.out.below hB2)
  have C12 := Lib.hid (C1.out.below hB2)
  have C2 := Lib.hid hc2
  have G2 := Lib.hid (show g1 < g2 ∧ g2 < w2.heap.size from ⟨by have := G1.out.2; omega, hc2.lt⟩)
  clear hg2 hc2 hB2 HB1 S1 C1
  go_wp2_with fail
  refine (HN.out _ S2.out).mono ?_
  rintro e w3 ⟨g3, s3, rfl, hg3, hc3, hB3⟩
  have HB3 := Lib.hid (HB2.out.trans (hB3.mono HB2.out.size))
  have S3 := Lib.hid (S2.out.below hB3)
  have C13 := Lib.hid (C12.out.below hB3)
  have C23 := Lib.hid (C2.out.below hB3)
  have C3 := Lib.hid hc3
  have G3 := Lib.hid (show g2 < g3 ∧ g3 < w3.heap.size from ⟨by have := G2.out.2; omega, hc3.lt⟩)
  clear hg3 hc3 hB3 HB2 S2 C12 C2 HN
  go_wp2_with fail
  refine (HR.out _ _ _ C13.out).mono ?_
  rintro e w4 ⟨rfl, hc4, ho4⟩
  have nb := C13.out.noByte
  have hB5 := below_alloc1 w4 (.cells #[.int .i64 a1, .int .i64 a2] 26)
  have G123 := Lib.hid (show w.heap.size ≤ g1 ∧ g1 < g2 ∧ g2 < g3 ∧ g3 < w4.heap.size from ⟨G1.out.1, G2.out.1, G3.out.1, Nat.lt_of_lt_of_le G3.out.2 ho4.size⟩)
  have HB5 := Lib.hid ((ho4.below HB3.out G1.out.1 HB3.out.size).trans (hB5.mono (ho4.below HB3.out G1.out.1 HB3.out.size).size))
  have S5 := Lib.hid ((S3.out.only ho4 nb).below hB5)
  have C15 := Lib.hid (hc4.below hB5)
  have C25 := Lib.hid ((C23.out.only ho4 (by have := G2.out.1; omega) nb).below hB5)
  have C35 := Lib.hid ((C3.out.only ho4 (by have := G2.out.1; have := G3.out.1; omega) nb).below hB5)
  have X5 := Lib.hid (Blk.two_new w4 (.int .i64 a1) (.int .i64 a2) 26)
  have hD1 : g3 < w4.heap.size := G123.out.2.2.2
  have HD1 := Lib.hid hD1
  clear hD1 nb hc4 ho4 hB5 HB3 S3 C13 C23 C3 G1 G2 G3 HR
  go_upto_region 4 with (fail)
  generalize w4.alloc (.cells #[.int .i64 a1, .int .i64 a2] 26) = W5 at *
  generalize w4.heap.size = D1 at *
  go_wp2_with fail
  refine (HS.out _ _ _ C25.out).mono ?_
  rintro e w6 ⟨rfl, hc6, ho6⟩
  have nb := C25.out.noByte
  have hB7 := below_alloc1 w6 (.cells #[.int .i64 b1, .int .i64 b2] 26)
  have q6 := ho6.below HB5.out (by have := G123.out; omega) HB5.out.size
  have HB7 := Lib.hid (q6.trans (hB7.mono q6.size))
  have S7 := Lib.hid ((S5.out.only ho6 nb).below hB7)
  have C17 := Lib.hid ((C15.out.only ho6 (by have := G123.out; omega) nb).below hB7)
  have C27 := Lib.hid (hc6.below hB7)
  have C37 := Lib.hid ((C35.out.only ho6 (by have := G123.out; omega) nb).below hB7)
  have X7 := Lib.hid ((X5.out.only ho6 (by have := G123.out; omega)).below hB7)
  have Y7 := Lib.hid (Blk.two_new w6 (.int .i64 b1) (.int .i64 b2) 26)
  have HD2 := Lib.hid (show g3 < w6.heap.size from by have := G123.out; have := X5.out.lt; have := ho6.size; omega)
  clear nb hc6 ho6 hB7 q6 HB5 S5 C15 C25 C35 X5 HS
  go_upto_region 5 with (fail)
  generalize w6.alloc (.cells #[.int .i64 b1, .int .i64 b2] 26) = W7 at *
  generalize w6.heap.size = D2 at *
  go_wp2_with fail
  refine (HG.out _ _ _ C37.out).mono ?_
  rintro e w8 ⟨rfl, hc8, ho8⟩
  have nb := C37.out.noByte
  have HB8 := Lib.hid (ho8.below HB7.out (by have := G123.out; omega) HB7.out.size)
  have S8 := Lib.hid (S7.out.only ho8 nb)
  have C18 := Lib.hid (C17.out.only ho8 (by have := G123.out; omega) nb)
  have C28 := Lib.hid (C27.out.only ho8 (by have := G123.out; omega) nb)
  have C38 := Lib.hid hc8
  have X8 := Lib.hid (X7.out.only ho8 (by have := HD1.out; omega))
  have Y8 := Lib.hid (Y7.out.only ho8 (by have := HD2.out; omega))
  clear nb hc8 ho8 HB7 S7 C17 C27 C37 X7 Y7 HG HD1 HD2 G123
  go_wp2_with fail
  refine (KR.out _ S8.out).mono ?_
  rintro e w9 ⟨rfl, hB9⟩
  have hB10 := hB9.alloc hB9.size (.cells #[.int .i64 a1, .int .i64 a2] 32)
  have HB10 := Lib.hid (HB8.out.trans (hB10.mono HB8.out.size))
  have S10 := Lib.hid (S8.out.below hB10)
  have C110 := Lib.hid (C18.out.below hB10)
  have C210 := Lib.hid (C28.out.below hB10)
  have C310 := Lib.hid (C38.out.below hB10)
  have X10 := Lib.hid (X8.out.below hB10)
  have Y10 := Lib.hid (Y8.out.below hB10)
  have Z10 := Lib.hid (Blk.two_new w9 (.int .i64 a1) (.int .i64 a2) 32)
  clear hB9 hB10 HB8 S8 C18 C28 C38 X8 Y8 KR
  go_upto_region 7 with (fail)
  generalize w9.alloc (.cells #[.int .i64 a1, .int .i64 a2] 32) = W10 at *
  generalize w9.heap.size = D3 at *
  go_wp2_with fail
  refine (KS.out _ S10.out).mono ?_
  rintro e w11 ⟨rfl, hB11⟩
  have hB12 := hB11.alloc hB11.size (.cells #[.int .i64 b1, .int .i64 b2] 32)
  have HB12 := Lib.hid (HB10.out.trans (hB12.mono HB10.out.size))
  have S12 := Lib.hid (S10.out.below hB12)
  have C112 := Lib.hid (C110.out.below hB12)
  have C212 := Lib.hid (C210.out.below hB12)
  have C312 := Lib.hid (C310.out.below hB12)
  have X12 := Lib.hid (X10.out.below hB12)
  have Y12 := Lib.hid (Y10.out.below hB12)
  have Z12 := Lib.hid (Z10.out.below hB12)
  have U12 := Lib.hid (Blk.two_new w11 (.int .i64 b1) (.int .i64 b2) 32)
  clear hB11 hB12 HB10 S10 C110 C210 C310 X10 Y10 Z10 KS
  go_upto_region 8 with (fail)
  generalize w11.alloc (.cells #[.int .i64 b1, .int .i64 b2] 32) = W12 at *
  generalize w11.heap.size = D4 at *
  go_wp2_with fail
  refine (KG.out _ S12.out).mono ?_
  rintro e w13 ⟨rfl, hB13⟩
  have ST : Hid (∀ W, Below w13.heap.size w13 W → ((W.cell? ⟨D1, 0, none⟩ = some (.int .i64 a1) ∧ W.cell? ⟨D1, 1, none⟩ = some (.int .i64 a2)) ∧ (W.cell? ⟨D2, 0, none⟩ = some (.int .i64 b1) ∧ W.cell? ⟨D2, 1, none⟩ = some (.int .i64 b2)) ∧
      (W.cell? ⟨D3, 0, none⟩ = some (.int .i64 a1) ∧ W.cell? ⟨D3, 1, none⟩ = some (.int .i64 a2)) ∧ (W.cell? ⟨D4, 0, none⟩ = some (.int .i64 b1) ∧ W.cell? ⟨D4, 1, none⟩ = some (.int .i64 b2))) ∧
      Cur W g1 s1 b q1 ∧ Cur W g2 s2 b q2 ∧ Cur W g3 s3 b q3 ∧ Below w.heap.size w W) := by
    intro W hW
    have h12 : Below W12.heap.size W12 W := hB13.trans (hW.mono hB13.size)
    exact ⟨⟨⟨(X12.out.below h12).two.1, (X12.out.below h12).two.2.1⟩, ⟨(Y12.out.below h12).two.1, (Y12.out.below h12).two.2.1⟩, ⟨(Z12.out.below h12).two.1, (Z12.out.below h12).two.2.1⟩, ⟨(U12.out.below h12).two.1, (U12.out.below h12).two.2.1⟩⟩,
      C112.out.below h12, C212.out.below h12, C312.out.below h12, HB12.out.trans (h12.mono HB12.out.size)⟩
  clear hB13 HB12 S12 C112 C212 C312 X12 Y12 Z12 U12 KG
  have eqA := fun W => eqRT W a1 a2
  have eqB := fun W => eqRT W b1 b2
  go_upto_region 9 with (fail)
  refine wp_region_held_drew (S := fun W => (W.cell? ⟨D1, 0, none⟩ = some (.int .i64 a1) ∧ W.cell? ⟨D1, 1, none⟩ = some (.int .i64 a2)) ∧ (W.cell? ⟨D2, 0, none⟩ = some (.int .i64 b1) ∧ W.cell? ⟨D2, 1, none⟩ = some (.int .i64 b2)) ∧ (W.cell? ⟨D3, 0, none⟩ = some (.int .i64 a1) ∧ W.cell? ⟨D3, 1, none⟩ = some (.int .i64 a2)) ∧ (W.cell? ⟨D4, 0, none⟩ = some (.int .i64 b1) ∧ W.cell? ⟨D4, 1, none⟩ = some (.int .i64 b2))) (by kernel_rfl) ?_ (fun hHeld => ?_)
  · (try dsimp only); exact (ST.out _ (Below.drew (Below.refl w13.heap.size w13))).1
  refine wpAnyH_ready (rs := [0]) (by kernel_rfl) (by simp) ?_
  refine AllReadyH.cons rfl (fun K hK => ?_) AllReadyH.nil
  go_simp
  refine (HKn.out _).mono ?_
  rintro e u1 ⟨rfl, hy1⟩
  have z1 := (Below.drew (Below.refl w13.heap.size w13)).trans hy1
  clear hy1
  go_wp2_with fail
  refine hK.out _ _ ?_ (fun hHeld => ?_)
  · (try dsimp only); exact (ST.out _ z1).1
  clear hK K
  try simp only [Act.put, List.setIfInBounds_toArray, List.set_cons_zero, List.set_cons_succ, List.getElem_toArray, List.getElem_cons_succ, List.getElem_cons_zero]
  refine wpAnyH_take (i := 1) (v := ?_) rfl (by kernel_rfl) (by kernel_rfl) (by kernel_rfl) (fun _ _ _ h => h) (Or.inl ⟨by kernel_rfl, ?_⟩) (by assumption) ?_
  rotate_left 1
  · (intro w hSw; (try dsimp only at hSw); go_simp) <;> (try with_reducible rfl)
  try simp only [Act.put, List.setIfInBounds_toArray, List.set_cons_zero, List.set_cons_succ, List.getElem_toArray, List.getElem_cons_succ, List.getElem_cons_zero]
  refine wpAnyH_take (i := 2) (v := ?_) rfl (by kernel_rfl) (by kernel_rfl) (by kernel_rfl) (fun _ _ _ h => h) (Or.inl ⟨by kernel_rfl, ?_⟩) (by assumption) ?_
  rotate_left 1
  · (intro w hSw; (try dsimp only at hSw); go_simp) <;> (try with_reducible rfl)
  try simp only [Act.put, List.setIfInBounds_toArray, List.set_cons_zero, List.set_cons_succ, List.getElem_toArray, List.getElem_cons_succ, List.getElem_cons_zero]
  refine wpAnyH_take (i := 3) (v := ?_) rfl (by kernel_rfl) (by kernel_rfl) (by kernel_rfl) (fun _ _ _ h => h) (Or.inl ⟨by kernel_rfl, ?_⟩) (by assumption) ?_
  rotate_left 1
  · (intro w hSw; (try dsimp only at hSw); go_simp) <;> (try with_reducible rfl)
  try simp only [Act.put, List.setIfInBounds_toArray, List.set_cons_zero, List.set_cons_succ, List.getElem_toArray, List.getElem_cons_succ, List.getElem_cons_zero]
  refine wpAnyH_take (i := 4) (v := ?_) rfl (by kernel_rfl) (by kernel_rfl) (by kernel_rfl) (fun _ _ _ h => h) (Or.inl ⟨by kernel_rfl, ?_⟩) (by assumption) ?_
  rotate_left 1
  · (intro w hSw; (try dsimp only at hSw); go_simp) <;> (try with_reducible rfl)
  try simp only [Act.put, List.setIfInBounds_toArray, List.set_cons_zero, List.set_cons_succ, List.getElem_toArray, List.getElem_cons_succ, List.getElem_cons_zero]
  refine wpAnyH_take (i := 5) (v := ?_) rfl (by kernel_rfl) (by kernel_rfl) (by kernel_rfl) (fun _ _ _ h => h) (Or.inl ⟨by kernel_rfl, ?_⟩) (by assumption) ?_
  rotate_left 1
  · (intro w hSw; (try dsimp only at hSw); go_simp) <;> (try with_reducible rfl)
  try simp only [Act.put, List.setIfInBounds_toArray, List.set_cons_zero, List.set_cons_succ, List.getElem_toArray, List.getElem_cons_succ, List.getElem_cons_zero]
  refine wpAnyH_take (i := 6) (v := ?_) rfl (by kernel_rfl) (by kernel_rfl) (by kernel_rfl) (fun _ _ _ h => h) (Or.inl ⟨by kernel_rfl, ?_⟩) (by assumption) ?_
  rotate_left 1
  · (intro w hSw; (try dsimp only at hSw); go_simp) <;> (try with_reducible rfl)
  try simp only [Act.put, List.setIfInBounds_toArray, List.set_cons_zero, List.set_cons_succ, List.getElem_toArray, List.getElem_cons_succ, List.getElem_cons_zero]
  refine wpAnyH_take (i := 7) (v := ?_) rfl (by kernel_rfl) (by kernel_rfl) (by kernel_rfl) (fun _ _ _ h => h) (Or.inl ⟨by kernel_rfl, ?_⟩) (by assumption) ?_
  rotate_left 1
  · (intro w hSw; (try dsimp only at hSw); go_simp) <;> (try with_reducible rfl)
  try simp only [Act.put, List.setIfInBounds_toArray, List.set_cons_zero, List.set_cons_succ, List.getElem_toArray, List.getElem_cons_succ, List.getElem_cons_zero]
  refine wpAnyH_take (i := 9) (v := ?_) rfl (by kernel_rfl) (by kernel_rfl) (by kernel_rfl) (fun _ _ _ h => h) (Or.inl ⟨by kernel_rfl, ?_⟩) (by assumption) ?_
  rotate_left 1
  · (intro w hSw; (try dsimp only at hSw); go_simp) <;> (try with_reducible rfl)
  try simp only [Act.put, List.setIfInBounds_toArray, List.set_cons_zero, List.set_cons_succ, List.getElem_toArray, List.getElem_cons_succ, List.getElem_cons_zero]
  refine wpAnyH_ready (rs := [8]) (by kernel_rfl) (by simp) ?_
  refine AllReadyH.cons rfl (fun K hK => ?_) AllReadyH.nil
  go_simp
  refine (HOf.out _ _ _).mono ?_
  rintro e u2 ⟨rfl, hy2⟩
  have z2 := z1.trans (hy2.mono z1.size)
  clear hy2
  go_wp2_with fail
  refine hK.out _ _ ?_ (fun hHeld => ?_)
  · (try dsimp only); exact (ST.out _ z2).1
  clear hK K
  try simp only [Act.put, List.setIfInBounds_toArray, List.set_cons_zero, List.set_cons_succ, List.getElem_toArray, List.getElem_cons_succ, List.getElem_cons_zero]
  refine wpAnyH_take (i := 10) (v := ?_) rfl (by kernel_rfl) (by kernel_rfl) (by kernel_rfl) (fun _ _ _ h => h) (Or.inl ⟨by kernel_rfl, ?_⟩) (by assumption) ?_
  rotate_left 1
  · (intro w hSw; (try dsimp only at hSw); go_simp) <;> (try with_reducible rfl)
  try simp only [Act.put, List.setIfInBounds_toArray, List.set_cons_zero, List.set_cons_succ, List.getElem_toArray, List.getElem_cons_succ, List.getElem_cons_zero]
  refine wpAnyH_take (i := 11) (v := ?_) rfl (by kernel_rfl) (by kernel_rfl) (by kernel_rfl) (fun _ _ _ h => h) (Or.inl ⟨by kernel_rfl, ?_⟩) (by assumption) ?_
  rotate_left 1
  · (intro w hSw; (try dsimp only at hSw); go_simp) <;> (try with_reducible rfl)
  try simp only [Act.put, List.setIfInBounds_toArray, List.set_cons_zero, List.set_cons_succ, List.getElem_toArray, List.getElem_cons_succ, List.getElem_cons_zero]
  refine wpAnyH_take (i := 12) (v := ?_) rfl (by kernel_rfl) (by kernel_rfl) (by kernel_rfl) (fun _ _ _ h => h) (Or.inl ⟨by kernel_rfl, ?_⟩) (by assumption) ?_
  rotate_left 1
  · (intro w hSw; (try dsimp only at hSw); go_simp) <;> (try with_reducible rfl)
  try simp only [Act.put, List.setIfInBounds_toArray, List.set_cons_zero, List.set_cons_succ, List.getElem_toArray, List.getElem_cons_succ, List.getElem_cons_zero]
  refine wpAnyH_take (i := 13) (v := ?_) rfl (by kernel_rfl) (by kernel_rfl) (by kernel_rfl) (fun _ _ _ h => h) (Or.inl ⟨by kernel_rfl, ?_⟩) (by assumption) ?_
  rotate_left 1
  · (intro w hSw; (try dsimp only at hSw); go_simp) <;> (try with_reducible rfl)
  try simp only [Act.put, List.setIfInBounds_toArray, List.set_cons_zero, List.set_cons_succ, List.getElem_toArray, List.getElem_cons_succ, List.getElem_cons_zero]
  refine wpAnyH_take (i := 15) (v := ?_) rfl (by kernel_rfl) (by kernel_rfl) (by kernel_rfl) (fun _ _ _ h => h) (Or.inl ⟨by kernel_rfl, ?_⟩) (by assumption) ?_
  rotate_left 1
  · (intro w hSw; (try dsimp only at hSw); go_simp) <;> (try with_reducible rfl)
  try simp only [Act.put, List.setIfInBounds_toArray, List.set_cons_zero, List.set_cons_succ, List.getElem_toArray, List.getElem_cons_succ, List.getElem_cons_zero]
  refine wpAnyH_ready (rs := [14]) (by kernel_rfl) (by simp) ?_
  refine AllReadyH.cons rfl (fun K hK => ?_) AllReadyH.nil
  go_simp
  refine (HAt.out _ _ _ _ (ST.out _ z2).2.1).mono ?_
  rintro e u3 ⟨rfl, hy3⟩
  have z3 : Below w13.heap.size w13 u3 := hy3 ▸ z2
  clear hy3
  go_wp2_with fail
  refine hK.out _ _ ?_ (fun hHeld => ?_)
  · (try dsimp only); exact (ST.out _ z3).1
  clear hK K
  try simp only [Act.put, List.setIfInBounds_toArray, List.set_cons_zero, List.set_cons_succ, List.getElem_toArray, List.getElem_cons_succ, List.getElem_cons_zero]
  refine wpAnyH_take (i := 16) (v := ?_) rfl (by kernel_rfl) (by kernel_rfl) (by kernel_rfl) (fun _ _ _ h => h) (Or.inl ⟨by kernel_rfl, ?_⟩) (by assumption) ?_
  rotate_left 1
  · (intro w hSw; (try dsimp only at hSw); go_simp) <;> (try with_reducible rfl)
  try simp only [Act.put, List.setIfInBounds_toArray, List.set_cons_zero, List.set_cons_succ, List.getElem_toArray, List.getElem_cons_succ, List.getElem_cons_zero]
  refine wpAnyH_take (i := 17) (v := ?_) rfl (by kernel_rfl) (by kernel_rfl) (by kernel_rfl) (fun _ _ _ h => h) (Or.inl ⟨by kernel_rfl, ?_⟩) (by assumption) ?_
  rotate_left 1
  · (intro w hSw; (try dsimp only at hSw); go_simp) <;> (try with_reducible rfl)
  try simp only [Act.put, List.setIfInBounds_toArray, List.set_cons_zero, List.set_cons_succ, List.getElem_toArray, List.getElem_cons_succ, List.getElem_cons_zero]
  refine wpAnyH_take (i := 18) (v := ?_) rfl (by kernel_rfl) (by kernel_rfl) (by kernel_rfl) (fun _ _ _ h => h) (Or.inl ⟨by kernel_rfl, ?_⟩) (by assumption) ?_
  rotate_left 1
  · (intro w hSw; (try dsimp only at hSw); go_simp) <;> (try with_reducible rfl)
  try simp only [Act.put, List.setIfInBounds_toArray, List.set_cons_zero, List.set_cons_succ, List.getElem_toArray, List.getElem_cons_succ, List.getElem_cons_zero]
  refine wpAnyH_take (i := 19) (v := ?_) rfl (by kernel_rfl) (by kernel_rfl) (by kernel_rfl) (fun _ _ _ h => h) (Or.inl ⟨by kernel_rfl, ?_⟩) (by assumption) ?_
  rotate_left 1
  · (intro w hSw; (try dsimp only at hSw); go_simp) <;> (try with_reducible rfl)
  try simp only [Act.put, List.setIfInBounds_toArray, List.set_cons_zero, List.set_cons_succ, List.getElem_toArray, List.getElem_cons_succ, List.getElem_cons_zero]
  refine wpAnyH_take (i := 20) (v := ?_) rfl (by kernel_rfl) (by kernel_rfl) (by kernel_rfl) (fun _ _ _ h => h) (Or.inl ⟨by kernel_rfl, ?_⟩) (by assumption) ?_
  rotate_left 1
  · (intro w hSw; (try dsimp only at hSw); go_simp) <;> (try with_reducible rfl)
  try simp only [Act.put, List.setIfInBounds_toArray, List.set_cons_zero, List.set_cons_succ, List.getElem_toArray, List.getElem_cons_succ, List.getElem_cons_zero]
  refine wpAnyH_take (i := 21) (v := ?_) rfl (by kernel_rfl) (by kernel_rfl) (by kernel_rfl) (fun _ _ _ h => h) (Or.inl ⟨by kernel_rfl, ?_⟩) (by assumption) ?_
  rotate_left 1
  · (intro w hSw; (try dsimp only at hSw); go_simp) <;> (try with_reducible rfl)
  try simp only [Act.put, List.setIfInBounds_toArray, List.set_cons_zero, List.set_cons_succ, List.getElem_toArray, List.getElem_cons_succ, List.getElem_cons_zero]
  refine wpAnyH_take (i := 22) (v := ?_) rfl (by kernel_rfl) (by kernel_rfl) (by kernel_rfl) (fun _ _ _ h => h) (Or.inl ⟨by kernel_rfl, ?_⟩) (by assumption) ?_
  rotate_left 1
  · (intro w hSw; (try dsimp only at hSw); go_simp) <;> (try with_reducible rfl)
  try simp only [Act.put, List.setIfInBounds_toArray, List.set_cons_zero, List.set_cons_succ, List.getElem_toArray, List.getElem_cons_succ, List.getElem_cons_zero]
  refine wpAnyH_take (i := 23) (v := ?_) rfl (by kernel_rfl) (by kernel_rfl) (by kernel_rfl) (fun _ _ _ h => h) (Or.inl ⟨by kernel_rfl, ?_⟩) (by assumption) ?_
  rotate_left 1
  · (intro w hSw; (try dsimp only at hSw); go_simp) <;> (try with_reducible rfl)
  try simp only [Act.put, List.setIfInBounds_toArray, List.set_cons_zero, List.set_cons_succ, List.getElem_toArray, List.getElem_cons_succ, List.getElem_cons_zero]
  refine wpAnyH_take (i := 24) (v := ?_) rfl (by kernel_rfl) (by kernel_rfl) (by kernel_rfl) (fun _ _ _ h => h) (Or.inl ⟨by kernel_rfl, ?_⟩) (by assumption) ?_
  rotate_left 1
  · (intro w hSw; (try dsimp only at hSw); go_simp) <;> (try with_reducible rfl)
  try simp only [Act.put, List.setIfInBounds_toArray, List.set_cons_zero, List.set_cons_succ, List.getElem_toArray, List.getElem_cons_succ, List.getElem_cons_zero]
  refine wpAnyH_take (i := 26) (v := ?_) rfl (by kernel_rfl) (by kernel_rfl) (by kernel_rfl) (fun _ _ _ h => h) (Or.inl ⟨by kernel_rfl, ?_⟩) (by assumption) ?_
  rotate_left 1
  · (intro w hSw; (try dsimp only at hSw); go_simp) <;> (try with_reducible rfl)
  try simp only [Act.put, List.setIfInBounds_toArray, List.set_cons_zero, List.set_cons_succ, List.getElem_toArray, List.getElem_cons_succ, List.getElem_cons_zero]
  refine wpAnyH_ready (rs := [25]) (by kernel_rfl) (by simp) ?_
  refine AllReadyH.cons rfl (fun K hK => ?_) AllReadyH.nil
  go_simp
  refine (HOf.out _ _ _).mono ?_
  rintro e u4 ⟨rfl, hy4⟩
  have z4 := z3.trans (hy4.mono z3.size)
  clear hy4
  go_wp2_with fail
  refine hK.out _ _ ?_ (fun hHeld => ?_)
  · (try dsimp only); exact (ST.out _ z4).1
  clear hK K
  try simp only [Act.put, List.setIfInBounds_toArray, List.set_cons_zero, List.set_cons_succ, List.getElem_toArray, List.getElem_cons_succ, List.getElem_cons_zero]
  refine wpAnyH_take (i := 27) (v := ?_) rfl (by kernel_rfl) (by kernel_rfl) (by kernel_rfl) (fun _ _ _ h => h) (Or.inl ⟨by kernel_rfl, ?_⟩) (by assumption) ?_
  rotate_left 1
  · (intro w hSw; (try dsimp only at hSw); go_simp) <;> (try with_reducible rfl)
  try simp only [Act.put, List.setIfInBounds_toArray, List.set_cons_zero, List.set_cons_succ, List.getElem_toArray, List.getElem_cons_succ, List.getElem_cons_zero]
  refine wpAnyH_take (i := 28) (v := ?_) rfl (by kernel_rfl) (by kernel_rfl) (by kernel_rfl) (fun _ _ _ h => h) (Or.inl ⟨by kernel_rfl, ?_⟩) (by assumption) ?_
  rotate_left 1
  · (intro w hSw; (try dsimp only at hSw); go_simp) <;> (try with_reducible rfl)
  try simp only [Act.put, List.setIfInBounds_toArray, List.set_cons_zero, List.set_cons_succ, List.getElem_toArray, List.getElem_cons_succ, List.getElem_cons_zero]
  refine wpAnyH_take (i := 29) (v := ?_) rfl (by kernel_rfl) (by kernel_rfl) (by kernel_rfl) (fun _ _ _ h => h) (Or.inl ⟨by kernel_rfl, ?_⟩) (by assumption) ?_
  rotate_left 1
  · (intro w hSw; (try dsimp only at hSw); go_simp) <;> (try with_reducible rfl)
  try simp only [Act.put, List.setIfInBounds_toArray, List.set_cons_zero, List.set_cons_succ, List.getElem_toArray, List.getElem_cons_succ, List.getElem_cons_zero]
  refine wpAnyH_take (i := 30) (v := ?_) rfl (by kernel_rfl) (by kernel_rfl) (by kernel_rfl) (fun _ _ _ h => h) (Or.inl ⟨by kernel_rfl, ?_⟩) (by assumption) ?_
  rotate_left 1
  · (intro w hSw; (try dsimp only at hSw); go_simp) <;> (try with_reducible rfl)
  try simp only [Act.put, List.setIfInBounds_toArray, List.set_cons_zero, List.set_cons_succ, List.getElem_toArray, List.getElem_cons_succ, List.getElem_cons_zero]
  refine wpAnyH_take (i := 32) (v := ?_) rfl (by kernel_rfl) (by kernel_rfl) (by kernel_rfl) (fun _ _ _ h => h) (Or.inl ⟨by kernel_rfl, ?_⟩) (by assumption) ?_
  rotate_left 1
  · (intro w hSw; (try dsimp only at hSw); go_simp) <;> (try with_reducible rfl)
  try simp only [Act.put, List.setIfInBounds_toArray, List.set_cons_zero, List.set_cons_succ, List.getElem_toArray, List.getElem_cons_succ, List.getElem_cons_zero]
  refine wpAnyH_ready (rs := [31]) (by kernel_rfl) (by simp) ?_
  refine AllReadyH.cons rfl (fun K hK => ?_) AllReadyH.nil
  go_simp
  refine (HAt.out _ _ _ _ (ST.out _ z4).2.2.1).mono ?_
  rintro e u5 ⟨rfl, hy5⟩
  have z5 : Below w13.heap.size w13 u5 := hy5 ▸ z4
  clear hy5
  go_wp2_with fail
  refine hK.out _ _ ?_ (fun hHeld => ?_)
  · (try dsimp only); exact (ST.out _ z5).1
  clear hK K
  try simp only [Act.put, List.setIfInBounds_toArray, List.set_cons_zero, List.set_cons_succ, List.getElem_toArray, List.getElem_cons_succ, List.getElem_cons_zero]
  refine wpAnyH_take (i := 33) (v := ?_) rfl (by kernel_rfl) (by kernel_rfl) (by kernel_rfl) (fun _ _ _ h => h) (Or.inl ⟨by kernel_rfl, ?_⟩) (by assumption) ?_
  rotate_left 1
  · (intro w hSw; (try dsimp only at hSw); go_simp) <;> (try with_reducible rfl)
  try simp only [Act.put, List.setIfInBounds_toArray, List.set_cons_zero, List.set_cons_succ, List.getElem_toArray, List.getElem_cons_succ, List.getElem_cons_zero]
  refine wpAnyH_take (i := 34) (v := ?_) rfl (by kernel_rfl) (by kernel_rfl) (by kernel_rfl) (fun _ _ _ h => h) (Or.inl ⟨by kernel_rfl, ?_⟩) (by assumption) ?_
  rotate_left 1
  · (intro w hSw; (try dsimp only at hSw); go_simp) <;> (try with_reducible rfl)
  try simp only [Act.put, List.setIfInBounds_toArray, List.set_cons_zero, List.set_cons_succ, List.getElem_toArray, List.getElem_cons_succ, List.getElem_cons_zero]
  refine wpAnyH_take (i := 35) (v := ?_) rfl (by kernel_rfl) (by kernel_rfl) (by kernel_rfl) (fun _ _ _ h => h) (Or.inl ⟨by kernel_rfl, ?_⟩) (by assumption) ?_
  rotate_left 1
  · (intro w hSw; (try dsimp only at hSw); go_simp) <;> (try with_reducible rfl)
  try simp only [Act.put, List.setIfInBounds_toArray, List.set_cons_zero, List.set_cons_succ, List.getElem_toArray, List.getElem_cons_succ, List.getElem_cons_zero]
  refine wpAnyH_take (i := 36) (v := ?_) rfl (by kernel_rfl) (by kernel_rfl) (by kernel_rfl) (fun _ _ _ h => h) (Or.inl ⟨by kernel_rfl, ?_⟩) (by assumption) ?_
  rotate_left 1
  · (intro w hSw; (try dsimp only at hSw); go_simp) <;> (try with_reducible rfl)
  try simp only [Act.put, List.setIfInBounds_toArray, List.set_cons_zero, List.set_cons_succ, List.getElem_toArray, List.getElem_cons_succ, List.getElem_cons_zero]
  refine wpAnyH_take (i := 37) (v := ?_) rfl (by kernel_rfl) (by kernel_rfl) (by kernel_rfl) (fun _ _ _ h => h) (Or.inl ⟨by kernel_rfl, ?_⟩) (by assumption) ?_
  rotate_left 1
  · (intro w hSw; (try dsimp only at hSw); go_simp) <;> (try with_reducible rfl)
  try simp only [Act.put, List.setIfInBounds_toArray, List.set_cons_zero, List.set_cons_succ, List.getElem_toArray, List.getElem_cons_succ, List.getElem_cons_zero]
  refine wpAnyH_take (i := 38) (v := ?_) rfl (by kernel_rfl) (by kernel_rfl) (by kernel_rfl) (fun _ _ _ h => h) (Or.inl ⟨by kernel_rfl, ?_⟩) (by assumption) ?_
  rotate_left 1
  · (intro w hSw; (try dsimp only at hSw); go_simp) <;> (try with_reducible rfl)
  try simp only [Act.put, List.setIfInBounds_toArray, List.set_cons_zero, List.set_cons_succ, List.getElem_toArray, List.getElem_cons_succ, List.getElem_cons_zero]
  refine wpAnyH_take (i := 39) (v := ?_) rfl (by kernel_rfl) (by kernel_rfl) (by kernel_rfl) (fun _ _ _ h => h) (Or.inl ⟨by kernel_rfl, ?_⟩) (by assumption) ?_
  rotate_left 1
  · (intro w hSw; (try dsimp only at hSw); go_simp) <;> (try with_reducible rfl)
  try simp only [Act.put, List.setIfInBounds_toArray, List.set_cons_zero, List.set_cons_succ, List.getElem_toArray, List.getElem_cons_succ, List.getElem_cons_zero]
  refine wpAnyH_take (i := 40) (v := ?_) rfl (by kernel_rfl) (by kernel_rfl) (by kernel_rfl) (fun _ _ _ h => h) (Or.inl ⟨by kernel_rfl, ?_⟩) (by assumption) ?_
  rotate_left 1
  · (intro w hSw; (try dsimp only at hSw); go_simp) <;> (try with_reducible rfl)
  try simp only [Act.put, List.setIfInBounds_toArray, List.set_cons_zero, List.set_cons_succ, List.getElem_toArray, List.getElem_cons_succ, List.getElem_cons_zero]
  refine wpAnyH_take (i := 41) (v := ?_) rfl (by kernel_rfl) (by kernel_rfl) (by kernel_rfl) (fun _ _ _ h => h) (Or.inl ⟨by kernel_rfl, ?_⟩) (by assumption) ?_
  rotate_left 1
  · (intro w hSw; (try dsimp only at hSw); go_simp) <;> (try with_reducible rfl)
  try simp only [Act.put, List.setIfInBounds_toArray, List.set_cons_zero, List.set_cons_succ, List.getElem_toArray, List.getElem_cons_succ, List.getElem_cons_zero]
  refine wpAnyH_take (i := 42) (v := ?_) rfl (by kernel_rfl) (by kernel_rfl) (by kernel_rfl) (fun _ _ _ h => h) (Or.inl ⟨by kernel_rfl, ?_⟩) (by assumption) ?_
  rotate_left 1
  · (intro w hSw; (try dsimp only at hSw); go_simp) <;> (try with_reducible rfl)
  try simp only [Act.put, List.setIfInBounds_toArray, List.set_cons_zero, List.set_cons_succ, List.getElem_toArray, List.getElem_cons_succ, List.getElem_cons_zero]
  refine wpAnyH_take (i := 43) (v := ?_) rfl (by kernel_rfl) (by kernel_rfl) (by kernel_rfl) (fun _ _ _ h => h) (Or.inl ⟨by kernel_rfl, ?_⟩) (by assumption) ?_
  rotate_left 1
  · (intro w hSw; (try dsimp only at hSw); go_simp) <;> (try with_reducible rfl)
  try simp only [Act.put, List.setIfInBounds_toArray, List.set_cons_zero, List.set_cons_succ, List.getElem_toArray, List.getElem_cons_succ, List.getElem_cons_zero]
  refine wpAnyH_take (i := 44) (v := ?_) rfl (by kernel_rfl) (by kernel_rfl) (by kernel_rfl) (fun _ _ _ h => h) (Or.inl ⟨by kernel_rfl, ?_⟩) (by assumption) ?_
  rotate_left 1
  · (intro w hSw; (try dsimp only at hSw); go_simp) <;> (try with_reducible rfl)
  try simp only [Act.put, List.setIfInBounds_toArray, List.set_cons_zero, List.set_cons_succ, List.getElem_toArray, List.getElem_cons_succ, List.getElem_cons_zero]
  refine wpAnyH_take (i := 45) (v := ?_) rfl (by kernel_rfl) (by kernel_rfl) (by kernel_rfl) (fun _ _ _ h => h) (Or.inl ⟨by kernel_rfl, ?_⟩) (by assumption) ?_
  rotate_left 1
  · (intro w hSw; (try dsimp only at hSw); go_simp) <;> (try with_reducible rfl)
  try simp only [Act.put, List.setIfInBounds_toArray, List.set_cons_zero, List.set_cons_succ, List.getElem_toArray, List.getElem_cons_succ, List.getElem_cons_zero]
  refine wpAnyH_take (i := 46) (v := ?_) rfl (by kernel_rfl) (by kernel_rfl) (by kernel_rfl) (fun _ _ _ h => h) (Or.inl ⟨by kernel_rfl, ?_⟩) (by assumption) ?_
  rotate_left 1
  · (intro w hSw; (try dsimp only at hSw); go_simp) <;> (try with_reducible rfl)
  try simp only [Act.put, List.setIfInBounds_toArray, List.set_cons_zero, List.set_cons_succ, List.getElem_toArray, List.getElem_cons_succ, List.getElem_cons_zero]
  refine wpAnyH_take (i := 48) (v := ?_) rfl (by kernel_rfl) (by kernel_rfl) (by kernel_rfl) (fun _ _ _ h => h) (Or.inl ⟨by kernel_rfl, ?_⟩) (by assumption) ?_
  rotate_left 1
  · (intro w hSw; (try dsimp only at hSw); go_simp) <;> (try with_reducible rfl)
  try simp only [Act.put, List.setIfInBounds_toArray, List.set_cons_zero, List.set_cons_succ, List.getElem_toArray, List.getElem_cons_succ, List.getElem_cons_zero]
  refine wpAnyH_ready (rs := [47]) (by kernel_rfl) (by simp) ?_
  refine AllReadyH.cons rfl (fun K hK => ?_) AllReadyH.nil
  go_simp
  refine (HAt.out _ _ _ _ (ST.out _ z5).2.2.2.1).mono ?_
  rintro e u6 ⟨rfl, hy6⟩
  have z6 : Below w13.heap.size w13 u6 := hy6 ▸ z5
  clear hy6
  go_wp2_with fail
  refine hK.out _ _ ?_ (fun hHeld => ?_)
  · (try dsimp only); exact (ST.out _ z6).1
  clear hK K
  try simp only [Act.put, List.setIfInBounds_toArray, List.set_cons_zero, List.set_cons_succ, List.getElem_toArray, List.getElem_cons_succ, List.getElem_cons_zero]
  refine wpAnyH_take (i := 49) (v := ?_) rfl (by kernel_rfl) (by kernel_rfl) (by kernel_rfl) (fun _ _ _ h => h) (Or.inl ⟨by kernel_rfl, ?_⟩) (by assumption) ?_
  rotate_left 1
  · (intro w hSw; (try dsimp only at hSw); go_simp) <;> (try with_reducible rfl)
  try simp only [Act.put, List.setIfInBounds_toArray, List.set_cons_zero, List.set_cons_succ, List.getElem_toArray, List.getElem_cons_succ, List.getElem_cons_zero]
  refine wpAnyH_take (i := 50) (v := ?_) rfl (by kernel_rfl) (by kernel_rfl) (by kernel_rfl) (fun _ _ _ h => h) (Or.inl ⟨by kernel_rfl, ?_⟩) (by assumption) ?_
  rotate_left 1
  · (intro w hSw; (try dsimp only at hSw); go_simp) <;> (try with_reducible rfl)
  try simp only [Act.put, List.setIfInBounds_toArray, List.set_cons_zero, List.set_cons_succ, List.getElem_toArray, List.getElem_cons_succ, List.getElem_cons_zero]
  refine wpAnyH_take (i := 51) (v := ?_) rfl (by kernel_rfl) (by kernel_rfl) (by kernel_rfl) (fun _ _ _ h => h) (Or.inl ⟨by kernel_rfl, ?_⟩) (by assumption) ?_
  rotate_left 1
  · (intro w hSw; (try dsimp only at hSw); go_simp) <;> (try with_reducible rfl)
  try simp only [Act.put, List.setIfInBounds_toArray, List.set_cons_zero, List.set_cons_succ, List.getElem_toArray, List.getElem_cons_succ, List.getElem_cons_zero]
  refine wpAnyH_done (by kernel_rfl) ?_ _
  have HBz := Lib.hid (ST.out _ z6).2.2.2.2
  go_wp2
  go_ret
  exact ⟨rfl, HBz.out⟩
end Go.Proofs.YtepbjjhidemaiaaGreat
