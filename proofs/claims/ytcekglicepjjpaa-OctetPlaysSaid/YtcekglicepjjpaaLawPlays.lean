/-
  OctetPlays: for any bytes and any calls, quittancelaw01.OctetPlays returns true and changes nothing that was there.
-/
import Derived.Test.YtcekglicepjjpaaPlayReg
import Derived.Test.YtcekglicepjjpaaOpenA
import Derived.Deep.DeepCutAuto
namespace Go.Proofs.Ytcekglicepjjpaa
open Go.RowKit
set_option linter.unusedVariables false
set_option linter.unusedSimpArgs false

theorem xor_bound (a b : Int) : 0 ≤ bits BinOp.xor IntKind.u8 a b ∧ bits BinOp.xor IntKind.u8 a b < 256 := by
  show 0 ≤ IntKind.u8.wrap _ ∧ IntKind.u8.wrap _ < 256
  rw [IntKind.wrap_u8]
  omega
theorem kind8' (k : Int) : 0 ≤ IntKind.i64.wrap ((IntKind.u64.wrap k).tmod 8) ∧ IntKind.i64.wrap ((IntKind.u64.wrap k).tmod 8) < 8 := by
  have h1 : 0 ≤ IntKind.u64.wrap k := by simp [IntKind.wrap, IntKind.bits, IntKind.signed]; omega
  have h2 : (IntKind.u64.wrap k).tmod 8 = IntKind.u64.wrap k % 8 := Int.tmod_eq_emod_of_nonneg h1
  rw [h2, IntKind.wrap_i64]
  omega

set_option maxRecDepth 100000 in
set_option maxHeartbeats 1600000 in
theorem lawPlays (A C : Option Addr) (n cA p cC : Nat) (a : List UInt8) (w : World) (hA : Bs w A n a) (hcA : n ≤ cA) (hC : Acts w C p) :
    Calls Try.prog 3 #[.slice A n cA, .slice C p cC] w fun e w' => e = .returned (.bool true) ∧ Below w.heap.size w w' := by
  have hA' : Bs w A (min n 5000) (a.take (min n 5000)) := hA.take (by omega)
  have h1 : min n 5000 ≤ 5000 := by omega
  have hca : min n 5000 ≤ cA := by omega
  go_enter Try.func3, Try.ntmps3
  go_wp2_with fail
  refine (few1 A n cA _ hcA).mono ?_
  rintro e w0 ⟨rfl, rfl⟩
  clear hA hcA
  generalize min n 5000 = n' at *
  generalize a.take n' = a at *
  have hla := Lib.hid hA'.len
  go_wp2_with fail
  refine (refCopy A n' cA a _ hA' (by omega)).mono ?_
  rintro e w1 ⟨B, nB, cB, rfl, hobB, hb1⟩
  obtain ⟨hbB, hcB⟩ := hobB.bs
  have hnB : Hid (nB = n') := by unfold Hid; rw [← hbB.len, hla.out]
  go_wp2_with fail
  refine (octNew A n' cA a _ (hA'.below hb1) (by omega)).mono ?_
  rintro e w2 ⟨g, s, rfl, hg, hcur, hb2⟩
  have hbB2 := hbB.below hb2
  have hb3 : Below w2.heap.size w2 (w2.alloc (.cells #[.slice B nB cB, .int .i64 0] 29)) := (Below.refl _ _).alloc (Nat.le_refl _) _
  have hcur3 := hcur.below hb3
  have hcu2 : Cur (w2.alloc (.cells #[.slice B nB cB, .int .i64 0] 29)) w2.heap.size (.slice B nB cB) a 0 :=
    ⟨B, nB, cB, _, rfl, heap_alloc_new _ _, hbB2.below hb3, hcB, Nat.zero_le _, by have := hnB.out; omega⟩
  have B3 : Below w.heap.size w (w2.alloc (.cells #[.slice B nB cB, .int .i64 0] 29)) := (hb1.trans (hb2.mono hb1.size)).trans (hb3.mono (Nat.le_trans hb1.size hb2.size))
  have hg2 : w.heap.size ≤ w2.heap.size := Nat.le_trans hb1.size hb2.size
  have hgw : w.heap.size ≤ g := Nat.le_trans hb1.size hg
  have hgg : g < w2.heap.size := hcur.lt
  go_wp2_with fail
  generalize hW3 : w2.alloc (.cells #[.slice B nB cB, .int .i64 0] 29) = w3 at *
  generalize hG2 : w2.heap.size = g2 at *
  clear hW3 hG2
  go_loopw [8] (fun i wr => ∃ (j k : Nat), j ≤ p ∧ j ≤ 200 ∧ k ≤ n' ∧ i = .int .i64 j ∧ Cur wr g s a k ∧ Cur wr g2 (.slice B nB cB) a k ∧ Two g g2 w3 wr) (fun i _ => 200 - (intOf i).toNat)
  case atStart => exact ⟨0, 0, Nat.zero_le _, Nat.zero_le _, Nat.zero_le _, rfl, hcur3, hcu2, Two.refl _ _ _⟩
  case round =>
    obtain ⟨j, k, hjp, hj, hk, rfl, hc1, hc2, hT⟩ := hrel
    have hbel : Below w.heap.size w wr := hT.below B3 hgw hg2 B3.size
    by_cases hlt : j < p ∧ j < 200
    · obtain ⟨hl1, hl2⟩ := hlt
      obtain ⟨bC, oC, x, y, rfl, hx, hy⟩ := hC j hl1
      have g1 : (j : Int) < p := by omega
      have g2' : decide ((j : Int) < 200) = true := by simp; omega
      have hx' : wr.cell? ⟨bC, oC + j * 2, none⟩ = some (.int .i64 x) := (hbel.cell (World.block_lt_of_cell? w _ hx)).trans hx
      have hy' : wr.cell? ⟨bC, oC + j * 2 + 1, none⟩ = some (.int .i64 y) := (hbel.cell (World.block_lt_of_cell? w _ hy)).trans hy
      have nx := World.new_ne wr _ hx'
      have ny := World.new_ne wr _ hy'
      clear hx hy
      go_wp2
      go_region_held3 (fun w' => w'.cell? ⟨bC, oC + j * 2, none⟩ = some (.int .i64 x) ∧ w'.cell? ⟨bC, oC + j * 2 + 1, none⟩ = some (.int .i64 y)) (go_keep) (first | fail)
      have hK := kind8' x
      generalize IntKind.i64.wrap ((IntKind.u64.wrap x).tmod 8) = K at *
      obtain ⟨hK0, hK8⟩ := hK
      obtain ⟨rN, rB, rE, rk, hrk, hrB, hdo, hrf⟩ := both a k (by rw [hla.out]; exact hk) K y hK0 hK8
      have hbW : Below wr.heap.size wr (wr.alloc (.cells #[.int .i64 K, .int .i64 y] 32)).drew := ((Below.refl _ _).alloc (Nat.le_refl _) _).drew
      have hblk : (wr.alloc (.cells #[.int .i64 K, .int .i64 y] 32)).drew.heap[wr.heap.size]? = some (.cells #[.int .i64 K, .int .i64 y] 32 (0, 0)) := heap_alloc_new wr _
      have hX := hT.size
      have hc1 := hc1.below hbW
      have hc2 := hc2.below hbW
      have hT := hT.bel hbW
      generalize hXe : wr.heap.size = X at *
      generalize (wr.alloc (.cells #[.int .i64 K, .int .i64 y] 32)).drew = W at *
      have HDO := Lib.hid hdo; clear hdo
      have HRF := Lib.hid hrf; clear hrf
      have HBL := Lib.hid hblk; clear hblk
      clear hx' hy' nx ny hbW
      go_wp2
      refine wp_name (fun a0 ha0 => ?_)
      have e6 : a0.tmps.getD 6 undef = .pointer (some ⟨g, 0, none⟩) := by rw [ha0.out]; rfl
      have e7 : a0.tmps.getD 7 undef = .pointer (some ⟨g2, 0, none⟩) := by rw [ha0.out]; rfl
      have e9 : a0.tmps.getD 9 undef = .pointer (some ⟨X, 0, none⟩) := by rw [ha0.out]; rfl
      have esz : a0.tmps.size = 95 := by rw [ha0.out]; rfl
      have ngg : g ≠ g2 := by omega
      refine region9 g g2 X k rk 0 s (.slice B nB cB) a rN rE rB K y w3 W _ a0 hcur3 hcu2 ngg hX hc1 hc2 hT HBL.out HDO HRF e6 e7 e9 esz ?_
      intro f w5 hFs hst
      obtain ⟨x1, x2, A1, n1, c1, A2, n2, c2, i1, v1, t1, i2, v2, t2, p1, p2, hne, l1, l2, q1, q2, P1, P2, d1, d2, hob, hbs, cu1, cu2, htw⟩ := hst
      obtain ⟨rfl, rfl, rfl⟩ := d1 rfl
      obtain ⟨rfl, rfl, rfl⟩ := d2 rfl
      rw [ha0.out]
      have hf := fun d a1 a2 a3 a4 a5 a6 a7 a8 => hFs d a1 a2 a3 a4 a5 a6 a7 a8
      simp (config := { maxSteps := 1000000 }) [upd, hf, p1, p2, q1, q2]
      have y0 : w5.cell? ⟨x1, 0, none⟩ = some (.int .i64 i2) := by rw [blk_cell P1.2]; rfl
      have y1 : w5.cell? ⟨x1, 1, none⟩ = some (.slice A1 n1 c1) := by rw [blk_cell P1.2]; rfl
      have y2 : w5.cell? ⟨x1, 2, none⟩ = some (.int .i64 t2) := by rw [blk_cell P1.2]; rfl
      have y3 : w5.cell? ⟨x2, 0, none⟩ = some (.int .i64 i2) := by rw [blk_cell P2.2]; rfl
      have y4 : w5.cell? ⟨x2, 1, none⟩ = some (.slice A2 n2 c2) := by rw [blk_cell P2.2]; rfl
      have y5 : w5.cell? ⟨x2, 2, none⟩ = some (.int .i64 t2) := by rw [blk_cell P2.2]; rfl
      generalize (f 46).getD u46 = v46
      generalize (f 47).getD u47 = v47
      generalize (f 49).getD u49 = v49
      generalize (f 50).getD u50 = v50
      have hn1 : Hid (n1 = rB.length) := hob.bs.1.len.symm
      have hn2 : Hid (n2 = rB.length) := hbs.len.symm
      have hrl : Hid (rB.length ≤ 5000) := by have := hla.out; unfold Hid; omega
      clear ha0 e6 e7 e9 esz HDO HRF hf p1 p2 q1 q2 d1 d2 hFs a0 HBL
      go_wp2_with fail
      refine (refSame A1 A2 n1 n2 c1 c2 rB rB _ hob.bs.1 hbs (by have := hn1.out; have := hrl.out; omega) (by have := hn2.out; have := hrl.out; omega)).mono ?_
      rintro e w6 ⟨rfl, q6⟩
      have P1 := P1.qt q6
      have hob := hob.below q6.below
      have cu1 := cu1.qt q6
      have cu2 := cu2.qt q6
      have htw := htw.bel q6.below
      clear y0 y1 y2 y3 y4 y5 P2 hbs hc1 hc2 hT
      go_wp2_with fail
      go_loopw [12] (fun i wz => ∃ (q : Nat) (rb : List UInt8), q ≤ n1 ∧ i = .int .i64 q ∧ PB wz x1 i2 (.slice A1 n1 c1) t2 ∧ Ob wz w3.heap.size 5 (.slice A1 n1 c1) rb ∧ Cur wz g s a rk ∧ Cur wz g2 (.slice B nB cB) a rk ∧ Two g g2 w3 wz) (fun i _ => n1 - (intOf i).toNat)
      case atStart => exact ⟨0, rB, Nat.zero_le _, rfl, P1, hob, cu1, cu2, htw⟩
      case round =>
        obtain ⟨q, rb, hq, rfl, hP, hO, hcu1, hcv2, hTw⟩ := hrel
        have y1 : wr.cell? ⟨x1, 1, none⟩ = some (.slice A1 n1 c1) := by rw [blk_cell hP.2]; rfl
        have hn5 : n1 ≤ 5000 := by have := hn1.out; have := hrl.out; omega
        by_cases hqn : q < n1
        · obtain ⟨bb, cur, rfl, hbb, hblk, hcell, hfr⟩ := hO.at_ hqn
          have gq : (q : Int) < n1 := by omega
          have nb := nth_bound rb q
          obtain ⟨nb0, nb1⟩ := nb
          have HB := Lib.hid hblk; clear hblk
          have hxb := xor_bound (if IntKind.u8.signed = true then -1 else IntKind.u8.max) (nth rb q)
          have hx1b : x1 ≠ bb := by
            rintro rfl
            have h1 := hP.2
            rw [HB.out] at h1
            injection h1 with h1
            injection h1 with _ h1
            exact absurd h1 (by decide)
          go_wp2
          go_still_tail 10, (by kernel_rfl)
          go_wp2_with fail
          generalize bits BinOp.xor IntKind.u8 (if IntKind.u8.signed = true then -1 else IntKind.u8.max) (nth rb q) = vx at *
          have hgr : wr.grownBy (wr.setCell ⟨bb, q, none⟩ (.int .u8 vx)) (some bb) := grown_setCell (World.grownBy.refl wr _) q _
          have hr : ∀ b, some bb = some b → w3.heap.size ≤ b := by intro b hb; cases hb; exact hbb
          have r1 := hP.grown hgr (by simpa using hx1b)
          have r2 := hO.put hqn vx hxb.1 hxb.2
          have r3 := hcur3.two hcu2 hTw hcu1 hgr hr
          have r4 := hcu2.two hcur3 hTw.symm hcv2 hgr hr
          have r5 := hTw.grown hgr (fun b hb => .inr (.inr (hr b hb)))
          refine ⟨⟨q + 1, _, by omega, by go_num, r1.drew, r2.drew, r3.drew, r4.drew, r5.bel (Below.drew (Below.refl _ _))⟩, by simp [intOf]; omega⟩
        · go_wp2
          refine ⟨⟨j + 1, rk, by omega, by omega, by have := hla.out; omega, by go_num, hcu1, hcv2, hTw⟩, by simp [intOf]; omega⟩
    · by_cases hjp' : j < p
      · have g1 : (j : Int) < p := by omega
        have g2' : decide ((j : Int) < 200) = false := by simp; omega
        go_wp2_with fail
        refine (known1 _).mono ?_
        rintro e w5 ⟨rfl, b5⟩
        have B5 : Below w.heap.size w w5 := hbel.trans (b5.mono hbel.size)
        go_wp2_with fail
        refine (refSame A B n' nB cA cB a a _ (hA'.below B5) ((hc2.bs rfl).below b5) (by omega) (by have := hnB.out; omega)).mono ?_
        rintro e w6 ⟨rfl, q6⟩
        go_wp2
        go_ret
        exact ⟨rfl, B5.trans q6.below⟩
      · have g1 : ¬ (j : Int) < p := by omega
        go_wp2_with fail
        refine (known1 _).mono ?_
        rintro e w5 ⟨rfl, b5⟩
        have B5 : Below w.heap.size w w5 := hbel.trans (b5.mono hbel.size)
        go_wp2_with fail
        refine (refSame A B n' nB cA cB a a _ (hA'.below B5) ((hc2.bs rfl).below b5) (by omega) (by have := hnB.out; omega)).mono ?_
        rintro e w6 ⟨rfl, q6⟩
        go_wp2
        go_ret
        exact ⟨rfl, B5.trans q6.below⟩
end Go.Proofs.Ytcekglicepjjpaa
