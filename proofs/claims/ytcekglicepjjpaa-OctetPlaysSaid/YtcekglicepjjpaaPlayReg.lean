/-
  The statement of both calls: in whatever order its operations are done, both answers are stored and are the same.
-/
import Derived.Test.YtcekglicepjjpaaPlayInv
namespace Go.Proofs.Ytcekglicepjjpaa
open Go.RowKit
set_option linter.unusedVariables false
set_option linter.unusedSimpArgs false

theorem mixed : Try.prog.follows .mixedOrders = true := by kernel_rfl

set_option maxRecDepth 100000 in
set_option maxHeartbeats 3200000 in
theorem region9 (g g2 X k rk k0 : Nat) (s s2 : Value) (a : List UInt8) (rN rE : Int) (rB : List UInt8) (K y : Int) (w3 W : World) (Q : Exit → Act → World → Prop) (a0 : Act)
    (hcur3 : Cur w3 g s a k0) (hcu2 : Cur w3 g2 s2 a k0) (ngg : g ≠ g2) (hX : w3.heap.size ≤ X)
    (hc1 : Cur W g s a k) (hc2 : Cur W g2 s2 a k) (hT : Two g g2 w3 W) (hblk : W.heap[X]? = some (.cells #[.int .i64 K, .int .i64 y] 32 (0, 0)))
    (hdo : Hid (∀ (g : Nat) (s : Value) (w : World), Cur w g s a k → Calls Try.prog 12 #[.pointer (some ⟨g, 0, none⟩), .agg #[.int .i64 K, .int .i64 y]] w (DoOk w g s a rN rB rE rk)))
    (hrf : Hid (∀ (g : Nat) (s : Value) (w : World), Cur w g s a k → Calls Try.prog 13 #[.pointer (some ⟨g, 0, none⟩), .agg #[.int .i64 K, .int .i64 y]] w (RefOk w g s a rN rB rE rk)))
    (e6 : a0.tmps.getD 6 undef = .pointer (some ⟨g, 0, none⟩)) (e7 : a0.tmps.getD 7 undef = .pointer (some ⟨g2, 0, none⟩)) (e9 : a0.tmps.getD 9 undef = .pointer (some ⟨X, 0, none⟩)) (esz : a0.tmps.size = 95)
    (hfin : ∀ (f : Nat → Option Value) (w' : World), Fs f → StC g g2 rk s s2 a rN rE rB w3 true true f w' → Q .normal ⟨upd a0.tmps f, a0.defers⟩ w') :
    Code.wp Try.prog (Code.region 9 #[{ dst := some 46, op := Op.move (Operand.tmp 6), type := 25, pos := "law.go:61", after := #[], guard := none }, { dst := some 47, op := Op.load 32 (Operand.tmp 9), type := 32, pos := "law.go:61", after := #[], guard := none }, { dst := some 48, op := Op.call { callee := Callee.value (Operand.func 12), args := #[Operand.tmp 46, Operand.tmp 47], argTypes := #[25, 32] }, type := 34, pos := "law.go:61", after := #[{ on := 0, ground := Ground.data }, { on := 1, ground := Ground.data }], guard := none }, { dst := some 49, op := Op.move (Operand.tmp 7), type := 27, pos := "law.go:61", after := #[], guard := none }, { dst := some 50, op := Op.load 32 (Operand.tmp 9), type := 32, pos := "law.go:61", after := #[], guard := none }, { dst := some 51, op := Op.call { callee := Callee.value (Operand.func 13), args := #[Operand.tmp 49, Operand.tmp 50], argTypes := #[27, 32] }, type := 34, pos := "law.go:61", after := #[{ on := 3, ground := Ground.data }, { on := 4, ground := Ground.data }, { on := 2, ground := Ground.chain }], guard := none }, { dst := some 10, op := Op.alloc 34, type := 0, pos := "law.go:61", after := #[], guard := none }, { dst := some 11, op := Op.alloc 34, type := 0, pos := "law.go:61", after := #[], guard := none }, { dst := none, op := Op.store 34 (Operand.tmp 10) (Operand.tmp 48), type := 0, pos := "law.go:61", after := #[{ on := 6, ground := Ground.data }, { on := 2, ground := Ground.data }, { on := 5, ground := Ground.chain }, { on := 0, ground := Ground.phase }, { on := 1, ground := Ground.phase }, { on := 2, ground := Ground.phase }, { on := 3, ground := Ground.textOnly Departure.lateStores }, { on := 4, ground := Ground.textOnly Departure.lateStores }, { on := 5, ground := Ground.textOnly Departure.lateStoresUnsure }, { on := 6, ground := Ground.phase }, { on := 7, ground := Ground.phase }], guard := none }, { dst := none, op := Op.store 34 (Operand.tmp 11) (Operand.tmp 51), type := 0, pos := "law.go:61", after := #[{ on := 7, ground := Ground.data }, { on := 5, ground := Ground.data }, { on := 8, ground := Ground.chain }, { on := 0, ground := Ground.phase }, { on := 1, ground := Ground.phase }, { on := 2, ground := Ground.phase }, { on := 3, ground := Ground.phase }, { on := 4, ground := Ground.phase }, { on := 5, ground := Ground.phase }, { on := 6, ground := Ground.phase }, { on := 7, ground := Ground.phase }, { on := 8, ground := Ground.phase }], guard := none }] true) Q a0 W := by
  have HFIN := Lib.hid hfin; clear hfin
  refine wp_region_inv (InvP g g2 X k rk s s2 a rN rE rB K y w3 a0.tmps a0.defers) mixed ?h0 ?step ?fin
  case h0 =>
    refine ⟨fun _ => none, by rw [upd_none], fun d _ _ _ _ _ _ _ _ => rfl, .inl ⟨false, false, false, false, false, false, false, false, rfl, ?_⟩⟩
    exact ⟨hT.bel (Below.drew (Below.refl _ _)), hc1.drew, hc2.drew, hblk, fun h => (by cases h), fun h => (by cases h), fun h => (by cases h), fun h => (by cases h), fun h => (by cases h), fun h => (by cases h), fun h => (by cases h), fun h => (by cases h), fun h => (by cases h), fun h => (by cases h)⟩
  case step =>
    rintro L ac wq i hi ⟨f, rfl, hFs, hst⟩
    rcases hst with ⟨b0, b1, b2, b3, b4, b5, b6, b7, rfl, hA⟩ | ⟨rfl, hC'⟩ | ⟨rfl, hC'⟩
    · have hi10 : i < 10 := ready_lt hi
      have hold : ∀ d, d ≠ 46 → d ≠ 47 → d ≠ 48 → d ≠ 49 → d ≠ 50 → d ≠ 51 → d ≠ 10 → d ≠ 11 → (upd a0.tmps f).getD d undef = a0.tmps.getD d undef := fun d h1 h2 h3 h4 h5 h6 h7 h8 => upd_old _ _ _ (hFs d h1 h2 h3 h4 h5 h6 h7 h8)
      have hcase : i = 0 ∨ i = 1 ∨ i = 2 ∨ i = 3 ∨ i = 4 ∨ i = 5 ∨ i = 6 ∨ i = 7 ∨ i = 8 ∨ i = 9 := by omega
      rcases hcase with rfl | rfl | rfl | rfl | rfl | rfl | rfl | rfl | rfl | rfl
      · have ev : (upd a0.tmps f).getD 6 undef = .pointer (some ⟨g, 0, none⟩) := (hold 6 (by decide) (by decide) (by decide) (by decide) (by decide) (by decide) (by decide) (by decide)).trans e6
        refine wpOp_of rfl rfl ?_
        unfold Oper.wp
        clear hi
        go_simp
        exact ⟨_, by rw [upd_set], hFs.set _ (.inl rfl), .inl ⟨true, b1, b2, b3, b4, b5, b6, b7, rfl, hA.step0⟩⟩
      · have ev : (upd a0.tmps f).getD 9 undef = .pointer (some ⟨X, 0, none⟩) := (hold 9 (by decide) (by decide) (by decide) (by decide) (by decide) (by decide) (by decide) (by decide)).trans e9
        have x0 : wq.cell? ⟨X, 0, none⟩ = some (.int .i64 K) := by rw [blk_cell hA.blk]; rfl
        have x1 : wq.cell? ⟨X, 1, none⟩ = some (.int .i64 y) := by rw [blk_cell hA.blk]; rfl
        refine wpOp_of rfl rfl ?_
        unfold Oper.wp
        clear hi
        go_simp
        exact ⟨_, by rw [upd_set], hFs.set _ (.inr (.inl rfl)), .inl ⟨b0, true, b2, b3, b4, b5, b6, b7, rfl, hA.step1⟩⟩
      · have d0 : b0 = true := dep_of hi (o := _) rfl ⟨0, .data⟩ (by simp) rfl
        have d1 : b1 = true := dep_of hi (o := _) rfl ⟨1, .data⟩ (by simp) rfl
        have dn : b2 = false := ready_not hi
        have ev1 : (upd a0.tmps f).getD 46 undef = .pointer (some ⟨g, 0, none⟩) := upd_get _ _ _ _ (by rw [esz]; decide) (hA.f46 d0)
        have ev2 : (upd a0.tmps f).getD 47 undef = .agg #[.int .i64 K, .int .i64 y] := upd_get _ _ _ _ (by rw [esz]; decide) (hA.f47 d1)
        have cu : Cur wq g s a k := by have := hA.c1; rw [show ([b0, b1, b2, b3, b4, b5, b6, b7].getD 2 false) = false from dn] at this; exact this
        refine wpOp_of rfl rfl ?_
        unfold Oper.wp
        clear hi
        have DN := Lib.hid dn
        clear d0 d1 dn
        go_simp
        refine (hdo.out g s wq cu).mono ?_
        rintro e w1 ⟨Aq, nq, cq, rfl, hobq, hcq, honq⟩
        exact ⟨_, by rw [upd_set], hFs.set _ (.inr (.inr (.inl rfl))), .inl ⟨b0, b1, true, b3, b4, b5, b6, b7, rfl, hA.step2 hcur3 hcu2 ngg hX DN.out hobq hcq honq⟩⟩
      · have ev : (upd a0.tmps f).getD 7 undef = .pointer (some ⟨g2, 0, none⟩) := (hold 7 (by decide) (by decide) (by decide) (by decide) (by decide) (by decide) (by decide) (by decide)).trans e7
        refine wpOp_of rfl rfl ?_
        unfold Oper.wp
        clear hi
        go_simp
        exact ⟨_, by rw [upd_set], hFs.set _ (.inr (.inr (.inr (.inl rfl)))), .inl ⟨b0, b1, b2, true, b4, b5, b6, b7, rfl, hA.step3⟩⟩
      · have ev : (upd a0.tmps f).getD 9 undef = .pointer (some ⟨X, 0, none⟩) := (hold 9 (by decide) (by decide) (by decide) (by decide) (by decide) (by decide) (by decide) (by decide)).trans e9
        have x0 : wq.cell? ⟨X, 0, none⟩ = some (.int .i64 K) := by rw [blk_cell hA.blk]; rfl
        have x1 : wq.cell? ⟨X, 1, none⟩ = some (.int .i64 y) := by rw [blk_cell hA.blk]; rfl
        refine wpOp_of rfl rfl ?_
        unfold Oper.wp
        clear hi
        go_simp
        exact ⟨_, by rw [upd_set], hFs.set _ (.inr (.inr (.inr (.inr (.inl rfl))))), .inl ⟨b0, b1, b2, b3, true, b5, b6, b7, rfl, hA.step4⟩⟩
      · have d2 : b2 = true := dep_of hi (o := _) rfl ⟨2, .chain⟩ (by simp) rfl
        have d3 : b3 = true := dep_of hi (o := _) rfl ⟨3, .data⟩ (by simp) rfl
        have d4 : b4 = true := dep_of hi (o := _) rfl ⟨4, .data⟩ (by simp) rfl
        have dn : b5 = false := ready_not hi
        have ev1 : (upd a0.tmps f).getD 49 undef = .pointer (some ⟨g2, 0, none⟩) := upd_get _ _ _ _ (by rw [esz]; decide) (hA.f49 d3)
        have ev2 : (upd a0.tmps f).getD 50 undef = .agg #[.int .i64 K, .int .i64 y] := upd_get _ _ _ _ (by rw [esz]; decide) (hA.f50 d4)
        have cu : Cur wq g2 s2 a k := by have := hA.c2; rw [show ([b0, b1, b2, b3, b4, b5, b6, b7].getD 5 false) = false from dn] at this; exact this
        refine wpOp_of rfl rfl ?_
        unfold Oper.wp
        clear hi
        have DN := Lib.hid dn
        have D2 := Lib.hid d2
        have D3 := Lib.hid d3
        have D4 := Lib.hid d4
        clear d2 d3 d4 dn
        go_simp
        refine (hrf.out g2 s2 wq cu).mono ?_
        rintro e w1 ⟨Aq, nq, cq, rfl, hbsq, hcq, honq⟩
        exact ⟨_, by rw [upd_set], hFs.set _ (.inr (.inr (.inr (.inr (.inr (.inl rfl)))))), .inl ⟨b0, b1, b2, b3, b4, true, b6, b7, rfl, hA.step5 hcur3 hcu2 ngg hX DN.out D2.out D3.out D4.out hbsq hcq honq⟩⟩
      · refine wpOp_of rfl rfl ?_
        unfold Oper.wp
        clear hi
        go_simp
        exact ⟨_, by rw [upd_set], hFs.set _ (.inr (.inr (.inr (.inr (.inr (.inr (.inl rfl))))))), .inl ⟨b0, b1, b2, b3, b4, b5, true, b7, rfl, hA.step6 hcur3 hcu2⟩⟩
      · refine wpOp_of rfl rfl ?_
        unfold Oper.wp
        clear hi
        go_simp
        exact ⟨_, by rw [upd_set], hFs.set _ (.inr (.inr (.inr (.inr (.inr (.inr (.inr rfl))))))), .inl ⟨b0, b1, b2, b3, b4, b5, b6, true, rfl, hA.step7 hcur3 hcu2⟩⟩
      · have d0 : b0 = true := dep_of hi (o := _) rfl ⟨0, .phase⟩ (by simp) rfl
        have d1 : b1 = true := dep_of hi (o := _) rfl ⟨1, .phase⟩ (by simp) rfl
        have d2 : b2 = true := dep_of hi (o := _) rfl ⟨2, .data⟩ (by simp) rfl
        have d5 : b5 = true := dep_of hi (o := _) rfl ⟨5, .chain⟩ (by simp) rfl
        have d6 : b6 = true := dep_of hi (o := _) rfl ⟨6, .data⟩ (by simp) rfl
        have d7 : b7 = true := dep_of hi (o := _) rfl ⟨7, .phase⟩ (by simp) rfl
        obtain ⟨_, d3, d4⟩ := hA.ord d5
        have d3 : b3 = true := d3
        have d4 : b4 = true := d4
        subst d0 d1 d2 d3 d4 d5 d6 d7
        have hC' := hA.done
        have hC0 := hC'
        obtain ⟨x1, x2, A1, n1, c1', A2, n2, c2', i1, v1, t1, i2, v2, t2, p1, p2, hne, l1, l2, q1, q2, P1, P2, _⟩ := hC'
        have ev1 : (upd a0.tmps f).getD 10 undef = .pointer (some ⟨x1, 0, none⟩) := upd_get _ _ _ _ (by rw [esz]; decide) p1
        have ev2 : (upd a0.tmps f).getD 48 undef = .agg #[.int .i64 rN, .slice A1 n1 c1', .int .i64 rE] := upd_get _ _ _ _ (by rw [esz]; decide) q1
        have x0 : wq.cell? ⟨x1, 0, none⟩ = some (.int .i64 i1) := by rw [blk_cell P1.2]; rfl
        have x1' : wq.cell? ⟨x1, 1, none⟩ = some v1 := by rw [blk_cell P1.2]; rfl
        have x2' : wq.cell? ⟨x1, 2, none⟩ = some (.int .i64 t1) := by rw [blk_cell P1.2]; rfl
        have z0 := blk_frozen P1.2 0
        have z1 := blk_frozen P1.2 1
        have z2 := blk_frozen P1.2 2
        refine wpOp_of rfl rfl ?_
        unfold Oper.wp
        clear hi
        go_simp
        exact ⟨f, rfl, hFs, .inr (.inl ⟨rfl, hC0.store1 hcur3 hcu2 p1 q1⟩)⟩
      · have d8 : false = true := dep_of hi (o := _) rfl ⟨8, .chain⟩ (by simp) rfl
        cases d8
    · have hi10 : i < 10 := ready_lt hi
      have hcase : i = 0 ∨ i = 1 ∨ i = 2 ∨ i = 3 ∨ i = 4 ∨ i = 5 ∨ i = 6 ∨ i = 7 ∨ i = 8 ∨ i = 9 := by omega
      have hn := ready_not hi
      rcases hcase with rfl | rfl | rfl | rfl | rfl | rfl | rfl | rfl | rfl | rfl
      · cases hn
      · cases hn
      · cases hn
      · cases hn
      · cases hn
      · cases hn
      · cases hn
      · cases hn
      · cases hn
      have hC0 := hC'
      obtain ⟨x1, x2, A1, n1, c1', A2, n2, c2', i1, v1, t1, i2, v2, t2, p1, p2, hne, l1, l2, q1, q2, P1, P2, _⟩ := hC'
      have ev1 : (upd a0.tmps f).getD 11 undef = .pointer (some ⟨x2, 0, none⟩) := upd_get _ _ _ _ (by rw [esz]; decide) p2
      have ev2 : (upd a0.tmps f).getD 51 undef = .agg #[.int .i64 rN, .slice A2 n2 c2', .int .i64 rE] := upd_get _ _ _ _ (by rw [esz]; decide) q2
      have x0 : wq.cell? ⟨x2, 0, none⟩ = some (.int .i64 i2) := by rw [blk_cell P2.2]; rfl
      have x1' : wq.cell? ⟨x2, 1, none⟩ = some v2 := by rw [blk_cell P2.2]; rfl
      have x2' : wq.cell? ⟨x2, 2, none⟩ = some (.int .i64 t2) := by rw [blk_cell P2.2]; rfl
      have z0 := blk_frozen P2.2 0
      have z1 := blk_frozen P2.2 1
      have z2 := blk_frozen P2.2 2
      refine wpOp_of rfl rfl ?_
      unfold Oper.wp
      clear hi
      go_simp
      exact ⟨f, rfl, hFs, .inr (.inr ⟨rfl, hC0.store2 hcur3 hcu2 p2 q2⟩)⟩
    · have hi10 : i < 10 := ready_lt hi
      have hcase : i = 0 ∨ i = 1 ∨ i = 2 ∨ i = 3 ∨ i = 4 ∨ i = 5 ∨ i = 6 ∨ i = 7 ∨ i = 8 ∨ i = 9 := by omega
      have hn := ready_not hi
      rcases hcase with rfl | rfl | rfl | rfl | rfl | rfl | rfl | rfl | rfl | rfl <;> cases hn
  case fin =>
    rintro L ac wq hr ⟨f, rfl, hFs, hst⟩
    rcases hst with ⟨b0, b1, b2, b3, b4, b5, b6, b7, rfl, hA⟩ | ⟨rfl, hC'⟩ | ⟨rfl, hC'⟩
    · exfalso
      clear hA
      revert hr
      revert b0 b1 b2 b3 b4 b5 b6 b7
      decide +kernel
    · exfalso
      revert hr
      decide +kernel
    · exact HFIN.out f wq hFs hC'

end Go.Proofs.Ytcekglicepjjpaa
