/-
  The law SpanParts.
-/
import Derived.Test.YtlmmoinmlcpmnaaSm
namespace Go.Proofs.Ytlmmoinmlcpmnaa
open Go.RowKit
set_option linter.unusedVariables false
set_option linter.unusedSimpArgs false
set_option maxRecDepth 20000

/-- What the law's memory holds. -/
structure Mem (w W : World) (P Q M G : Nat) (s1 s2 t1 t2 m1 m2 g1 g2 : Int) : Prop where
  bs : Late w W w.heap.size 30 (.int .i64 s1) (.int .i64 s2)
  bt : Late w W (w.heap.size + 1) 30 (.int .i64 t1) (.int .i64 t2)
  p : Late w W P 31 (.int .i64 s1) (.int .i64 s2)
  q : Late w W Q 31 (.int .i64 t1) (.int .i64 t2)
  m : Late w W M 30 (.int .i64 m1) (.int .i64 m2)
  g : Late w W G 30 (.int .i64 g1) (.int .i64 g2)
  lt : P < M ∧ Q < M ∧ w.heap.size + 1 < M ∧ M < G
theorem Mem.call {w W W' : World} {P Q M G : Nat} {s1 s2 t1 t2 m1 m2 g1 g2 : Int} (h : Mem w W P Q M G s1 s2 t1 t2 m1 m2 g1 g2) (hb : Below W.heap.size W W') : Mem w W' P Q M G s1 s2 t1 t2 m1 m2 g1 g2 :=
  ⟨h.bs.call hb, h.bt.call hb, h.p.call hb, h.q.call hb, h.m.call hb, h.g.call hb, h.lt⟩
theorem Mem.drew {w W : World} {P Q M G : Nat} {s1 s2 t1 t2 m1 m2 g1 g2 : Int} (h : Mem w W P Q M G s1 s2 t1 t2 m1 m2 g1 g2) : Mem w W.drew P Q M G s1 s2 t1 t2 m1 m2 g1 g2 :=
  ⟨h.bs.drew, h.bt.drew, h.p.drew, h.q.drew, h.m.drew, h.g.drew, h.lt⟩
theorem Mem.putM {w W : World} {P Q M G : Nat} {s1 s2 t1 t2 m1 m2 g1 g2 : Int} (h : Mem w W P Q M G s1 s2 t1 t2 m1 m2 g1 g2) (a b : Int) : Mem w ((W.setCell ⟨M, 0, none⟩ (.int .i64 a)).setCell ⟨M, 1, none⟩ (.int .i64 b)) P Q M G s1 s2 t1 t2 a b g1 g2 := by
  obtain ⟨l1, l2, l3, l4⟩ := h.lt
  exact ⟨h.bs.keep h.m (by omega) _ _, h.bt.keep h.m (by omega) _ _, h.p.keep h.m (by omega) _ _, h.q.keep h.m (by omega) _ _, h.m.put _ _, h.g.keep h.m (by omega) _ _, h.lt⟩
theorem Mem.putG {w W : World} {P Q M G : Nat} {s1 s2 t1 t2 m1 m2 g1 g2 : Int} (h : Mem w W P Q M G s1 s2 t1 t2 m1 m2 g1 g2) (a b : Int) : Mem w ((W.setCell ⟨G, 0, none⟩ (.int .i64 a)).setCell ⟨G, 1, none⟩ (.int .i64 b)) P Q M G s1 s2 t1 t2 m1 m2 a b := by
  obtain ⟨l1, l2, l3, l4⟩ := h.lt
  exact ⟨h.bs.keep h.g (by omega) _ _, h.bt.keep h.g (by omega) _ _, h.p.keep h.g (by omega) _ _, h.q.keep h.g (by omega) _ _, h.m.keep h.g (by omega) _ _, h.g.put _ _, h.lt⟩
theorem snd_made {w W : World} (h : Below w.heap.size w W) (o : Obj) (x y : Value) (t : TypeId) : Late w ((W.alloc o).alloc (.cells #[x, y] t)) (W.heap.size + 1) t x y := by
  have := Late.made (h.alloc h.size o) x y t
  rw [World.size_alloc] at this
  exact this

set_option maxHeartbeats 12800000 in
theorem lawParts (s1 s2 t1 t2 n m : Int) (w : World) (hs1 : I64 s1) (hs2 : I64 s2) (ht1 : I64 t1) (ht2 : I64 t2) (hn : I64 n) (hm : I64 m) :
    Calls Try.prog 4 #[.agg #[.int .i64 s1, .int .i64 s2], .agg #[.int .i64 t1, .int .i64 t2], .int .i64 n, .int .i64 m] w fun e w' => e = .returned (.bool true) ∧ Below w.heap.size w w' := by
  have KK := Lib.hid (fun W => known11 W)
  have T1 := Lib.hid (fun W => lwTo s1 s2 W)
  have T2 := Lib.hid (fun W => lwTo t1 t2 W)
  have RE := Lib.hid (fun W => rfEmpty s1 s2 W)
  have PE := Lib.hid (fun W => spEmpty s1 s2 W)
  have R1 := Lib.hid (fun W => rfMinus s2 s1 W hs2 hs1)
  have R2 := Lib.hid (fun W => rfPlus (mns s2 s1) 1 W (mns_i64 _ _) (i64_lit rfl))
  have R3 := Lib.hid (fun W => rfPlus s1 n W hs1 hn)
  have R4 := Lib.hid (fun W => rfPlus s2 n W hs2 hn)
  have R5 := Lib.hid (fun W => rfMinus s1 n W hs1 hn)
  have R6 := Lib.hid (fun W => rfPlus s2 m W hs2 hm)
  have R7 := Lib.hid (fun W => rfRight (mns s1 n) (pls s2 m) W)
  have I1 := Lib.hid (fun W => rfIn t1 t2 s1 W)
  have I2 := Lib.hid (fun W => rfIn t1 t2 s2 W)
  have I3 := Lib.hid (fun W => rfIn s1 s2 n W)
  have J3 := Lib.hid (fun W => spIn s1 s2 n W)
  have PL := Lib.hid (fun W => spLength s1 s2 W hs1 hs2)
  have PM := Lib.hid (fun W => spMove s1 s2 n W hs1 hs2 hn)
  have PG := Lib.hid (fun W => spGrow s1 s2 n m W hs1 hs2 hn hm)
  have PW := Lib.hid (fun W => spWithin s1 s2 t1 t2 W)
  have KO := Lib.hid (fun x y W => lwOf x y W)
  have HQ : Hid (∀ x y W, (binOp .eql 30 (.agg #[.int .i64 x, .int .i64 y]) (.agg #[.int .i64 x, .int .i64 y])).run Try.prog W = .ok (.bool true) W) := fun x y W => by go_simp
  have L1 : Hid (s2 < s1 → lenS (s1, s2) = 0 ∧ moveS (s1, s2) n = (1, 0) ∧ growS (s1, s2) n m = (1, 0)) := fun g => ⟨if_pos g, if_pos g, if_pos g⟩
  have L2 : Hid (¬ s2 < s1 → lenS (s1, s2) = pls (mns s2 s1) 1 ∧ moveS (s1, s2) n = (pls s1 n, pls s2 n) ∧ growS (s1, s2) n m = canon (mns s1 n, pls s2 m)) := fun g => ⟨if_neg g, if_neg g, if_neg g⟩
  have WB : Hid (decide (inB (s1, s2) (t1, t2)) = (decide (s2 < s1) || (decide (Inn (t1, t2) s1) && decide (Inn (t1, t2) s2)))) := by
    unfold Hid
    by_cases g : s2 < s1 <;> by_cases g2 : Inn (t1, t2) s1 <;> by_cases g3 : Inn (t1, t2) s2 <;> simp [inB, g, g2, g3]
  generalize lenS (s1, s2) = ln at *
  obtain ⟨mv, hmv⟩ : ∃ q, moveS (s1, s2) n = q := ⟨_, rfl⟩
  rw [hmv] at PM L1 L2
  clear hmv
  obtain ⟨gw, hgw⟩ : ∃ q, growS (s1, s2) n m = q := ⟨_, rfl⟩
  rw [hgw] at PG L1 L2
  clear hgw
  obtain ⟨mv1, mv2⟩ := mv
  obtain ⟨gw1, gw2⟩ := gw
  dsimp only at PM PG
  generalize decide (inB (s1, s2) (t1, t2)) = wi at *
  generalize mns s2 s1 = d1 at *
  generalize pls d1 1 = d2 at *
  generalize pls s1 n = q1 at *
  generalize pls s2 n = q2 at *
  generalize mns s1 n = q3 at *
  generalize pls s2 m = q4 at *
  obtain ⟨cq, hcq⟩ : ∃ q, canon (q3, q4) = q := ⟨_, rfl⟩
  rw [hcq] at R7 L2
  clear hcq
  obtain ⟨c1, c2⟩ := cq
  dsimp only at R7
  have KB := Lib.hid ((Late.fst w (.int .i64 s1) (.int .i64 s2) 30).alloc (.cells #[.int .i64 t1, .int .i64 t2] 30))
  have KT := Lib.hid (Late.snd w (.cells #[.int .i64 s1, .int .i64 s2] 30) (.int .i64 t1) (.int .i64 t2) 30)
  obtain ⟨W1, hW1⟩ : ∃ W1, (w.alloc (.cells #[.int .i64 s1, .int .i64 s2] 30)).alloc (.cells #[.int .i64 t1, .int .i64 t2] 30) = W1 := ⟨_, rfl⟩
  rw [hW1] at KB KT
  clear hs1 hs2 ht1 ht2 hn hm
  go_enter Try.func4, Try.ntmps4
  go_upto_region 1 with (fail)
  clear hW1
  go_cut [9, 10] from 11 (fun p9 p10 wc => ∃ P Q, p9 = .pointer (some ⟨P, 0, none⟩) ∧ p10 = .pointer (some ⟨Q, 0, none⟩) ∧ Late w wc w.heap.size 30 (.int .i64 s1) (.int .i64 s2) ∧ Late w wc (w.heap.size + 1) 30 (.int .i64 t1) (.int .i64 t2) ∧ Late w wc P 31 (.int .i64 s1) (.int .i64 s2) ∧ Late w wc Q 31 (.int .i64 t1) (.int .i64 t2))
  case first =>
    refine wp_region_held_drew (S := fun W => ((W.cell? ⟨w.heap.size, 0, none⟩ = some (.int .i64 s1) ∧ W.cell? ⟨w.heap.size, 1, none⟩ = some (.int .i64 s2)) ∧ (W.cell? ⟨w.heap.size + 1, 0, none⟩ = some (.int .i64 t1) ∧ W.cell? ⟨w.heap.size + 1, 1, none⟩ = some (.int .i64 t2))) ∧ w.heap.size ≤ W.heap.size) (by kernel_rfl) ?hb0 (fun hHeld => ?_)
    case hb0 => (try dsimp only); exact ⟨⟨(Late.blk (Late.drew KB.out)).two.1, (Late.blk (Late.drew KT.out)).two.1⟩, (Late.bel (Late.drew KB.out)).size⟩
    refine wpAnyH_take (i := 0) (v := ?qv0) rfl (by kernel_rfl) (by kernel_rfl) (by kernel_rfl) (fun _ _ _ h => h) (Or.inl ⟨by kernel_rfl, ?qy0⟩) (by assumption) ?_
    case qy0 => (intro w hSw; (try dsimp only at hSw); go_simp) <;> (try with_reducible rfl)
    try simp only [Act.put, List.setIfInBounds_toArray, List.set_cons_zero, List.set_cons_succ, List.getElem_toArray, List.getElem_cons_succ, List.getElem_cons_zero]
    refine wpAnyH_take (i := 2) (v := ?qv2) rfl (by kernel_rfl) (by kernel_rfl) (by kernel_rfl) (fun _ _ _ h => h) (Or.inl ⟨by kernel_rfl, ?qy2⟩) (by assumption) ?_
    case qy2 => (intro w hSw; (try dsimp only at hSw); go_simp) <;> (try with_reducible rfl)
    try simp only [Act.put, List.setIfInBounds_toArray, List.set_cons_zero, List.set_cons_succ, List.getElem_toArray, List.getElem_cons_succ, List.getElem_cons_zero]
    refine wpAnyH_ready (rs := [1, 4, 5]) (by kernel_rfl) (by simp) ?_
    refine AllReadyH.cons rfl (fun K hK => ?_) (AllReadyH.cons rfl (fun K hK => ?_) (AllReadyH.cons rfl (fun K hK => ?_) (AllReadyH.nil)))
    · go_simp
      refine (T1.out ((World.drew W1))).mono ?_
      rintro e w1k ⟨rfl, hy⟩
      have B1 := Lib.hid (Late.call (Late.drew (W := W1) KB.out) hy)
      have T1k := Lib.hid (Late.call (Late.drew (W := W1) KT.out) hy)
      clear hy
      go_wp2_with fail
      refine hK.out _ _ ?hs1a (fun hHeld => ?_)
      case hs1a => (try dsimp only); exact ⟨⟨(Late.blk B1.out).two.1, (Late.blk T1k.out).two.1⟩, (Late.bel B1.out).size⟩
      clear hK K
      try simp only [Act.put, List.setIfInBounds_toArray, List.set_cons_zero, List.set_cons_succ, List.getElem_toArray, List.getElem_cons_succ, List.getElem_cons_zero]
      refine wpAnyH_ready (rs := [3, 4, 5]) (by kernel_rfl) (by simp) ?_
      refine AllReadyH.cons rfl (fun K hK => ?_) (AllReadyH.cons rfl (fun K hK => ?_) (AllReadyH.cons rfl (fun K hK => ?_) (AllReadyH.nil)))
      · go_simp
        refine (T2.out (w1k)).mono ?_
        rintro e w2k ⟨rfl, hy⟩
        have B2 := Lib.hid (Late.call B1.out hy)
        have T2k := Lib.hid (Late.call T1k.out hy)
        clear hy
        go_wp2_with fail
        refine hK.out _ _ ?hs3w1a (fun hHeld => ?_)
        case hs3w1a => (try dsimp only); exact ⟨⟨(Late.blk B2.out).two.1, (Late.blk T2k.out).two.1⟩, (Late.bel B2.out).size⟩
        clear hK K
        try simp only [Act.put, List.setIfInBounds_toArray, List.set_cons_zero, List.set_cons_succ, List.getElem_toArray, List.getElem_cons_succ, List.getElem_cons_zero]
        refine wpAnyH_ready (rs := [4, 5]) (by kernel_rfl) (by simp) ?_
        refine AllReadyH.cons rfl (fun K hK => ?_) (AllReadyH.cons rfl (fun K hK => ?_) (AllReadyH.nil))
        · go_simp
          have hnb3 : w.heap.size ≠ (World.heap w2k).size ∧ w.heap.size + 1 ≠ (World.heap w2k).size := ⟨Nat.ne_of_lt (Late.blk B2.out).lt, Nat.ne_of_lt (Late.blk T2k.out).lt⟩
          refine hK.out _ _ ?hs4w1w3a (fun hHeld => ?_)
          case hs4w1w3a => (try dsimp only); exact ⟨⟨(Late.blk (Late.alloc B2.out (.cells #[.int .i64 0, .int .i64 0] 31))).two.1, (Late.blk (Late.alloc T2k.out (.cells #[.int .i64 0, .int .i64 0] 31))).two.1⟩, (Late.bel (Late.alloc B2.out (.cells #[.int .i64 0, .int .i64 0] 31))).size⟩
          clear hK K
          try simp only [Act.put, List.setIfInBounds_toArray, List.set_cons_zero, List.set_cons_succ, List.getElem_toArray, List.getElem_cons_succ, List.getElem_cons_zero]
          refine wpAnyH_ready (rs := [5]) (by kernel_rfl) (by simp) ?_
          refine AllReadyH.cons rfl (fun K hK => ?_) AllReadyH.nil
          go_simp
          have hnb4 : w.heap.size ≠ (World.heap (World.alloc w2k (.cells #[.int .i64 0, .int .i64 0] 31))).size ∧ w.heap.size + 1 ≠ (World.heap (World.alloc w2k (.cells #[.int .i64 0, .int .i64 0] 31))).size := ⟨Nat.ne_of_lt (Late.blk (Late.alloc B2.out (.cells #[.int .i64 0, .int .i64 0] 31))).lt, Nat.ne_of_lt (Late.blk (Late.alloc T2k.out (.cells #[.int .i64 0, .int .i64 0] 31))).lt⟩
          have hpq : (World.heap w2k).size ≠ (World.heap (World.alloc w2k (.cells #[.int .i64 0, .int .i64 0] 31))).size := Nat.ne_of_lt (Late.blk (Late.made (W := w2k) B2.out.bel (.int .i64 0) (.int .i64 0) 31)).lt
          refine hK.out _ _ ?hs5w1w3w4a (fun hHeld => ?_)
          case hs5w1w3w4a => (try dsimp only); exact ⟨⟨(Late.blk (Late.alloc (Late.alloc B2.out (.cells #[.int .i64 0, .int .i64 0] 31)) (.cells #[.int .i64 0, .int .i64 0] 31))).two.1, (Late.blk (Late.alloc (Late.alloc T2k.out (.cells #[.int .i64 0, .int .i64 0] 31)) (.cells #[.int .i64 0, .int .i64 0] 31))).two.1⟩, (Late.bel (Late.alloc (Late.alloc B2.out (.cells #[.int .i64 0, .int .i64 0] 31)) (.cells #[.int .i64 0, .int .i64 0] 31))).size⟩
          clear hK K
          try simp only [Act.put, List.setIfInBounds_toArray, List.set_cons_zero, List.set_cons_succ, List.getElem_toArray, List.getElem_cons_succ, List.getElem_cons_zero]
          refine wpAnyH_ready (rs := [6]) (by kernel_rfl) (by simp) ?_
          refine AllReadyH.cons rfl (fun K hK => ?_) AllReadyH.nil
          have LP := (Late.alloc (Late.made (W := w2k) B2.out.bel (.int .i64 0) (.int .i64 0) 31) (.cells #[.int .i64 0, .int .i64 0] 31))
          have LQ := (Late.made (W := (World.alloc w2k (.cells #[.int .i64 0, .int .i64 0] 31))) (Late.alloc B2.out (.cells #[.int .i64 0, .int .i64 0] 31)).bel (.int .i64 0) (.int .i64 0) 31)
          have LB := (Late.alloc (Late.alloc B2.out (.cells #[.int .i64 0, .int .i64 0] 31)) (.cells #[.int .i64 0, .int .i64 0] 31))
          have LT := (Late.alloc (Late.alloc T2k.out (.cells #[.int .i64 0, .int .i64 0] 31)) (.cells #[.int .i64 0, .int .i64 0] 31))
          try simp only [World.size_alloc] at LP
          try simp only [World.size_alloc] at LQ
          try simp only [World.size_alloc] at hpq
          try simp only [World.size_alloc] at hnb3
          try simp only [World.size_alloc] at hnb4
          generalize (World.alloc (World.alloc w2k (.cells #[.int .i64 0, .int .i64 0] 31)) (.cells #[.int .i64 0, .int .i64 0] 31)) = W9 at LP LQ LB LT hHeld ⊢
          have GP := Lib.hid LP
          have GQ := Lib.hid LQ
          have GB := Lib.hid LB
          have GT := Lib.hid LT
          obtain ⟨⟨p0, p1⟩, p2, p3⟩ := LP.blk.two
          have NB := Lib.hid hnb3
          have NQ := Lib.hid hnb4
          have NP := Lib.hid hpq
          clear LP LQ LB LT hpq hnb3 hnb4
          go_simp
          refine hK.out _ _ ?hs6w1w3w4a (fun hHeld => ?_)
          case hs6w1w3w4a => (try dsimp only); exact ⟨⟨GB.out.blk.keep2 NB.out.1 _ _, GT.out.blk.keep2 NB.out.2 _ _⟩, (GP.out.put _ _).bel.size⟩
          clear hK K
          try simp only [Act.put, List.setIfInBounds_toArray, List.set_cons_zero, List.set_cons_succ, List.getElem_toArray, List.getElem_cons_succ, List.getElem_cons_zero]
          refine wpAnyH_ready (rs := [7]) (by kernel_rfl) (by simp) ?_
          refine AllReadyH.cons rfl (fun K hK => ?_) AllReadyH.nil
          have HP := Lib.hid (GP.out.put (.int .i64 s1) (.int .i64 s2))
          have HQQ := Lib.hid (GQ.out.keep GP.out (Ne.symm NP.out) (.int .i64 s1) (.int .i64 s2))
          have HB := Lib.hid (GB.out.keep GP.out NB.out.1 (.int .i64 s1) (.int .i64 s2))
          have HT := Lib.hid (GT.out.keep GP.out NB.out.2 (.int .i64 s1) (.int .i64 s2))
          clear p0 p1 p2 p3 GP GQ GB GT
          obtain ⟨W10, hW10⟩ : ∃ W10, World.setCell (World.setCell W9 ⟨(World.heap w2k).size, 0, none⟩ (.int .i64 s1)) ⟨(World.heap w2k).size, 1, none⟩ (.int .i64 s2) = W10 := ⟨_, rfl⟩
          rw [hW10] at HP HQQ HB HT hHeld ⊢
          clear hW10
          obtain ⟨⟨q0, q1⟩, q2, q3⟩ := HQQ.out.blk.two
          go_simp
          refine hK.out _ _ ?hs7w1w3w4a (fun hHeld => ?_)
          case hs7w1w3w4a => (try dsimp only); exact ⟨⟨HB.out.blk.keep2 NQ.out.1 _ _, HT.out.blk.keep2 NQ.out.2 _ _⟩, (HQQ.out.put _ _).bel.size⟩
          clear hK K
          try simp only [Act.put, List.setIfInBounds_toArray, List.set_cons_zero, List.set_cons_succ, List.getElem_toArray, List.getElem_cons_succ, List.getElem_cons_zero]
          refine wpAnyH_done (by kernel_rfl) ?_ _
          go_wp2_with fail
          go_meet
          exact ⟨_, _, rfl, rfl, HB.out.keep HQQ.out NQ.out.1 _ _, HT.out.keep HQQ.out NQ.out.2 _ _, HP.out.keep HQQ.out NP.out _ _, HQQ.out.put _ _⟩
        · go_simp
          have hnb5 : w.heap.size ≠ (World.heap w2k).size ∧ w.heap.size + 1 ≠ (World.heap w2k).size := ⟨Nat.ne_of_lt (Late.blk B2.out).lt, Nat.ne_of_lt (Late.blk T2k.out).lt⟩
          refine hK.out _ _ ?hs5w1w3a (fun hHeld => ?_)
          case hs5w1w3a => (try dsimp only); exact ⟨⟨(Late.blk (Late.alloc B2.out (.cells #[.int .i64 0, .int .i64 0] 31))).two.1, (Late.blk (Late.alloc T2k.out (.cells #[.int .i64 0, .int .i64 0] 31))).two.1⟩, (Late.bel (Late.alloc B2.out (.cells #[.int .i64 0, .int .i64 0] 31))).size⟩
          clear hK K
          try simp only [Act.put, List.setIfInBounds_toArray, List.set_cons_zero, List.set_cons_succ, List.getElem_toArray, List.getElem_cons_succ, List.getElem_cons_zero]
          refine wpAnyH_ready (rs := [4]) (by kernel_rfl) (by simp) ?_
          refine AllReadyH.cons rfl (fun K hK => ?_) AllReadyH.nil
          go_simp
          have hnb6 : w.heap.size ≠ (World.heap (World.alloc w2k (.cells #[.int .i64 0, .int .i64 0] 31))).size ∧ w.heap.size + 1 ≠ (World.heap (World.alloc w2k (.cells #[.int .i64 0, .int .i64 0] 31))).size := ⟨Nat.ne_of_lt (Late.blk (Late.alloc B2.out (.cells #[.int .i64 0, .int .i64 0] 31))).lt, Nat.ne_of_lt (Late.blk (Late.alloc T2k.out (.cells #[.int .i64 0, .int .i64 0] 31))).lt⟩
          have hpq : (World.heap (World.alloc w2k (.cells #[.int .i64 0, .int .i64 0] 31))).size ≠ (World.heap w2k).size := Ne.symm (Nat.ne_of_lt (Late.blk (Late.made (W := w2k) B2.out.bel (.int .i64 0) (.int .i64 0) 31)).lt)
          refine hK.out _ _ ?hs4w1w3w5a (fun hHeld => ?_)
          case hs4w1w3w5a => (try dsimp only); exact ⟨⟨(Late.blk (Late.alloc (Late.alloc B2.out (.cells #[.int .i64 0, .int .i64 0] 31)) (.cells #[.int .i64 0, .int .i64 0] 31))).two.1, (Late.blk (Late.alloc (Late.alloc T2k.out (.cells #[.int .i64 0, .int .i64 0] 31)) (.cells #[.int .i64 0, .int .i64 0] 31))).two.1⟩, (Late.bel (Late.alloc (Late.alloc B2.out (.cells #[.int .i64 0, .int .i64 0] 31)) (.cells #[.int .i64 0, .int .i64 0] 31))).size⟩
          clear hK K
          try simp only [Act.put, List.setIfInBounds_toArray, List.set_cons_zero, List.set_cons_succ, List.getElem_toArray, List.getElem_cons_succ, List.getElem_cons_zero]
          refine wpAnyH_ready (rs := [6]) (by kernel_rfl) (by simp) ?_
          refine AllReadyH.cons rfl (fun K hK => ?_) AllReadyH.nil
          have LP := (Late.made (W := (World.alloc w2k (.cells #[.int .i64 0, .int .i64 0] 31))) (Late.alloc B2.out (.cells #[.int .i64 0, .int .i64 0] 31)).bel (.int .i64 0) (.int .i64 0) 31)
          have LQ := (Late.alloc (Late.made (W := w2k) B2.out.bel (.int .i64 0) (.int .i64 0) 31) (.cells #[.int .i64 0, .int .i64 0] 31))
          have LB := (Late.alloc (Late.alloc B2.out (.cells #[.int .i64 0, .int .i64 0] 31)) (.cells #[.int .i64 0, .int .i64 0] 31))
          have LT := (Late.alloc (Late.alloc T2k.out (.cells #[.int .i64 0, .int .i64 0] 31)) (.cells #[.int .i64 0, .int .i64 0] 31))
          try simp only [World.size_alloc] at LP
          try simp only [World.size_alloc] at LQ
          try simp only [World.size_alloc] at hpq
          try simp only [World.size_alloc] at hnb6
          try simp only [World.size_alloc] at hnb5
          generalize (World.alloc (World.alloc w2k (.cells #[.int .i64 0, .int .i64 0] 31)) (.cells #[.int .i64 0, .int .i64 0] 31)) = W9 at LP LQ LB LT hHeld ⊢
          have GP := Lib.hid LP
          have GQ := Lib.hid LQ
          have GB := Lib.hid LB
          have GT := Lib.hid LT
          obtain ⟨⟨p0, p1⟩, p2, p3⟩ := LP.blk.two
          have NB := Lib.hid hnb6
          have NQ := Lib.hid hnb5
          have NP := Lib.hid hpq
          clear LP LQ LB LT hpq hnb6 hnb5
          go_simp
          refine hK.out _ _ ?hs6w1w3w5a (fun hHeld => ?_)
          case hs6w1w3w5a => (try dsimp only); exact ⟨⟨GB.out.blk.keep2 NB.out.1 _ _, GT.out.blk.keep2 NB.out.2 _ _⟩, (GP.out.put _ _).bel.size⟩
          clear hK K
          try simp only [Act.put, List.setIfInBounds_toArray, List.set_cons_zero, List.set_cons_succ, List.getElem_toArray, List.getElem_cons_succ, List.getElem_cons_zero]
          refine wpAnyH_ready (rs := [7]) (by kernel_rfl) (by simp) ?_
          refine AllReadyH.cons rfl (fun K hK => ?_) AllReadyH.nil
          have HP := Lib.hid (GP.out.put (.int .i64 s1) (.int .i64 s2))
          have HQQ := Lib.hid (GQ.out.keep GP.out (Ne.symm NP.out) (.int .i64 s1) (.int .i64 s2))
          have HB := Lib.hid (GB.out.keep GP.out NB.out.1 (.int .i64 s1) (.int .i64 s2))
          have HT := Lib.hid (GT.out.keep GP.out NB.out.2 (.int .i64 s1) (.int .i64 s2))
          clear p0 p1 p2 p3 GP GQ GB GT
          obtain ⟨W10, hW10⟩ : ∃ W10, World.setCell (World.setCell W9 ⟨(World.heap w2k).size + 1, 0, none⟩ (.int .i64 s1)) ⟨(World.heap w2k).size + 1, 1, none⟩ (.int .i64 s2) = W10 := ⟨_, rfl⟩
          rw [hW10] at HP HQQ HB HT hHeld ⊢
          clear hW10
          obtain ⟨⟨q0, q1⟩, q2, q3⟩ := HQQ.out.blk.two
          go_simp
          refine hK.out _ _ ?hs7w1w3w5a (fun hHeld => ?_)
          case hs7w1w3w5a => (try dsimp only); exact ⟨⟨HB.out.blk.keep2 NQ.out.1 _ _, HT.out.blk.keep2 NQ.out.2 _ _⟩, (HQQ.out.put _ _).bel.size⟩
          clear hK K
          try simp only [Act.put, List.setIfInBounds_toArray, List.set_cons_zero, List.set_cons_succ, List.getElem_toArray, List.getElem_cons_succ, List.getElem_cons_zero]
          refine wpAnyH_done (by kernel_rfl) ?_ _
          go_wp2_with fail
          go_meet
          exact ⟨_, _, rfl, rfl, HB.out.keep HQQ.out NQ.out.1 _ _, HT.out.keep HQQ.out NQ.out.2 _ _, HP.out.keep HQQ.out NP.out _ _, HQQ.out.put _ _⟩
      · go_simp
        have hnb7 : w.heap.size ≠ (World.heap w1k).size ∧ w.heap.size + 1 ≠ (World.heap w1k).size := ⟨Nat.ne_of_lt (Late.blk B1.out).lt, Nat.ne_of_lt (Late.blk T1k.out).lt⟩
        refine hK.out _ _ ?hs4w1a (fun hHeld => ?_)
        case hs4w1a => (try dsimp only); exact ⟨⟨(Late.blk (Late.alloc B1.out (.cells #[.int .i64 0, .int .i64 0] 31))).two.1, (Late.blk (Late.alloc T1k.out (.cells #[.int .i64 0, .int .i64 0] 31))).two.1⟩, (Late.bel (Late.alloc B1.out (.cells #[.int .i64 0, .int .i64 0] 31))).size⟩
        clear hK K
        try simp only [Act.put, List.setIfInBounds_toArray, List.set_cons_zero, List.set_cons_succ, List.getElem_toArray, List.getElem_cons_succ, List.getElem_cons_zero]
        refine wpAnyH_ready (rs := [3, 5]) (by kernel_rfl) (by simp) ?_
        refine AllReadyH.cons rfl (fun K hK => ?_) (AllReadyH.cons rfl (fun K hK => ?_) (AllReadyH.nil))
        · go_simp
          refine (T2.out ((World.alloc w1k (.cells #[.int .i64 0, .int .i64 0] 31)))).mono ?_
          rintro e w8k ⟨rfl, hy⟩
          have B8 := Lib.hid (Late.call (Late.alloc B1.out (.cells #[.int .i64 0, .int .i64 0] 31)) hy)
          have T8k := Lib.hid (Late.call (Late.alloc T1k.out (.cells #[.int .i64 0, .int .i64 0] 31)) hy)
          have P8 := Lib.hid (Late.call (Late.made (W := w1k) B1.out.bel (.int .i64 0) (.int .i64 0) 31) hy)
          clear hy
          go_wp2_with fail
          refine hK.out _ _ ?hs3w1w4a (fun hHeld => ?_)
          case hs3w1w4a => (try dsimp only); exact ⟨⟨(Late.blk B8.out).two.1, (Late.blk T8k.out).two.1⟩, (Late.bel B8.out).size⟩
          clear hK K
          try simp only [Act.put, List.setIfInBounds_toArray, List.set_cons_zero, List.set_cons_succ, List.getElem_toArray, List.getElem_cons_succ, List.getElem_cons_zero]
          refine wpAnyH_ready (rs := [5]) (by kernel_rfl) (by simp) ?_
          refine AllReadyH.cons rfl (fun K hK => ?_) AllReadyH.nil
          go_simp
          have hnb9 : w.heap.size ≠ (World.heap w8k).size ∧ w.heap.size + 1 ≠ (World.heap w8k).size := ⟨Nat.ne_of_lt (Late.blk B8.out).lt, Nat.ne_of_lt (Late.blk T8k.out).lt⟩
          have hpq : (World.heap w1k).size ≠ (World.heap w8k).size := Nat.ne_of_lt (Late.blk P8.out).lt
          refine hK.out _ _ ?hs5w1w4w3a (fun hHeld => ?_)
          case hs5w1w4w3a => (try dsimp only); exact ⟨⟨(Late.blk (Late.alloc B8.out (.cells #[.int .i64 0, .int .i64 0] 31))).two.1, (Late.blk (Late.alloc T8k.out (.cells #[.int .i64 0, .int .i64 0] 31))).two.1⟩, (Late.bel (Late.alloc B8.out (.cells #[.int .i64 0, .int .i64 0] 31))).size⟩
          clear hK K
          try simp only [Act.put, List.setIfInBounds_toArray, List.set_cons_zero, List.set_cons_succ, List.getElem_toArray, List.getElem_cons_succ, List.getElem_cons_zero]
          refine wpAnyH_ready (rs := [6]) (by kernel_rfl) (by simp) ?_
          refine AllReadyH.cons rfl (fun K hK => ?_) AllReadyH.nil
          have LP := (Late.alloc P8.out (.cells #[.int .i64 0, .int .i64 0] 31))
          have LQ := (Late.made (W := w8k) B8.out.bel (.int .i64 0) (.int .i64 0) 31)
          have LB := (Late.alloc B8.out (.cells #[.int .i64 0, .int .i64 0] 31))
          have LT := (Late.alloc T8k.out (.cells #[.int .i64 0, .int .i64 0] 31))
          try simp only [World.size_alloc] at LP
          try simp only [World.size_alloc] at LQ
          try simp only [World.size_alloc] at hpq
          try simp only [World.size_alloc] at hnb7
          try simp only [World.size_alloc] at hnb9
          generalize (World.alloc w8k (.cells #[.int .i64 0, .int .i64 0] 31)) = W9 at LP LQ LB LT hHeld ⊢
          have GP := Lib.hid LP
          have GQ := Lib.hid LQ
          have GB := Lib.hid LB
          have GT := Lib.hid LT
          obtain ⟨⟨p0, p1⟩, p2, p3⟩ := LP.blk.two
          have NB := Lib.hid hnb7
          have NQ := Lib.hid hnb9
          have NP := Lib.hid hpq
          clear LP LQ LB LT hpq hnb7 hnb9
          go_simp
          refine hK.out _ _ ?hs6w1w4w3a (fun hHeld => ?_)
          case hs6w1w4w3a => (try dsimp only); exact ⟨⟨GB.out.blk.keep2 NB.out.1 _ _, GT.out.blk.keep2 NB.out.2 _ _⟩, (GP.out.put _ _).bel.size⟩
          clear hK K
          try simp only [Act.put, List.setIfInBounds_toArray, List.set_cons_zero, List.set_cons_succ, List.getElem_toArray, List.getElem_cons_succ, List.getElem_cons_zero]
          refine wpAnyH_ready (rs := [7]) (by kernel_rfl) (by simp) ?_
          refine AllReadyH.cons rfl (fun K hK => ?_) AllReadyH.nil
          have HP := Lib.hid (GP.out.put (.int .i64 s1) (.int .i64 s2))
          have HQQ := Lib.hid (GQ.out.keep GP.out (Ne.symm NP.out) (.int .i64 s1) (.int .i64 s2))
          have HB := Lib.hid (GB.out.keep GP.out NB.out.1 (.int .i64 s1) (.int .i64 s2))
          have HT := Lib.hid (GT.out.keep GP.out NB.out.2 (.int .i64 s1) (.int .i64 s2))
          clear p0 p1 p2 p3 GP GQ GB GT
          obtain ⟨W10, hW10⟩ : ∃ W10, World.setCell (World.setCell W9 ⟨(World.heap w1k).size, 0, none⟩ (.int .i64 s1)) ⟨(World.heap w1k).size, 1, none⟩ (.int .i64 s2) = W10 := ⟨_, rfl⟩
          rw [hW10] at HP HQQ HB HT hHeld ⊢
          clear hW10
          obtain ⟨⟨q0, q1⟩, q2, q3⟩ := HQQ.out.blk.two
          go_simp
          refine hK.out _ _ ?hs7w1w4w3a (fun hHeld => ?_)
          case hs7w1w4w3a => (try dsimp only); exact ⟨⟨HB.out.blk.keep2 NQ.out.1 _ _, HT.out.blk.keep2 NQ.out.2 _ _⟩, (HQQ.out.put _ _).bel.size⟩
          clear hK K
          try simp only [Act.put, List.setIfInBounds_toArray, List.set_cons_zero, List.set_cons_succ, List.getElem_toArray, List.getElem_cons_succ, List.getElem_cons_zero]
          refine wpAnyH_done (by kernel_rfl) ?_ _
          go_wp2_with fail
          go_meet
          exact ⟨_, _, rfl, rfl, HB.out.keep HQQ.out NQ.out.1 _ _, HT.out.keep HQQ.out NQ.out.2 _ _, HP.out.keep HQQ.out NP.out _ _, HQQ.out.put _ _⟩
        · go_simp
          have hnb10 : w.heap.size ≠ (World.heap (World.alloc w1k (.cells #[.int .i64 0, .int .i64 0] 31))).size ∧ w.heap.size + 1 ≠ (World.heap (World.alloc w1k (.cells #[.int .i64 0, .int .i64 0] 31))).size := ⟨Nat.ne_of_lt (Late.blk (Late.alloc B1.out (.cells #[.int .i64 0, .int .i64 0] 31))).lt, Nat.ne_of_lt (Late.blk (Late.alloc T1k.out (.cells #[.int .i64 0, .int .i64 0] 31))).lt⟩
          have hpq : (World.heap w1k).size ≠ (World.heap (World.alloc w1k (.cells #[.int .i64 0, .int .i64 0] 31))).size := Nat.ne_of_lt (Late.blk (Late.made (W := w1k) B1.out.bel (.int .i64 0) (.int .i64 0) 31)).lt
          refine hK.out _ _ ?hs5w1w4a (fun hHeld => ?_)
          case hs5w1w4a => (try dsimp only); exact ⟨⟨(Late.blk (Late.alloc (Late.alloc B1.out (.cells #[.int .i64 0, .int .i64 0] 31)) (.cells #[.int .i64 0, .int .i64 0] 31))).two.1, (Late.blk (Late.alloc (Late.alloc T1k.out (.cells #[.int .i64 0, .int .i64 0] 31)) (.cells #[.int .i64 0, .int .i64 0] 31))).two.1⟩, (Late.bel (Late.alloc (Late.alloc B1.out (.cells #[.int .i64 0, .int .i64 0] 31)) (.cells #[.int .i64 0, .int .i64 0] 31))).size⟩
          clear hK K
          try simp only [Act.put, List.setIfInBounds_toArray, List.set_cons_zero, List.set_cons_succ, List.getElem_toArray, List.getElem_cons_succ, List.getElem_cons_zero]
          refine wpAnyH_ready (rs := [3]) (by kernel_rfl) (by simp) ?_
          refine AllReadyH.cons rfl (fun K hK => ?_) AllReadyH.nil
          go_simp
          refine (T2.out ((World.alloc (World.alloc w1k (.cells #[.int .i64 0, .int .i64 0] 31)) (.cells #[.int .i64 0, .int .i64 0] 31)))).mono ?_
          rintro e w11k ⟨rfl, hy⟩
          have B11 := Lib.hid (Late.call (Late.alloc (Late.alloc B1.out (.cells #[.int .i64 0, .int .i64 0] 31)) (.cells #[.int .i64 0, .int .i64 0] 31)) hy)
          have T11k := Lib.hid (Late.call (Late.alloc (Late.alloc T1k.out (.cells #[.int .i64 0, .int .i64 0] 31)) (.cells #[.int .i64 0, .int .i64 0] 31)) hy)
          have P11 := Lib.hid (Late.call (Late.alloc (Late.made (W := w1k) B1.out.bel (.int .i64 0) (.int .i64 0) 31) (.cells #[.int .i64 0, .int .i64 0] 31)) hy)
          have Q11 := Lib.hid (Late.call (Late.made (W := (World.alloc w1k (.cells #[.int .i64 0, .int .i64 0] 31))) (Late.alloc B1.out (.cells #[.int .i64 0, .int .i64 0] 31)).bel (.int .i64 0) (.int .i64 0) 31) hy)
          clear hy
          go_wp2_with fail
          refine hK.out _ _ ?hs3w1w4w5a (fun hHeld => ?_)
          case hs3w1w4w5a => (try dsimp only); exact ⟨⟨(Late.blk B11.out).two.1, (Late.blk T11k.out).two.1⟩, (Late.bel B11.out).size⟩
          clear hK K
          try simp only [Act.put, List.setIfInBounds_toArray, List.set_cons_zero, List.set_cons_succ, List.getElem_toArray, List.getElem_cons_succ, List.getElem_cons_zero]
          refine wpAnyH_ready (rs := [6]) (by kernel_rfl) (by simp) ?_
          refine AllReadyH.cons rfl (fun K hK => ?_) AllReadyH.nil
          have LP := P11.out
          have LQ := Q11.out
          have LB := B11.out
          have LT := T11k.out
          try simp only [World.size_alloc] at LP
          try simp only [World.size_alloc] at LQ
          try simp only [World.size_alloc] at hpq
          try simp only [World.size_alloc] at hnb7
          try simp only [World.size_alloc] at hnb10
          have GP := Lib.hid LP
          have GQ := Lib.hid LQ
          have GB := Lib.hid LB
          have GT := Lib.hid LT
          obtain ⟨⟨p0, p1⟩, p2, p3⟩ := LP.blk.two
          have NB := Lib.hid hnb7
          have NQ := Lib.hid hnb10
          have NP := Lib.hid hpq
          clear LP LQ LB LT hpq hnb7 hnb10
          go_simp
          refine hK.out _ _ ?hs6w1w4w5a (fun hHeld => ?_)
          case hs6w1w4w5a => (try dsimp only); exact ⟨⟨GB.out.blk.keep2 NB.out.1 _ _, GT.out.blk.keep2 NB.out.2 _ _⟩, (GP.out.put _ _).bel.size⟩
          clear hK K
          try simp only [Act.put, List.setIfInBounds_toArray, List.set_cons_zero, List.set_cons_succ, List.getElem_toArray, List.getElem_cons_succ, List.getElem_cons_zero]
          refine wpAnyH_ready (rs := [7]) (by kernel_rfl) (by simp) ?_
          refine AllReadyH.cons rfl (fun K hK => ?_) AllReadyH.nil
          have HP := Lib.hid (GP.out.put (.int .i64 s1) (.int .i64 s2))
          have HQQ := Lib.hid (GQ.out.keep GP.out (Ne.symm NP.out) (.int .i64 s1) (.int .i64 s2))
          have HB := Lib.hid (GB.out.keep GP.out NB.out.1 (.int .i64 s1) (.int .i64 s2))
          have HT := Lib.hid (GT.out.keep GP.out NB.out.2 (.int .i64 s1) (.int .i64 s2))
          clear p0 p1 p2 p3 GP GQ GB GT
          obtain ⟨W10, hW10⟩ : ∃ W10, World.setCell (World.setCell w11k ⟨(World.heap w1k).size, 0, none⟩ (.int .i64 s1)) ⟨(World.heap w1k).size, 1, none⟩ (.int .i64 s2) = W10 := ⟨_, rfl⟩
          rw [hW10] at HP HQQ HB HT hHeld ⊢
          clear hW10
          obtain ⟨⟨q0, q1⟩, q2, q3⟩ := HQQ.out.blk.two
          go_simp
          refine hK.out _ _ ?hs7w1w4w5a (fun hHeld => ?_)
          case hs7w1w4w5a => (try dsimp only); exact ⟨⟨HB.out.blk.keep2 NQ.out.1 _ _, HT.out.blk.keep2 NQ.out.2 _ _⟩, (HQQ.out.put _ _).bel.size⟩
          clear hK K
          try simp only [Act.put, List.setIfInBounds_toArray, List.set_cons_zero, List.set_cons_succ, List.getElem_toArray, List.getElem_cons_succ, List.getElem_cons_zero]
          refine wpAnyH_done (by kernel_rfl) ?_ _
          go_wp2_with fail
          go_meet
          exact ⟨_, _, rfl, rfl, HB.out.keep HQQ.out NQ.out.1 _ _, HT.out.keep HQQ.out NQ.out.2 _ _, HP.out.keep HQQ.out NP.out _ _, HQQ.out.put _ _⟩
      · go_simp
        have hnb12 : w.heap.size ≠ (World.heap w1k).size ∧ w.heap.size + 1 ≠ (World.heap w1k).size := ⟨Nat.ne_of_lt (Late.blk B1.out).lt, Nat.ne_of_lt (Late.blk T1k.out).lt⟩
        refine hK.out _ _ ?hs5w1a (fun hHeld => ?_)
        case hs5w1a => (try dsimp only); exact ⟨⟨(Late.blk (Late.alloc B1.out (.cells #[.int .i64 0, .int .i64 0] 31))).two.1, (Late.blk (Late.alloc T1k.out (.cells #[.int .i64 0, .int .i64 0] 31))).two.1⟩, (Late.bel (Late.alloc B1.out (.cells #[.int .i64 0, .int .i64 0] 31))).size⟩
        clear hK K
        try simp only [Act.put, List.setIfInBounds_toArray, List.set_cons_zero, List.set_cons_succ, List.getElem_toArray, List.getElem_cons_succ, List.getElem_cons_zero]
        refine wpAnyH_ready (rs := [3, 4]) (by kernel_rfl) (by simp) ?_
        refine AllReadyH.cons rfl (fun K hK => ?_) (AllReadyH.cons rfl (fun K hK => ?_) (AllReadyH.nil))
        · go_simp
          refine (T2.out ((World.alloc w1k (.cells #[.int .i64 0, .int .i64 0] 31)))).mono ?_
          rintro e w13k ⟨rfl, hy⟩
          have B13 := Lib.hid (Late.call (Late.alloc B1.out (.cells #[.int .i64 0, .int .i64 0] 31)) hy)
          have T13k := Lib.hid (Late.call (Late.alloc T1k.out (.cells #[.int .i64 0, .int .i64 0] 31)) hy)
          have Q13 := Lib.hid (Late.call (Late.made (W := w1k) B1.out.bel (.int .i64 0) (.int .i64 0) 31) hy)
          clear hy
          go_wp2_with fail
          refine hK.out _ _ ?hs3w1w5a (fun hHeld => ?_)
          case hs3w1w5a => (try dsimp only); exact ⟨⟨(Late.blk B13.out).two.1, (Late.blk T13k.out).two.1⟩, (Late.bel B13.out).size⟩
          clear hK K
          try simp only [Act.put, List.setIfInBounds_toArray, List.set_cons_zero, List.set_cons_succ, List.getElem_toArray, List.getElem_cons_succ, List.getElem_cons_zero]
          refine wpAnyH_ready (rs := [4]) (by kernel_rfl) (by simp) ?_
          refine AllReadyH.cons rfl (fun K hK => ?_) AllReadyH.nil
          go_simp
          have hnb14 : w.heap.size ≠ (World.heap w13k).size ∧ w.heap.size + 1 ≠ (World.heap w13k).size := ⟨Nat.ne_of_lt (Late.blk B13.out).lt, Nat.ne_of_lt (Late.blk T13k.out).lt⟩
          have hpq : (World.heap w13k).size ≠ (World.heap w1k).size := Ne.symm (Nat.ne_of_lt (Late.blk Q13.out).lt)
          refine hK.out _ _ ?hs4w1w5w3a (fun hHeld => ?_)
          case hs4w1w5w3a => (try dsimp only); exact ⟨⟨(Late.blk (Late.alloc B13.out (.cells #[.int .i64 0, .int .i64 0] 31))).two.1, (Late.blk (Late.alloc T13k.out (.cells #[.int .i64 0, .int .i64 0] 31))).two.1⟩, (Late.bel (Late.alloc B13.out (.cells #[.int .i64 0, .int .i64 0] 31))).size⟩
          clear hK K
          try simp only [Act.put, List.setIfInBounds_toArray, List.set_cons_zero, List.set_cons_succ, List.getElem_toArray, List.getElem_cons_succ, List.getElem_cons_zero]
          refine wpAnyH_ready (rs := [6]) (by kernel_rfl) (by simp) ?_
          refine AllReadyH.cons rfl (fun K hK => ?_) AllReadyH.nil
          have LP := (Late.made (W := w13k) B13.out.bel (.int .i64 0) (.int .i64 0) 31)
          have LQ := (Late.alloc Q13.out (.cells #[.int .i64 0, .int .i64 0] 31))
          have LB := (Late.alloc B13.out (.cells #[.int .i64 0, .int .i64 0] 31))
          have LT := (Late.alloc T13k.out (.cells #[.int .i64 0, .int .i64 0] 31))
          try simp only [World.size_alloc] at LP
          try simp only [World.size_alloc] at LQ
          try simp only [World.size_alloc] at hpq
          try simp only [World.size_alloc] at hnb14
          try simp only [World.size_alloc] at hnb12
          generalize (World.alloc w13k (.cells #[.int .i64 0, .int .i64 0] 31)) = W9 at LP LQ LB LT hHeld ⊢
          have GP := Lib.hid LP
          have GQ := Lib.hid LQ
          have GB := Lib.hid LB
          have GT := Lib.hid LT
          obtain ⟨⟨p0, p1⟩, p2, p3⟩ := LP.blk.two
          have NB := Lib.hid hnb14
          have NQ := Lib.hid hnb12
          have NP := Lib.hid hpq
          clear LP LQ LB LT hpq hnb14 hnb12
          go_simp
          refine hK.out _ _ ?hs6w1w5w3a (fun hHeld => ?_)
          case hs6w1w5w3a => (try dsimp only); exact ⟨⟨GB.out.blk.keep2 NB.out.1 _ _, GT.out.blk.keep2 NB.out.2 _ _⟩, (GP.out.put _ _).bel.size⟩
          clear hK K
          try simp only [Act.put, List.setIfInBounds_toArray, List.set_cons_zero, List.set_cons_succ, List.getElem_toArray, List.getElem_cons_succ, List.getElem_cons_zero]
          refine wpAnyH_ready (rs := [7]) (by kernel_rfl) (by simp) ?_
          refine AllReadyH.cons rfl (fun K hK => ?_) AllReadyH.nil
          have HP := Lib.hid (GP.out.put (.int .i64 s1) (.int .i64 s2))
          have HQQ := Lib.hid (GQ.out.keep GP.out (Ne.symm NP.out) (.int .i64 s1) (.int .i64 s2))
          have HB := Lib.hid (GB.out.keep GP.out NB.out.1 (.int .i64 s1) (.int .i64 s2))
          have HT := Lib.hid (GT.out.keep GP.out NB.out.2 (.int .i64 s1) (.int .i64 s2))
          clear p0 p1 p2 p3 GP GQ GB GT
          obtain ⟨W10, hW10⟩ : ∃ W10, World.setCell (World.setCell W9 ⟨(World.heap w13k).size, 0, none⟩ (.int .i64 s1)) ⟨(World.heap w13k).size, 1, none⟩ (.int .i64 s2) = W10 := ⟨_, rfl⟩
          rw [hW10] at HP HQQ HB HT hHeld ⊢
          clear hW10
          obtain ⟨⟨q0, q1⟩, q2, q3⟩ := HQQ.out.blk.two
          go_simp
          refine hK.out _ _ ?hs7w1w5w3a (fun hHeld => ?_)
          case hs7w1w5w3a => (try dsimp only); exact ⟨⟨HB.out.blk.keep2 NQ.out.1 _ _, HT.out.blk.keep2 NQ.out.2 _ _⟩, (HQQ.out.put _ _).bel.size⟩
          clear hK K
          try simp only [Act.put, List.setIfInBounds_toArray, List.set_cons_zero, List.set_cons_succ, List.getElem_toArray, List.getElem_cons_succ, List.getElem_cons_zero]
          refine wpAnyH_done (by kernel_rfl) ?_ _
          go_wp2_with fail
          go_meet
          exact ⟨_, _, rfl, rfl, HB.out.keep HQQ.out NQ.out.1 _ _, HT.out.keep HQQ.out NQ.out.2 _ _, HP.out.keep HQQ.out NP.out _ _, HQQ.out.put _ _⟩
        · go_simp
          have hnb15 : w.heap.size ≠ (World.heap (World.alloc w1k (.cells #[.int .i64 0, .int .i64 0] 31))).size ∧ w.heap.size + 1 ≠ (World.heap (World.alloc w1k (.cells #[.int .i64 0, .int .i64 0] 31))).size := ⟨Nat.ne_of_lt (Late.blk (Late.alloc B1.out (.cells #[.int .i64 0, .int .i64 0] 31))).lt, Nat.ne_of_lt (Late.blk (Late.alloc T1k.out (.cells #[.int .i64 0, .int .i64 0] 31))).lt⟩
          have hpq : (World.heap (World.alloc w1k (.cells #[.int .i64 0, .int .i64 0] 31))).size ≠ (World.heap w1k).size := Ne.symm (Nat.ne_of_lt (Late.blk (Late.made (W := w1k) B1.out.bel (.int .i64 0) (.int .i64 0) 31)).lt)
          refine hK.out _ _ ?hs4w1w5a (fun hHeld => ?_)
          case hs4w1w5a => (try dsimp only); exact ⟨⟨(Late.blk (Late.alloc (Late.alloc B1.out (.cells #[.int .i64 0, .int .i64 0] 31)) (.cells #[.int .i64 0, .int .i64 0] 31))).two.1, (Late.blk (Late.alloc (Late.alloc T1k.out (.cells #[.int .i64 0, .int .i64 0] 31)) (.cells #[.int .i64 0, .int .i64 0] 31))).two.1⟩, (Late.bel (Late.alloc (Late.alloc B1.out (.cells #[.int .i64 0, .int .i64 0] 31)) (.cells #[.int .i64 0, .int .i64 0] 31))).size⟩
          clear hK K
          try simp only [Act.put, List.setIfInBounds_toArray, List.set_cons_zero, List.set_cons_succ, List.getElem_toArray, List.getElem_cons_succ, List.getElem_cons_zero]
          refine wpAnyH_ready (rs := [3]) (by kernel_rfl) (by simp) ?_
          refine AllReadyH.cons rfl (fun K hK => ?_) AllReadyH.nil
          go_simp
          refine (T2.out ((World.alloc (World.alloc w1k (.cells #[.int .i64 0, .int .i64 0] 31)) (.cells #[.int .i64 0, .int .i64 0] 31)))).mono ?_
          rintro e w16k ⟨rfl, hy⟩
          have B16 := Lib.hid (Late.call (Late.alloc (Late.alloc B1.out (.cells #[.int .i64 0, .int .i64 0] 31)) (.cells #[.int .i64 0, .int .i64 0] 31)) hy)
          have T16k := Lib.hid (Late.call (Late.alloc (Late.alloc T1k.out (.cells #[.int .i64 0, .int .i64 0] 31)) (.cells #[.int .i64 0, .int .i64 0] 31)) hy)
          have P16 := Lib.hid (Late.call (Late.made (W := (World.alloc w1k (.cells #[.int .i64 0, .int .i64 0] 31))) (Late.alloc B1.out (.cells #[.int .i64 0, .int .i64 0] 31)).bel (.int .i64 0) (.int .i64 0) 31) hy)
          have Q16 := Lib.hid (Late.call (Late.alloc (Late.made (W := w1k) B1.out.bel (.int .i64 0) (.int .i64 0) 31) (.cells #[.int .i64 0, .int .i64 0] 31)) hy)
          clear hy
          go_wp2_with fail
          refine hK.out _ _ ?hs3w1w5w4a (fun hHeld => ?_)
          case hs3w1w5w4a => (try dsimp only); exact ⟨⟨(Late.blk B16.out).two.1, (Late.blk T16k.out).two.1⟩, (Late.bel B16.out).size⟩
          clear hK K
          try simp only [Act.put, List.setIfInBounds_toArray, List.set_cons_zero, List.set_cons_succ, List.getElem_toArray, List.getElem_cons_succ, List.getElem_cons_zero]
          refine wpAnyH_ready (rs := [6]) (by kernel_rfl) (by simp) ?_
          refine AllReadyH.cons rfl (fun K hK => ?_) AllReadyH.nil
          have LP := P16.out
          have LQ := Q16.out
          have LB := B16.out
          have LT := T16k.out
          try simp only [World.size_alloc] at LP
          try simp only [World.size_alloc] at LQ
          try simp only [World.size_alloc] at hpq
          try simp only [World.size_alloc] at hnb15
          try simp only [World.size_alloc] at hnb12
          have GP := Lib.hid LP
          have GQ := Lib.hid LQ
          have GB := Lib.hid LB
          have GT := Lib.hid LT
          obtain ⟨⟨p0, p1⟩, p2, p3⟩ := LP.blk.two
          have NB := Lib.hid hnb15
          have NQ := Lib.hid hnb12
          have NP := Lib.hid hpq
          clear LP LQ LB LT hpq hnb15 hnb12
          go_simp
          refine hK.out _ _ ?hs6w1w5w4a (fun hHeld => ?_)
          case hs6w1w5w4a => (try dsimp only); exact ⟨⟨GB.out.blk.keep2 NB.out.1 _ _, GT.out.blk.keep2 NB.out.2 _ _⟩, (GP.out.put _ _).bel.size⟩
          clear hK K
          try simp only [Act.put, List.setIfInBounds_toArray, List.set_cons_zero, List.set_cons_succ, List.getElem_toArray, List.getElem_cons_succ, List.getElem_cons_zero]
          refine wpAnyH_ready (rs := [7]) (by kernel_rfl) (by simp) ?_
          refine AllReadyH.cons rfl (fun K hK => ?_) AllReadyH.nil
          have HP := Lib.hid (GP.out.put (.int .i64 s1) (.int .i64 s2))
          have HQQ := Lib.hid (GQ.out.keep GP.out (Ne.symm NP.out) (.int .i64 s1) (.int .i64 s2))
          have HB := Lib.hid (GB.out.keep GP.out NB.out.1 (.int .i64 s1) (.int .i64 s2))
          have HT := Lib.hid (GT.out.keep GP.out NB.out.2 (.int .i64 s1) (.int .i64 s2))
          clear p0 p1 p2 p3 GP GQ GB GT
          obtain ⟨W10, hW10⟩ : ∃ W10, World.setCell (World.setCell w16k ⟨(World.heap w1k).size + 1, 0, none⟩ (.int .i64 s1)) ⟨(World.heap w1k).size + 1, 1, none⟩ (.int .i64 s2) = W10 := ⟨_, rfl⟩
          rw [hW10] at HP HQQ HB HT hHeld ⊢
          clear hW10
          obtain ⟨⟨q0, q1⟩, q2, q3⟩ := HQQ.out.blk.two
          go_simp
          refine hK.out _ _ ?hs7w1w5w4a (fun hHeld => ?_)
          case hs7w1w5w4a => (try dsimp only); exact ⟨⟨HB.out.blk.keep2 NQ.out.1 _ _, HT.out.blk.keep2 NQ.out.2 _ _⟩, (HQQ.out.put _ _).bel.size⟩
          clear hK K
          try simp only [Act.put, List.setIfInBounds_toArray, List.set_cons_zero, List.set_cons_succ, List.getElem_toArray, List.getElem_cons_succ, List.getElem_cons_zero]
          refine wpAnyH_done (by kernel_rfl) ?_ _
          go_wp2_with fail
          go_meet
          exact ⟨_, _, rfl, rfl, HB.out.keep HQQ.out NQ.out.1 _ _, HT.out.keep HQQ.out NQ.out.2 _ _, HP.out.keep HQQ.out NP.out _ _, HQQ.out.put _ _⟩
    · go_simp
      have hnb17 : w.heap.size ≠ (World.heap W1).size ∧ w.heap.size + 1 ≠ (World.heap W1).size := ⟨Nat.ne_of_lt (Late.blk KB.out).lt, Nat.ne_of_lt (Late.blk KT.out).lt⟩
      refine hK.out _ _ ?hs4a (fun hHeld => ?_)
      case hs4a => (try dsimp only); exact ⟨⟨(Late.blk (Late.drew (W := (World.alloc W1 (.cells #[.int .i64 0, .int .i64 0] 31))) (Late.alloc KB.out (.cells #[.int .i64 0, .int .i64 0] 31)))).two.1, (Late.blk (Late.drew (W := (World.alloc W1 (.cells #[.int .i64 0, .int .i64 0] 31))) (Late.alloc KT.out (.cells #[.int .i64 0, .int .i64 0] 31)))).two.1⟩, (Late.bel (Late.drew (W := (World.alloc W1 (.cells #[.int .i64 0, .int .i64 0] 31))) (Late.alloc KB.out (.cells #[.int .i64 0, .int .i64 0] 31)))).size⟩
      clear hK K
      try simp only [Act.put, List.setIfInBounds_toArray, List.set_cons_zero, List.set_cons_succ, List.getElem_toArray, List.getElem_cons_succ, List.getElem_cons_zero]
      refine wpAnyH_ready (rs := [1, 5]) (by kernel_rfl) (by simp) ?_
      refine AllReadyH.cons rfl (fun K hK => ?_) (AllReadyH.cons rfl (fun K hK => ?_) (AllReadyH.nil))
      · go_simp
        refine (T1.out ((World.drew (World.alloc W1 (.cells #[.int .i64 0, .int .i64 0] 31))))).mono ?_
        rintro e w18k ⟨rfl, hy⟩
        have B18 := Lib.hid (Late.call (Late.drew (W := (World.alloc W1 (.cells #[.int .i64 0, .int .i64 0] 31))) (Late.alloc KB.out (.cells #[.int .i64 0, .int .i64 0] 31))) hy)
        have T18k := Lib.hid (Late.call (Late.drew (W := (World.alloc W1 (.cells #[.int .i64 0, .int .i64 0] 31))) (Late.alloc KT.out (.cells #[.int .i64 0, .int .i64 0] 31))) hy)
        have P18 := Lib.hid (Late.call (Late.drew (W := (World.alloc W1 (.cells #[.int .i64 0, .int .i64 0] 31))) (Late.made (W := W1) KB.out.bel (.int .i64 0) (.int .i64 0) 31)) hy)
        clear hy
        go_wp2_with fail
        refine hK.out _ _ ?hs1w4a (fun hHeld => ?_)
        case hs1w4a => (try dsimp only); exact ⟨⟨(Late.blk B18.out).two.1, (Late.blk T18k.out).two.1⟩, (Late.bel B18.out).size⟩
        clear hK K
        try simp only [Act.put, List.setIfInBounds_toArray, List.set_cons_zero, List.set_cons_succ, List.getElem_toArray, List.getElem_cons_succ, List.getElem_cons_zero]
        refine wpAnyH_ready (rs := [3, 5]) (by kernel_rfl) (by simp) ?_
        refine AllReadyH.cons rfl (fun K hK => ?_) (AllReadyH.cons rfl (fun K hK => ?_) (AllReadyH.nil))
        · go_simp
          refine (T2.out (w18k)).mono ?_
          rintro e w19k ⟨rfl, hy⟩
          have B19 := Lib.hid (Late.call B18.out hy)
          have T19k := Lib.hid (Late.call T18k.out hy)
          have P19 := Lib.hid (Late.call P18.out hy)
          clear hy
          go_wp2_with fail
          refine hK.out _ _ ?hs3w4w1a (fun hHeld => ?_)
          case hs3w4w1a => (try dsimp only); exact ⟨⟨(Late.blk B19.out).two.1, (Late.blk T19k.out).two.1⟩, (Late.bel B19.out).size⟩
          clear hK K
          try simp only [Act.put, List.setIfInBounds_toArray, List.set_cons_zero, List.set_cons_succ, List.getElem_toArray, List.getElem_cons_succ, List.getElem_cons_zero]
          refine wpAnyH_ready (rs := [5]) (by kernel_rfl) (by simp) ?_
          refine AllReadyH.cons rfl (fun K hK => ?_) AllReadyH.nil
          go_simp
          have hnb20 : w.heap.size ≠ (World.heap w19k).size ∧ w.heap.size + 1 ≠ (World.heap w19k).size := ⟨Nat.ne_of_lt (Late.blk B19.out).lt, Nat.ne_of_lt (Late.blk T19k.out).lt⟩
          have hpq : (World.heap W1).size ≠ (World.heap w19k).size := Nat.ne_of_lt (Late.blk P19.out).lt
          refine hK.out _ _ ?hs5w4w1w3a (fun hHeld => ?_)
          case hs5w4w1w3a => (try dsimp only); exact ⟨⟨(Late.blk (Late.alloc B19.out (.cells #[.int .i64 0, .int .i64 0] 31))).two.1, (Late.blk (Late.alloc T19k.out (.cells #[.int .i64 0, .int .i64 0] 31))).two.1⟩, (Late.bel (Late.alloc B19.out (.cells #[.int .i64 0, .int .i64 0] 31))).size⟩
          clear hK K
          try simp only [Act.put, List.setIfInBounds_toArray, List.set_cons_zero, List.set_cons_succ, List.getElem_toArray, List.getElem_cons_succ, List.getElem_cons_zero]
          refine wpAnyH_ready (rs := [6]) (by kernel_rfl) (by simp) ?_
          refine AllReadyH.cons rfl (fun K hK => ?_) AllReadyH.nil
          have LP := (Late.alloc P19.out (.cells #[.int .i64 0, .int .i64 0] 31))
          have LQ := (Late.made (W := w19k) B19.out.bel (.int .i64 0) (.int .i64 0) 31)
          have LB := (Late.alloc B19.out (.cells #[.int .i64 0, .int .i64 0] 31))
          have LT := (Late.alloc T19k.out (.cells #[.int .i64 0, .int .i64 0] 31))
          try simp only [World.size_alloc] at LP
          try simp only [World.size_alloc] at LQ
          try simp only [World.size_alloc] at hpq
          try simp only [World.size_alloc] at hnb17
          try simp only [World.size_alloc] at hnb20
          generalize (World.alloc w19k (.cells #[.int .i64 0, .int .i64 0] 31)) = W9 at LP LQ LB LT hHeld ⊢
          have GP := Lib.hid LP
          have GQ := Lib.hid LQ
          have GB := Lib.hid LB
          have GT := Lib.hid LT
          obtain ⟨⟨p0, p1⟩, p2, p3⟩ := LP.blk.two
          have NB := Lib.hid hnb17
          have NQ := Lib.hid hnb20
          have NP := Lib.hid hpq
          clear LP LQ LB LT hpq hnb17 hnb20
          go_simp
          refine hK.out _ _ ?hs6w4w1w3a (fun hHeld => ?_)
          case hs6w4w1w3a => (try dsimp only); exact ⟨⟨GB.out.blk.keep2 NB.out.1 _ _, GT.out.blk.keep2 NB.out.2 _ _⟩, (GP.out.put _ _).bel.size⟩
          clear hK K
          try simp only [Act.put, List.setIfInBounds_toArray, List.set_cons_zero, List.set_cons_succ, List.getElem_toArray, List.getElem_cons_succ, List.getElem_cons_zero]
          refine wpAnyH_ready (rs := [7]) (by kernel_rfl) (by simp) ?_
          refine AllReadyH.cons rfl (fun K hK => ?_) AllReadyH.nil
          have HP := Lib.hid (GP.out.put (.int .i64 s1) (.int .i64 s2))
          have HQQ := Lib.hid (GQ.out.keep GP.out (Ne.symm NP.out) (.int .i64 s1) (.int .i64 s2))
          have HB := Lib.hid (GB.out.keep GP.out NB.out.1 (.int .i64 s1) (.int .i64 s2))
          have HT := Lib.hid (GT.out.keep GP.out NB.out.2 (.int .i64 s1) (.int .i64 s2))
          clear p0 p1 p2 p3 GP GQ GB GT
          obtain ⟨W10, hW10⟩ : ∃ W10, World.setCell (World.setCell W9 ⟨(World.heap W1).size, 0, none⟩ (.int .i64 s1)) ⟨(World.heap W1).size, 1, none⟩ (.int .i64 s2) = W10 := ⟨_, rfl⟩
          rw [hW10] at HP HQQ HB HT hHeld ⊢
          clear hW10
          obtain ⟨⟨q0, q1⟩, q2, q3⟩ := HQQ.out.blk.two
          go_simp
          refine hK.out _ _ ?hs7w4w1w3a (fun hHeld => ?_)
          case hs7w4w1w3a => (try dsimp only); exact ⟨⟨HB.out.blk.keep2 NQ.out.1 _ _, HT.out.blk.keep2 NQ.out.2 _ _⟩, (HQQ.out.put _ _).bel.size⟩
          clear hK K
          try simp only [Act.put, List.setIfInBounds_toArray, List.set_cons_zero, List.set_cons_succ, List.getElem_toArray, List.getElem_cons_succ, List.getElem_cons_zero]
          refine wpAnyH_done (by kernel_rfl) ?_ _
          go_wp2_with fail
          go_meet
          exact ⟨_, _, rfl, rfl, HB.out.keep HQQ.out NQ.out.1 _ _, HT.out.keep HQQ.out NQ.out.2 _ _, HP.out.keep HQQ.out NP.out _ _, HQQ.out.put _ _⟩
        · go_simp
          have hnb21 : w.heap.size ≠ (World.heap w18k).size ∧ w.heap.size + 1 ≠ (World.heap w18k).size := ⟨Nat.ne_of_lt (Late.blk B18.out).lt, Nat.ne_of_lt (Late.blk T18k.out).lt⟩
          have hpq : (World.heap W1).size ≠ (World.heap w18k).size := Nat.ne_of_lt (Late.blk P18.out).lt
          refine hK.out _ _ ?hs5w4w1a (fun hHeld => ?_)
          case hs5w4w1a => (try dsimp only); exact ⟨⟨(Late.blk (Late.alloc B18.out (.cells #[.int .i64 0, .int .i64 0] 31))).two.1, (Late.blk (Late.alloc T18k.out (.cells #[.int .i64 0, .int .i64 0] 31))).two.1⟩, (Late.bel (Late.alloc B18.out (.cells #[.int .i64 0, .int .i64 0] 31))).size⟩
          clear hK K
          try simp only [Act.put, List.setIfInBounds_toArray, List.set_cons_zero, List.set_cons_succ, List.getElem_toArray, List.getElem_cons_succ, List.getElem_cons_zero]
          refine wpAnyH_ready (rs := [3]) (by kernel_rfl) (by simp) ?_
          refine AllReadyH.cons rfl (fun K hK => ?_) AllReadyH.nil
          go_simp
          refine (T2.out ((World.alloc w18k (.cells #[.int .i64 0, .int .i64 0] 31)))).mono ?_
          rintro e w22k ⟨rfl, hy⟩
          have B22 := Lib.hid (Late.call (Late.alloc B18.out (.cells #[.int .i64 0, .int .i64 0] 31)) hy)
          have T22k := Lib.hid (Late.call (Late.alloc T18k.out (.cells #[.int .i64 0, .int .i64 0] 31)) hy)
          have P22 := Lib.hid (Late.call (Late.alloc P18.out (.cells #[.int .i64 0, .int .i64 0] 31)) hy)
          have Q22 := Lib.hid (Late.call (Late.made (W := w18k) B18.out.bel (.int .i64 0) (.int .i64 0) 31) hy)
          clear hy
          go_wp2_with fail
          refine hK.out _ _ ?hs3w4w1w5a (fun hHeld => ?_)
          case hs3w4w1w5a => (try dsimp only); exact ⟨⟨(Late.blk B22.out).two.1, (Late.blk T22k.out).two.1⟩, (Late.bel B22.out).size⟩
          clear hK K
          try simp only [Act.put, List.setIfInBounds_toArray, List.set_cons_zero, List.set_cons_succ, List.getElem_toArray, List.getElem_cons_succ, List.getElem_cons_zero]
          refine wpAnyH_ready (rs := [6]) (by kernel_rfl) (by simp) ?_
          refine AllReadyH.cons rfl (fun K hK => ?_) AllReadyH.nil
          have LP := P22.out
          have LQ := Q22.out
          have LB := B22.out
          have LT := T22k.out
          try simp only [World.size_alloc] at LP
          try simp only [World.size_alloc] at LQ
          try simp only [World.size_alloc] at hpq
          try simp only [World.size_alloc] at hnb17
          try simp only [World.size_alloc] at hnb21
          have GP := Lib.hid LP
          have GQ := Lib.hid LQ
          have GB := Lib.hid LB
          have GT := Lib.hid LT
          obtain ⟨⟨p0, p1⟩, p2, p3⟩ := LP.blk.two
          have NB := Lib.hid hnb17
          have NQ := Lib.hid hnb21
          have NP := Lib.hid hpq
          clear LP LQ LB LT hpq hnb17 hnb21
          go_simp
          refine hK.out _ _ ?hs6w4w1w5a (fun hHeld => ?_)
          case hs6w4w1w5a => (try dsimp only); exact ⟨⟨GB.out.blk.keep2 NB.out.1 _ _, GT.out.blk.keep2 NB.out.2 _ _⟩, (GP.out.put _ _).bel.size⟩
          clear hK K
          try simp only [Act.put, List.setIfInBounds_toArray, List.set_cons_zero, List.set_cons_succ, List.getElem_toArray, List.getElem_cons_succ, List.getElem_cons_zero]
          refine wpAnyH_ready (rs := [7]) (by kernel_rfl) (by simp) ?_
          refine AllReadyH.cons rfl (fun K hK => ?_) AllReadyH.nil
          have HP := Lib.hid (GP.out.put (.int .i64 s1) (.int .i64 s2))
          have HQQ := Lib.hid (GQ.out.keep GP.out (Ne.symm NP.out) (.int .i64 s1) (.int .i64 s2))
          have HB := Lib.hid (GB.out.keep GP.out NB.out.1 (.int .i64 s1) (.int .i64 s2))
          have HT := Lib.hid (GT.out.keep GP.out NB.out.2 (.int .i64 s1) (.int .i64 s2))
          clear p0 p1 p2 p3 GP GQ GB GT
          obtain ⟨W10, hW10⟩ : ∃ W10, World.setCell (World.setCell w22k ⟨(World.heap W1).size, 0, none⟩ (.int .i64 s1)) ⟨(World.heap W1).size, 1, none⟩ (.int .i64 s2) = W10 := ⟨_, rfl⟩
          rw [hW10] at HP HQQ HB HT hHeld ⊢
          clear hW10
          obtain ⟨⟨q0, q1⟩, q2, q3⟩ := HQQ.out.blk.two
          go_simp
          refine hK.out _ _ ?hs7w4w1w5a (fun hHeld => ?_)
          case hs7w4w1w5a => (try dsimp only); exact ⟨⟨HB.out.blk.keep2 NQ.out.1 _ _, HT.out.blk.keep2 NQ.out.2 _ _⟩, (HQQ.out.put _ _).bel.size⟩
          clear hK K
          try simp only [Act.put, List.setIfInBounds_toArray, List.set_cons_zero, List.set_cons_succ, List.getElem_toArray, List.getElem_cons_succ, List.getElem_cons_zero]
          refine wpAnyH_done (by kernel_rfl) ?_ _
          go_wp2_with fail
          go_meet
          exact ⟨_, _, rfl, rfl, HB.out.keep HQQ.out NQ.out.1 _ _, HT.out.keep HQQ.out NQ.out.2 _ _, HP.out.keep HQQ.out NP.out _ _, HQQ.out.put _ _⟩
      · go_simp
        have hnb23 : w.heap.size ≠ (World.heap (World.alloc W1 (.cells #[.int .i64 0, .int .i64 0] 31))).size ∧ w.heap.size + 1 ≠ (World.heap (World.alloc W1 (.cells #[.int .i64 0, .int .i64 0] 31))).size := ⟨Nat.ne_of_lt (Late.blk (Late.alloc KB.out (.cells #[.int .i64 0, .int .i64 0] 31))).lt, Nat.ne_of_lt (Late.blk (Late.alloc KT.out (.cells #[.int .i64 0, .int .i64 0] 31))).lt⟩
        have hpq : (World.heap W1).size ≠ (World.heap (World.alloc W1 (.cells #[.int .i64 0, .int .i64 0] 31))).size := Nat.ne_of_lt (Late.blk (Late.made (W := W1) KB.out.bel (.int .i64 0) (.int .i64 0) 31)).lt
        refine hK.out _ _ ?hs5w4a (fun hHeld => ?_)
        case hs5w4a => (try dsimp only); exact ⟨⟨(Late.blk (Late.drew (W := (World.alloc (World.alloc W1 (.cells #[.int .i64 0, .int .i64 0] 31)) (.cells #[.int .i64 0, .int .i64 0] 31))) (Late.alloc (Late.alloc KB.out (.cells #[.int .i64 0, .int .i64 0] 31)) (.cells #[.int .i64 0, .int .i64 0] 31)))).two.1, (Late.blk (Late.drew (W := (World.alloc (World.alloc W1 (.cells #[.int .i64 0, .int .i64 0] 31)) (.cells #[.int .i64 0, .int .i64 0] 31))) (Late.alloc (Late.alloc KT.out (.cells #[.int .i64 0, .int .i64 0] 31)) (.cells #[.int .i64 0, .int .i64 0] 31)))).two.1⟩, (Late.bel (Late.drew (W := (World.alloc (World.alloc W1 (.cells #[.int .i64 0, .int .i64 0] 31)) (.cells #[.int .i64 0, .int .i64 0] 31))) (Late.alloc (Late.alloc KB.out (.cells #[.int .i64 0, .int .i64 0] 31)) (.cells #[.int .i64 0, .int .i64 0] 31)))).size⟩
        clear hK K
        try simp only [Act.put, List.setIfInBounds_toArray, List.set_cons_zero, List.set_cons_succ, List.getElem_toArray, List.getElem_cons_succ, List.getElem_cons_zero]
        refine wpAnyH_ready (rs := [1]) (by kernel_rfl) (by simp) ?_
        refine AllReadyH.cons rfl (fun K hK => ?_) AllReadyH.nil
        go_simp
        refine (T1.out ((World.drew (World.alloc (World.alloc W1 (.cells #[.int .i64 0, .int .i64 0] 31)) (.cells #[.int .i64 0, .int .i64 0] 31))))).mono ?_
        rintro e w24k ⟨rfl, hy⟩
        have B24 := Lib.hid (Late.call (Late.drew (W := (World.alloc (World.alloc W1 (.cells #[.int .i64 0, .int .i64 0] 31)) (.cells #[.int .i64 0, .int .i64 0] 31))) (Late.alloc (Late.alloc KB.out (.cells #[.int .i64 0, .int .i64 0] 31)) (.cells #[.int .i64 0, .int .i64 0] 31))) hy)
        have T24k := Lib.hid (Late.call (Late.drew (W := (World.alloc (World.alloc W1 (.cells #[.int .i64 0, .int .i64 0] 31)) (.cells #[.int .i64 0, .int .i64 0] 31))) (Late.alloc (Late.alloc KT.out (.cells #[.int .i64 0, .int .i64 0] 31)) (.cells #[.int .i64 0, .int .i64 0] 31))) hy)
        have P24 := Lib.hid (Late.call (Late.drew (W := (World.alloc (World.alloc W1 (.cells #[.int .i64 0, .int .i64 0] 31)) (.cells #[.int .i64 0, .int .i64 0] 31))) (Late.alloc (Late.made (W := W1) KB.out.bel (.int .i64 0) (.int .i64 0) 31) (.cells #[.int .i64 0, .int .i64 0] 31))) hy)
        have Q24 := Lib.hid (Late.call (Late.drew (W := (World.alloc (World.alloc W1 (.cells #[.int .i64 0, .int .i64 0] 31)) (.cells #[.int .i64 0, .int .i64 0] 31))) (Late.made (W := (World.alloc W1 (.cells #[.int .i64 0, .int .i64 0] 31))) (Late.alloc KB.out (.cells #[.int .i64 0, .int .i64 0] 31)).bel (.int .i64 0) (.int .i64 0) 31)) hy)
        clear hy
        go_wp2_with fail
        refine hK.out _ _ ?hs1w4w5a (fun hHeld => ?_)
        case hs1w4w5a => (try dsimp only); exact ⟨⟨(Late.blk B24.out).two.1, (Late.blk T24k.out).two.1⟩, (Late.bel B24.out).size⟩
        clear hK K
        try simp only [Act.put, List.setIfInBounds_toArray, List.set_cons_zero, List.set_cons_succ, List.getElem_toArray, List.getElem_cons_succ, List.getElem_cons_zero]
        refine wpAnyH_ready (rs := [3]) (by kernel_rfl) (by simp) ?_
        refine AllReadyH.cons rfl (fun K hK => ?_) AllReadyH.nil
        go_simp
        refine (T2.out (w24k)).mono ?_
        rintro e w25k ⟨rfl, hy⟩
        have B25 := Lib.hid (Late.call B24.out hy)
        have T25k := Lib.hid (Late.call T24k.out hy)
        have P25 := Lib.hid (Late.call P24.out hy)
        have Q25 := Lib.hid (Late.call Q24.out hy)
        clear hy
        go_wp2_with fail
        refine hK.out _ _ ?hs3w4w5a (fun hHeld => ?_)
        case hs3w4w5a => (try dsimp only); exact ⟨⟨(Late.blk B25.out).two.1, (Late.blk T25k.out).two.1⟩, (Late.bel B25.out).size⟩
        clear hK K
        try simp only [Act.put, List.setIfInBounds_toArray, List.set_cons_zero, List.set_cons_succ, List.getElem_toArray, List.getElem_cons_succ, List.getElem_cons_zero]
        refine wpAnyH_ready (rs := [6]) (by kernel_rfl) (by simp) ?_
        refine AllReadyH.cons rfl (fun K hK => ?_) AllReadyH.nil
        have LP := P25.out
        have LQ := Q25.out
        have LB := B25.out
        have LT := T25k.out
        try simp only [World.size_alloc] at LP
        try simp only [World.size_alloc] at LQ
        try simp only [World.size_alloc] at hpq
        try simp only [World.size_alloc] at hnb17
        try simp only [World.size_alloc] at hnb23
        have GP := Lib.hid LP
        have GQ := Lib.hid LQ
        have GB := Lib.hid LB
        have GT := Lib.hid LT
        obtain ⟨⟨p0, p1⟩, p2, p3⟩ := LP.blk.two
        have NB := Lib.hid hnb17
        have NQ := Lib.hid hnb23
        have NP := Lib.hid hpq
        clear LP LQ LB LT hpq hnb17 hnb23
        go_simp
        refine hK.out _ _ ?hs6w4w5a (fun hHeld => ?_)
        case hs6w4w5a => (try dsimp only); exact ⟨⟨GB.out.blk.keep2 NB.out.1 _ _, GT.out.blk.keep2 NB.out.2 _ _⟩, (GP.out.put _ _).bel.size⟩
        clear hK K
        try simp only [Act.put, List.setIfInBounds_toArray, List.set_cons_zero, List.set_cons_succ, List.getElem_toArray, List.getElem_cons_succ, List.getElem_cons_zero]
        refine wpAnyH_ready (rs := [7]) (by kernel_rfl) (by simp) ?_
        refine AllReadyH.cons rfl (fun K hK => ?_) AllReadyH.nil
        have HP := Lib.hid (GP.out.put (.int .i64 s1) (.int .i64 s2))
        have HQQ := Lib.hid (GQ.out.keep GP.out (Ne.symm NP.out) (.int .i64 s1) (.int .i64 s2))
        have HB := Lib.hid (GB.out.keep GP.out NB.out.1 (.int .i64 s1) (.int .i64 s2))
        have HT := Lib.hid (GT.out.keep GP.out NB.out.2 (.int .i64 s1) (.int .i64 s2))
        clear p0 p1 p2 p3 GP GQ GB GT
        obtain ⟨W10, hW10⟩ : ∃ W10, World.setCell (World.setCell w25k ⟨(World.heap W1).size, 0, none⟩ (.int .i64 s1)) ⟨(World.heap W1).size, 1, none⟩ (.int .i64 s2) = W10 := ⟨_, rfl⟩
        rw [hW10] at HP HQQ HB HT hHeld ⊢
        clear hW10
        obtain ⟨⟨q0, q1⟩, q2, q3⟩ := HQQ.out.blk.two
        go_simp
        refine hK.out _ _ ?hs7w4w5a (fun hHeld => ?_)
        case hs7w4w5a => (try dsimp only); exact ⟨⟨HB.out.blk.keep2 NQ.out.1 _ _, HT.out.blk.keep2 NQ.out.2 _ _⟩, (HQQ.out.put _ _).bel.size⟩
        clear hK K
        try simp only [Act.put, List.setIfInBounds_toArray, List.set_cons_zero, List.set_cons_succ, List.getElem_toArray, List.getElem_cons_succ, List.getElem_cons_zero]
        refine wpAnyH_done (by kernel_rfl) ?_ _
        go_wp2_with fail
        go_meet
        exact ⟨_, _, rfl, rfl, HB.out.keep HQQ.out NQ.out.1 _ _, HT.out.keep HQQ.out NQ.out.2 _ _, HP.out.keep HQQ.out NP.out _ _, HQQ.out.put _ _⟩
    · go_simp
      have hnb26 : w.heap.size ≠ (World.heap W1).size ∧ w.heap.size + 1 ≠ (World.heap W1).size := ⟨Nat.ne_of_lt (Late.blk KB.out).lt, Nat.ne_of_lt (Late.blk KT.out).lt⟩
      refine hK.out _ _ ?hs5a (fun hHeld => ?_)
      case hs5a => (try dsimp only); exact ⟨⟨(Late.blk (Late.drew (W := (World.alloc W1 (.cells #[.int .i64 0, .int .i64 0] 31))) (Late.alloc KB.out (.cells #[.int .i64 0, .int .i64 0] 31)))).two.1, (Late.blk (Late.drew (W := (World.alloc W1 (.cells #[.int .i64 0, .int .i64 0] 31))) (Late.alloc KT.out (.cells #[.int .i64 0, .int .i64 0] 31)))).two.1⟩, (Late.bel (Late.drew (W := (World.alloc W1 (.cells #[.int .i64 0, .int .i64 0] 31))) (Late.alloc KB.out (.cells #[.int .i64 0, .int .i64 0] 31)))).size⟩
      clear hK K
      try simp only [Act.put, List.setIfInBounds_toArray, List.set_cons_zero, List.set_cons_succ, List.getElem_toArray, List.getElem_cons_succ, List.getElem_cons_zero]
      refine wpAnyH_ready (rs := [1, 4]) (by kernel_rfl) (by simp) ?_
      refine AllReadyH.cons rfl (fun K hK => ?_) (AllReadyH.cons rfl (fun K hK => ?_) (AllReadyH.nil))
      · go_simp
        refine (T1.out ((World.drew (World.alloc W1 (.cells #[.int .i64 0, .int .i64 0] 31))))).mono ?_
        rintro e w27k ⟨rfl, hy⟩
        have B27 := Lib.hid (Late.call (Late.drew (W := (World.alloc W1 (.cells #[.int .i64 0, .int .i64 0] 31))) (Late.alloc KB.out (.cells #[.int .i64 0, .int .i64 0] 31))) hy)
        have T27k := Lib.hid (Late.call (Late.drew (W := (World.alloc W1 (.cells #[.int .i64 0, .int .i64 0] 31))) (Late.alloc KT.out (.cells #[.int .i64 0, .int .i64 0] 31))) hy)
        have Q27 := Lib.hid (Late.call (Late.drew (W := (World.alloc W1 (.cells #[.int .i64 0, .int .i64 0] 31))) (Late.made (W := W1) KB.out.bel (.int .i64 0) (.int .i64 0) 31)) hy)
        clear hy
        go_wp2_with fail
        refine hK.out _ _ ?hs1w5a (fun hHeld => ?_)
        case hs1w5a => (try dsimp only); exact ⟨⟨(Late.blk B27.out).two.1, (Late.blk T27k.out).two.1⟩, (Late.bel B27.out).size⟩
        clear hK K
        try simp only [Act.put, List.setIfInBounds_toArray, List.set_cons_zero, List.set_cons_succ, List.getElem_toArray, List.getElem_cons_succ, List.getElem_cons_zero]
        refine wpAnyH_ready (rs := [3, 4]) (by kernel_rfl) (by simp) ?_
        refine AllReadyH.cons rfl (fun K hK => ?_) (AllReadyH.cons rfl (fun K hK => ?_) (AllReadyH.nil))
        · go_simp
          refine (T2.out (w27k)).mono ?_
          rintro e w28k ⟨rfl, hy⟩
          have B28 := Lib.hid (Late.call B27.out hy)
          have T28k := Lib.hid (Late.call T27k.out hy)
          have Q28 := Lib.hid (Late.call Q27.out hy)
          clear hy
          go_wp2_with fail
          refine hK.out _ _ ?hs3w5w1a (fun hHeld => ?_)
          case hs3w5w1a => (try dsimp only); exact ⟨⟨(Late.blk B28.out).two.1, (Late.blk T28k.out).two.1⟩, (Late.bel B28.out).size⟩
          clear hK K
          try simp only [Act.put, List.setIfInBounds_toArray, List.set_cons_zero, List.set_cons_succ, List.getElem_toArray, List.getElem_cons_succ, List.getElem_cons_zero]
          refine wpAnyH_ready (rs := [4]) (by kernel_rfl) (by simp) ?_
          refine AllReadyH.cons rfl (fun K hK => ?_) AllReadyH.nil
          go_simp
          have hnb29 : w.heap.size ≠ (World.heap w28k).size ∧ w.heap.size + 1 ≠ (World.heap w28k).size := ⟨Nat.ne_of_lt (Late.blk B28.out).lt, Nat.ne_of_lt (Late.blk T28k.out).lt⟩
          have hpq : (World.heap w28k).size ≠ (World.heap W1).size := Ne.symm (Nat.ne_of_lt (Late.blk Q28.out).lt)
          refine hK.out _ _ ?hs4w5w1w3a (fun hHeld => ?_)
          case hs4w5w1w3a => (try dsimp only); exact ⟨⟨(Late.blk (Late.alloc B28.out (.cells #[.int .i64 0, .int .i64 0] 31))).two.1, (Late.blk (Late.alloc T28k.out (.cells #[.int .i64 0, .int .i64 0] 31))).two.1⟩, (Late.bel (Late.alloc B28.out (.cells #[.int .i64 0, .int .i64 0] 31))).size⟩
          clear hK K
          try simp only [Act.put, List.setIfInBounds_toArray, List.set_cons_zero, List.set_cons_succ, List.getElem_toArray, List.getElem_cons_succ, List.getElem_cons_zero]
          refine wpAnyH_ready (rs := [6]) (by kernel_rfl) (by simp) ?_
          refine AllReadyH.cons rfl (fun K hK => ?_) AllReadyH.nil
          have LP := (Late.made (W := w28k) B28.out.bel (.int .i64 0) (.int .i64 0) 31)
          have LQ := (Late.alloc Q28.out (.cells #[.int .i64 0, .int .i64 0] 31))
          have LB := (Late.alloc B28.out (.cells #[.int .i64 0, .int .i64 0] 31))
          have LT := (Late.alloc T28k.out (.cells #[.int .i64 0, .int .i64 0] 31))
          try simp only [World.size_alloc] at LP
          try simp only [World.size_alloc] at LQ
          try simp only [World.size_alloc] at hpq
          try simp only [World.size_alloc] at hnb29
          try simp only [World.size_alloc] at hnb26
          generalize (World.alloc w28k (.cells #[.int .i64 0, .int .i64 0] 31)) = W9 at LP LQ LB LT hHeld ⊢
          have GP := Lib.hid LP
          have GQ := Lib.hid LQ
          have GB := Lib.hid LB
          have GT := Lib.hid LT
          obtain ⟨⟨p0, p1⟩, p2, p3⟩ := LP.blk.two
          have NB := Lib.hid hnb29
          have NQ := Lib.hid hnb26
          have NP := Lib.hid hpq
          clear LP LQ LB LT hpq hnb29 hnb26
          go_simp
          refine hK.out _ _ ?hs6w5w1w3a (fun hHeld => ?_)
          case hs6w5w1w3a => (try dsimp only); exact ⟨⟨GB.out.blk.keep2 NB.out.1 _ _, GT.out.blk.keep2 NB.out.2 _ _⟩, (GP.out.put _ _).bel.size⟩
          clear hK K
          try simp only [Act.put, List.setIfInBounds_toArray, List.set_cons_zero, List.set_cons_succ, List.getElem_toArray, List.getElem_cons_succ, List.getElem_cons_zero]
          refine wpAnyH_ready (rs := [7]) (by kernel_rfl) (by simp) ?_
          refine AllReadyH.cons rfl (fun K hK => ?_) AllReadyH.nil
          have HP := Lib.hid (GP.out.put (.int .i64 s1) (.int .i64 s2))
          have HQQ := Lib.hid (GQ.out.keep GP.out (Ne.symm NP.out) (.int .i64 s1) (.int .i64 s2))
          have HB := Lib.hid (GB.out.keep GP.out NB.out.1 (.int .i64 s1) (.int .i64 s2))
          have HT := Lib.hid (GT.out.keep GP.out NB.out.2 (.int .i64 s1) (.int .i64 s2))
          clear p0 p1 p2 p3 GP GQ GB GT
          obtain ⟨W10, hW10⟩ : ∃ W10, World.setCell (World.setCell W9 ⟨(World.heap w28k).size, 0, none⟩ (.int .i64 s1)) ⟨(World.heap w28k).size, 1, none⟩ (.int .i64 s2) = W10 := ⟨_, rfl⟩
          rw [hW10] at HP HQQ HB HT hHeld ⊢
          clear hW10
          obtain ⟨⟨q0, q1⟩, q2, q3⟩ := HQQ.out.blk.two
          go_simp
          refine hK.out _ _ ?hs7w5w1w3a (fun hHeld => ?_)
          case hs7w5w1w3a => (try dsimp only); exact ⟨⟨HB.out.blk.keep2 NQ.out.1 _ _, HT.out.blk.keep2 NQ.out.2 _ _⟩, (HQQ.out.put _ _).bel.size⟩
          clear hK K
          try simp only [Act.put, List.setIfInBounds_toArray, List.set_cons_zero, List.set_cons_succ, List.getElem_toArray, List.getElem_cons_succ, List.getElem_cons_zero]
          refine wpAnyH_done (by kernel_rfl) ?_ _
          go_wp2_with fail
          go_meet
          exact ⟨_, _, rfl, rfl, HB.out.keep HQQ.out NQ.out.1 _ _, HT.out.keep HQQ.out NQ.out.2 _ _, HP.out.keep HQQ.out NP.out _ _, HQQ.out.put _ _⟩
        · go_simp
          have hnb30 : w.heap.size ≠ (World.heap w27k).size ∧ w.heap.size + 1 ≠ (World.heap w27k).size := ⟨Nat.ne_of_lt (Late.blk B27.out).lt, Nat.ne_of_lt (Late.blk T27k.out).lt⟩
          have hpq : (World.heap w27k).size ≠ (World.heap W1).size := Ne.symm (Nat.ne_of_lt (Late.blk Q27.out).lt)
          refine hK.out _ _ ?hs4w5w1a (fun hHeld => ?_)
          case hs4w5w1a => (try dsimp only); exact ⟨⟨(Late.blk (Late.alloc B27.out (.cells #[.int .i64 0, .int .i64 0] 31))).two.1, (Late.blk (Late.alloc T27k.out (.cells #[.int .i64 0, .int .i64 0] 31))).two.1⟩, (Late.bel (Late.alloc B27.out (.cells #[.int .i64 0, .int .i64 0] 31))).size⟩
          clear hK K
          try simp only [Act.put, List.setIfInBounds_toArray, List.set_cons_zero, List.set_cons_succ, List.getElem_toArray, List.getElem_cons_succ, List.getElem_cons_zero]
          refine wpAnyH_ready (rs := [3]) (by kernel_rfl) (by simp) ?_
          refine AllReadyH.cons rfl (fun K hK => ?_) AllReadyH.nil
          go_simp
          refine (T2.out ((World.alloc w27k (.cells #[.int .i64 0, .int .i64 0] 31)))).mono ?_
          rintro e w31k ⟨rfl, hy⟩
          have B31 := Lib.hid (Late.call (Late.alloc B27.out (.cells #[.int .i64 0, .int .i64 0] 31)) hy)
          have T31k := Lib.hid (Late.call (Late.alloc T27k.out (.cells #[.int .i64 0, .int .i64 0] 31)) hy)
          have P31 := Lib.hid (Late.call (Late.made (W := w27k) B27.out.bel (.int .i64 0) (.int .i64 0) 31) hy)
          have Q31 := Lib.hid (Late.call (Late.alloc Q27.out (.cells #[.int .i64 0, .int .i64 0] 31)) hy)
          clear hy
          go_wp2_with fail
          refine hK.out _ _ ?hs3w5w1w4a (fun hHeld => ?_)
          case hs3w5w1w4a => (try dsimp only); exact ⟨⟨(Late.blk B31.out).two.1, (Late.blk T31k.out).two.1⟩, (Late.bel B31.out).size⟩
          clear hK K
          try simp only [Act.put, List.setIfInBounds_toArray, List.set_cons_zero, List.set_cons_succ, List.getElem_toArray, List.getElem_cons_succ, List.getElem_cons_zero]
          refine wpAnyH_ready (rs := [6]) (by kernel_rfl) (by simp) ?_
          refine AllReadyH.cons rfl (fun K hK => ?_) AllReadyH.nil
          have LP := P31.out
          have LQ := Q31.out
          have LB := B31.out
          have LT := T31k.out
          try simp only [World.size_alloc] at LP
          try simp only [World.size_alloc] at LQ
          try simp only [World.size_alloc] at hpq
          try simp only [World.size_alloc] at hnb30
          try simp only [World.size_alloc] at hnb26
          have GP := Lib.hid LP
          have GQ := Lib.hid LQ
          have GB := Lib.hid LB
          have GT := Lib.hid LT
          obtain ⟨⟨p0, p1⟩, p2, p3⟩ := LP.blk.two
          have NB := Lib.hid hnb30
          have NQ := Lib.hid hnb26
          have NP := Lib.hid hpq
          clear LP LQ LB LT hpq hnb30 hnb26
          go_simp
          refine hK.out _ _ ?hs6w5w1w4a (fun hHeld => ?_)
          case hs6w5w1w4a => (try dsimp only); exact ⟨⟨GB.out.blk.keep2 NB.out.1 _ _, GT.out.blk.keep2 NB.out.2 _ _⟩, (GP.out.put _ _).bel.size⟩
          clear hK K
          try simp only [Act.put, List.setIfInBounds_toArray, List.set_cons_zero, List.set_cons_succ, List.getElem_toArray, List.getElem_cons_succ, List.getElem_cons_zero]
          refine wpAnyH_ready (rs := [7]) (by kernel_rfl) (by simp) ?_
          refine AllReadyH.cons rfl (fun K hK => ?_) AllReadyH.nil
          have HP := Lib.hid (GP.out.put (.int .i64 s1) (.int .i64 s2))
          have HQQ := Lib.hid (GQ.out.keep GP.out (Ne.symm NP.out) (.int .i64 s1) (.int .i64 s2))
          have HB := Lib.hid (GB.out.keep GP.out NB.out.1 (.int .i64 s1) (.int .i64 s2))
          have HT := Lib.hid (GT.out.keep GP.out NB.out.2 (.int .i64 s1) (.int .i64 s2))
          clear p0 p1 p2 p3 GP GQ GB GT
          obtain ⟨W10, hW10⟩ : ∃ W10, World.setCell (World.setCell w31k ⟨(World.heap w27k).size, 0, none⟩ (.int .i64 s1)) ⟨(World.heap w27k).size, 1, none⟩ (.int .i64 s2) = W10 := ⟨_, rfl⟩
          rw [hW10] at HP HQQ HB HT hHeld ⊢
          clear hW10
          obtain ⟨⟨q0, q1⟩, q2, q3⟩ := HQQ.out.blk.two
          go_simp
          refine hK.out _ _ ?hs7w5w1w4a (fun hHeld => ?_)
          case hs7w5w1w4a => (try dsimp only); exact ⟨⟨HB.out.blk.keep2 NQ.out.1 _ _, HT.out.blk.keep2 NQ.out.2 _ _⟩, (HQQ.out.put _ _).bel.size⟩
          clear hK K
          try simp only [Act.put, List.setIfInBounds_toArray, List.set_cons_zero, List.set_cons_succ, List.getElem_toArray, List.getElem_cons_succ, List.getElem_cons_zero]
          refine wpAnyH_done (by kernel_rfl) ?_ _
          go_wp2_with fail
          go_meet
          exact ⟨_, _, rfl, rfl, HB.out.keep HQQ.out NQ.out.1 _ _, HT.out.keep HQQ.out NQ.out.2 _ _, HP.out.keep HQQ.out NP.out _ _, HQQ.out.put _ _⟩
      · go_simp
        have hnb32 : w.heap.size ≠ (World.heap (World.alloc W1 (.cells #[.int .i64 0, .int .i64 0] 31))).size ∧ w.heap.size + 1 ≠ (World.heap (World.alloc W1 (.cells #[.int .i64 0, .int .i64 0] 31))).size := ⟨Nat.ne_of_lt (Late.blk (Late.alloc KB.out (.cells #[.int .i64 0, .int .i64 0] 31))).lt, Nat.ne_of_lt (Late.blk (Late.alloc KT.out (.cells #[.int .i64 0, .int .i64 0] 31))).lt⟩
        have hpq : (World.heap (World.alloc W1 (.cells #[.int .i64 0, .int .i64 0] 31))).size ≠ (World.heap W1).size := Ne.symm (Nat.ne_of_lt (Late.blk (Late.made (W := W1) KB.out.bel (.int .i64 0) (.int .i64 0) 31)).lt)
        refine hK.out _ _ ?hs4w5a (fun hHeld => ?_)
        case hs4w5a => (try dsimp only); exact ⟨⟨(Late.blk (Late.drew (W := (World.alloc (World.alloc W1 (.cells #[.int .i64 0, .int .i64 0] 31)) (.cells #[.int .i64 0, .int .i64 0] 31))) (Late.alloc (Late.alloc KB.out (.cells #[.int .i64 0, .int .i64 0] 31)) (.cells #[.int .i64 0, .int .i64 0] 31)))).two.1, (Late.blk (Late.drew (W := (World.alloc (World.alloc W1 (.cells #[.int .i64 0, .int .i64 0] 31)) (.cells #[.int .i64 0, .int .i64 0] 31))) (Late.alloc (Late.alloc KT.out (.cells #[.int .i64 0, .int .i64 0] 31)) (.cells #[.int .i64 0, .int .i64 0] 31)))).two.1⟩, (Late.bel (Late.drew (W := (World.alloc (World.alloc W1 (.cells #[.int .i64 0, .int .i64 0] 31)) (.cells #[.int .i64 0, .int .i64 0] 31))) (Late.alloc (Late.alloc KB.out (.cells #[.int .i64 0, .int .i64 0] 31)) (.cells #[.int .i64 0, .int .i64 0] 31)))).size⟩
        clear hK K
        try simp only [Act.put, List.setIfInBounds_toArray, List.set_cons_zero, List.set_cons_succ, List.getElem_toArray, List.getElem_cons_succ, List.getElem_cons_zero]
        refine wpAnyH_ready (rs := [1]) (by kernel_rfl) (by simp) ?_
        refine AllReadyH.cons rfl (fun K hK => ?_) AllReadyH.nil
        go_simp
        refine (T1.out ((World.drew (World.alloc (World.alloc W1 (.cells #[.int .i64 0, .int .i64 0] 31)) (.cells #[.int .i64 0, .int .i64 0] 31))))).mono ?_
        rintro e w33k ⟨rfl, hy⟩
        have B33 := Lib.hid (Late.call (Late.drew (W := (World.alloc (World.alloc W1 (.cells #[.int .i64 0, .int .i64 0] 31)) (.cells #[.int .i64 0, .int .i64 0] 31))) (Late.alloc (Late.alloc KB.out (.cells #[.int .i64 0, .int .i64 0] 31)) (.cells #[.int .i64 0, .int .i64 0] 31))) hy)
        have T33k := Lib.hid (Late.call (Late.drew (W := (World.alloc (World.alloc W1 (.cells #[.int .i64 0, .int .i64 0] 31)) (.cells #[.int .i64 0, .int .i64 0] 31))) (Late.alloc (Late.alloc KT.out (.cells #[.int .i64 0, .int .i64 0] 31)) (.cells #[.int .i64 0, .int .i64 0] 31))) hy)
        have P33 := Lib.hid (Late.call (Late.drew (W := (World.alloc (World.alloc W1 (.cells #[.int .i64 0, .int .i64 0] 31)) (.cells #[.int .i64 0, .int .i64 0] 31))) (Late.made (W := (World.alloc W1 (.cells #[.int .i64 0, .int .i64 0] 31))) (Late.alloc KB.out (.cells #[.int .i64 0, .int .i64 0] 31)).bel (.int .i64 0) (.int .i64 0) 31)) hy)
        have Q33 := Lib.hid (Late.call (Late.drew (W := (World.alloc (World.alloc W1 (.cells #[.int .i64 0, .int .i64 0] 31)) (.cells #[.int .i64 0, .int .i64 0] 31))) (Late.alloc (Late.made (W := W1) KB.out.bel (.int .i64 0) (.int .i64 0) 31) (.cells #[.int .i64 0, .int .i64 0] 31))) hy)
        clear hy
        go_wp2_with fail
        refine hK.out _ _ ?hs1w5w4a (fun hHeld => ?_)
        case hs1w5w4a => (try dsimp only); exact ⟨⟨(Late.blk B33.out).two.1, (Late.blk T33k.out).two.1⟩, (Late.bel B33.out).size⟩
        clear hK K
        try simp only [Act.put, List.setIfInBounds_toArray, List.set_cons_zero, List.set_cons_succ, List.getElem_toArray, List.getElem_cons_succ, List.getElem_cons_zero]
        refine wpAnyH_ready (rs := [3]) (by kernel_rfl) (by simp) ?_
        refine AllReadyH.cons rfl (fun K hK => ?_) AllReadyH.nil
        go_simp
        refine (T2.out (w33k)).mono ?_
        rintro e w34k ⟨rfl, hy⟩
        have B34 := Lib.hid (Late.call B33.out hy)
        have T34k := Lib.hid (Late.call T33k.out hy)
        have P34 := Lib.hid (Late.call P33.out hy)
        have Q34 := Lib.hid (Late.call Q33.out hy)
        clear hy
        go_wp2_with fail
        refine hK.out _ _ ?hs3w5w4a (fun hHeld => ?_)
        case hs3w5w4a => (try dsimp only); exact ⟨⟨(Late.blk B34.out).two.1, (Late.blk T34k.out).two.1⟩, (Late.bel B34.out).size⟩
        clear hK K
        try simp only [Act.put, List.setIfInBounds_toArray, List.set_cons_zero, List.set_cons_succ, List.getElem_toArray, List.getElem_cons_succ, List.getElem_cons_zero]
        refine wpAnyH_ready (rs := [6]) (by kernel_rfl) (by simp) ?_
        refine AllReadyH.cons rfl (fun K hK => ?_) AllReadyH.nil
        have LP := P34.out
        have LQ := Q34.out
        have LB := B34.out
        have LT := T34k.out
        try simp only [World.size_alloc] at LP
        try simp only [World.size_alloc] at LQ
        try simp only [World.size_alloc] at hpq
        try simp only [World.size_alloc] at hnb32
        try simp only [World.size_alloc] at hnb26
        have GP := Lib.hid LP
        have GQ := Lib.hid LQ
        have GB := Lib.hid LB
        have GT := Lib.hid LT
        obtain ⟨⟨p0, p1⟩, p2, p3⟩ := LP.blk.two
        have NB := Lib.hid hnb32
        have NQ := Lib.hid hnb26
        have NP := Lib.hid hpq
        clear LP LQ LB LT hpq hnb32 hnb26
        go_simp
        refine hK.out _ _ ?hs6w5w4a (fun hHeld => ?_)
        case hs6w5w4a => (try dsimp only); exact ⟨⟨GB.out.blk.keep2 NB.out.1 _ _, GT.out.blk.keep2 NB.out.2 _ _⟩, (GP.out.put _ _).bel.size⟩
        clear hK K
        try simp only [Act.put, List.setIfInBounds_toArray, List.set_cons_zero, List.set_cons_succ, List.getElem_toArray, List.getElem_cons_succ, List.getElem_cons_zero]
        refine wpAnyH_ready (rs := [7]) (by kernel_rfl) (by simp) ?_
        refine AllReadyH.cons rfl (fun K hK => ?_) AllReadyH.nil
        have HP := Lib.hid (GP.out.put (.int .i64 s1) (.int .i64 s2))
        have HQQ := Lib.hid (GQ.out.keep GP.out (Ne.symm NP.out) (.int .i64 s1) (.int .i64 s2))
        have HB := Lib.hid (GB.out.keep GP.out NB.out.1 (.int .i64 s1) (.int .i64 s2))
        have HT := Lib.hid (GT.out.keep GP.out NB.out.2 (.int .i64 s1) (.int .i64 s2))
        clear p0 p1 p2 p3 GP GQ GB GT
        obtain ⟨W10, hW10⟩ : ∃ W10, World.setCell (World.setCell w34k ⟨(World.heap W1).size + 1, 0, none⟩ (.int .i64 s1)) ⟨(World.heap W1).size + 1, 1, none⟩ (.int .i64 s2) = W10 := ⟨_, rfl⟩
        rw [hW10] at HP HQQ HB HT hHeld ⊢
        clear hW10
        obtain ⟨⟨q0, q1⟩, q2, q3⟩ := HQQ.out.blk.two
        go_simp
        refine hK.out _ _ ?hs7w5w4a (fun hHeld => ?_)
        case hs7w5w4a => (try dsimp only); exact ⟨⟨HB.out.blk.keep2 NQ.out.1 _ _, HT.out.blk.keep2 NQ.out.2 _ _⟩, (HQQ.out.put _ _).bel.size⟩
        clear hK K
        try simp only [Act.put, List.setIfInBounds_toArray, List.set_cons_zero, List.set_cons_succ, List.getElem_toArray, List.getElem_cons_succ, List.getElem_cons_zero]
        refine wpAnyH_done (by kernel_rfl) ?_ _
        go_wp2_with fail
        go_meet
        exact ⟨_, _, rfl, rfl, HB.out.keep HQQ.out NQ.out.1 _ _, HT.out.keep HQQ.out NQ.out.2 _ _, HP.out.keep HQQ.out NP.out _ _, HQQ.out.put _ _⟩
  case rest =>
    obtain ⟨P, Q, rfl, rfl, k1, k2, k3, k4⟩ := hcut
    have M0 : Hid (Mem w ((wc.alloc (.cells #[.int .i64 1, .int .i64 0] 30)).alloc (.cells #[.int .i64 1, .int .i64 0] 30)) P Q wc.heap.size (wc.heap.size + 1) s1 s2 t1 t2 1 0 1 0) :=
      ⟨(k1.alloc _).alloc _, (k2.alloc _).alloc _, (k3.alloc _).alloc _, (k4.alloc _).alloc _, (Late.made k1.bel _ _ _).alloc _, snd_made k1.bel _ _ _ _, k3.blk.lt, k4.blk.lt, k2.blk.lt, Nat.lt_succ_self _⟩
    clear k1 k2 k3 k4
    obtain ⟨⟨p0, p1⟩, _, _⟩ := M0.out.bs.blk.two
    go_upto_region 3 with (fail)
    obtain ⟨M, hM⟩ : ∃ M, wc.heap.size = M := ⟨_, rfl⟩
    obtain ⟨W2, hW2⟩ : ∃ W2, (wc.alloc (.cells #[.int .i64 1, .int .i64 0] 30)).alloc (.cells #[.int .i64 1, .int .i64 0] 30) = W2 := ⟨_, rfl⟩
    rw [hW2, hM] at M0
    rw [hW2] at p0 p1 ⊢
    rw [hM]
    clear hW2 hM
    go_wp2_with fail
    refine (RE.out _).mono ?_
    rintro e x3 ⟨rfl, hb⟩
    have M1 := Lib.hid (M0.out.call hb)
    clear hb M0 p0 p1
    dsimp only
    go_upto_if 23 with (fail)
    go_cut [11, 22, 23] from 24 (fun v _ _ wd => v = .int .i64 ln ∧ Mem w wd P Q M (M + 1) s1 s2 t1 t2 mv1 mv2 gw1 gw2)
    case first =>
      by_cases g : s2 < s1
      · obtain ⟨rfl, g1, g2⟩ := L1.out g
        cases g1
        cases g2
        have g' : decide (s2 < s1) = true := by simpa using g
        rw [g']
        clear g g'
        go_wp2_with fail
        go_meet
        exact ⟨rfl, M1.out⟩
      · obtain ⟨rfl, g1, g2⟩ := L2.out (by omega)
        cases g1
        cases g2
        have g' : decide (s2 < s1) = false := by simpa using g
        rw [g']
        obtain ⟨⟨p0, p1⟩, _, _⟩ := M1.out.bs.blk.two
        clear g g'
        go_wp2_with fail
        refine (R1.out _).mono ?_
        rintro e x4 ⟨rfl, hb⟩
        have M2 := Lib.hid (M1.out.call hb)
        clear hb p0 p1 M1
        go_wp2_with fail
        refine (R2.out _).mono ?_
        rintro e x5 ⟨rfl, hb⟩
        have M3 := Lib.hid (M2.out.call hb)
        clear hb M2
        go_upto_region 5 with (fail)
        refine wp_region_held_drew (S := fun W => W.cell? ⟨w.heap.size, 0, none⟩ = some (.int .i64 s1) ∧ W.cell? ⟨w.heap.size, 1, none⟩ = some (.int .i64 s2)) (by kernel_rfl) ?hb0 (fun hHeld => ?_)
        case hb0 => (try dsimp only); exact (Mem.drew M3.out).bs.blk.two.1
        refine wpAnyH_take (i := 0) (v := ?qv0a) rfl (by kernel_rfl) (by kernel_rfl) (by kernel_rfl) (fun _ _ _ h => h) (Or.inl ⟨by kernel_rfl, ?qy0a⟩) (by assumption) ?_
        case qy0a => (intro w hSw; (try dsimp only at hSw); go_simp) <;> (try with_reducible rfl)
        try simp only [Act.put, List.setIfInBounds_toArray, List.set_cons_zero, List.set_cons_succ, List.getElem_toArray, List.getElem_cons_succ, List.getElem_cons_zero]
        refine wpAnyH_take (i := 1) (v := ?qv1a) rfl (by kernel_rfl) (by kernel_rfl) (by kernel_rfl) (fun _ _ _ h => h) (Or.inl ⟨by kernel_rfl, ?qy1a⟩) (by assumption) ?_
        case qy1a => (intro w hSw; (try dsimp only at hSw); go_simp) <;> (try with_reducible rfl)
        try simp only [Act.put, List.setIfInBounds_toArray, List.set_cons_zero, List.set_cons_succ, List.getElem_toArray, List.getElem_cons_succ, List.getElem_cons_zero]
        refine wpAnyH_take (i := 2) (v := ?qv2a) rfl (by kernel_rfl) (by kernel_rfl) (by kernel_rfl) (fun _ _ _ h => h) (Or.inl ⟨by kernel_rfl, ?qy2a⟩) (by assumption) ?_
        case qy2a => (intro w hSw; (try dsimp only at hSw); go_simp) <;> (try with_reducible rfl)
        try simp only [Act.put, List.setIfInBounds_toArray, List.set_cons_zero, List.set_cons_succ, List.getElem_toArray, List.getElem_cons_succ, List.getElem_cons_zero]
        refine wpAnyH_take (i := 4) (v := ?qv4a) rfl (by kernel_rfl) (by kernel_rfl) (by kernel_rfl) (fun _ _ _ h => h) (Or.inl ⟨by kernel_rfl, ?qy4a⟩) (by assumption) ?_
        case qy4a => (intro w hSw; (try dsimp only at hSw); go_simp) <;> (try with_reducible rfl)
        try simp only [Act.put, List.setIfInBounds_toArray, List.set_cons_zero, List.set_cons_succ, List.getElem_toArray, List.getElem_cons_succ, List.getElem_cons_zero]
        refine wpAnyH_take (i := 5) (v := ?qv5a) rfl (by kernel_rfl) (by kernel_rfl) (by kernel_rfl) (fun _ _ _ h => h) (Or.inl ⟨by kernel_rfl, ?qy5a⟩) (by assumption) ?_
        case qy5a => (intro w hSw; (try dsimp only at hSw); go_simp) <;> (try with_reducible rfl)
        try simp only [Act.put, List.setIfInBounds_toArray, List.set_cons_zero, List.set_cons_succ, List.getElem_toArray, List.getElem_cons_succ, List.getElem_cons_zero]
        refine wpAnyH_take (i := 6) (v := ?qv6a) rfl (by kernel_rfl) (by kernel_rfl) (by kernel_rfl) (fun _ _ _ h => h) (Or.inl ⟨by kernel_rfl, ?qy6a⟩) (by assumption) ?_
        case qy6a => (intro w hSw; (try dsimp only at hSw); go_simp) <;> (try with_reducible rfl)
        try simp only [Act.put, List.setIfInBounds_toArray, List.set_cons_zero, List.set_cons_succ, List.getElem_toArray, List.getElem_cons_succ, List.getElem_cons_zero]
        refine wpAnyH_ready (rs := [3]) (by kernel_rfl) (by simp) ?_
        refine AllReadyH.cons rfl (fun K hK => ?_) AllReadyH.nil
        go_simp
        refine (R3.out _).mono ?_
        rintro e x6 ⟨rfl, hy⟩
        have M4 := Lib.hid (Mem.call (Mem.drew M3.out) hy)
        clear hy
        go_wp2_with fail
        refine hK.out _ _ ?hs3aa (fun hHeld => ?_)
        case hs3aa => (try dsimp only); exact M4.out.bs.blk.two.1
        clear hK K
        try simp only [Act.put, List.setIfInBounds_toArray, List.set_cons_zero, List.set_cons_succ, List.getElem_toArray, List.getElem_cons_succ, List.getElem_cons_zero]
        refine wpAnyH_ready (rs := [7]) (by kernel_rfl) (by simp) ?_
        refine AllReadyH.cons rfl (fun K hK => ?_) AllReadyH.nil
        go_simp
        refine (R4.out _).mono ?_
        rintro e x7 ⟨rfl, hy⟩
        have M5 := Lib.hid (Mem.call M4.out hy)
        clear hy
        go_wp2_with fail
        refine hK.out _ _ ?hs7aa (fun hHeld => ?_)
        case hs7aa => (try dsimp only); exact M5.out.bs.blk.two.1
        clear hK K
        try simp only [Act.put, List.setIfInBounds_toArray, List.set_cons_zero, List.set_cons_succ, List.getElem_toArray, List.getElem_cons_succ, List.getElem_cons_zero]
        refine wpAnyH_take (i := 8) (v := ?qv8a) rfl (by kernel_rfl) (by kernel_rfl) (by kernel_rfl) (fun _ _ _ h => h) (Or.inl ⟨by kernel_rfl, ?qy8a⟩) (by assumption) ?_
        case qy8a => (intro w hSw; (try dsimp only at hSw); go_simp) <;> (try with_reducible rfl)
        try simp only [Act.put, List.setIfInBounds_toArray, List.set_cons_zero, List.set_cons_succ, List.getElem_toArray, List.getElem_cons_succ, List.getElem_cons_zero]
        refine wpAnyH_ready (rs := [9]) (by kernel_rfl) (by simp) ?_
        refine AllReadyH.cons rfl (fun K hK => ?_) AllReadyH.nil
        obtain ⟨⟨p0, p1⟩, p2, p3⟩ := M5.out.m.blk.two
        go_simp
        refine hK.out _ _ ?hs9aa (fun hHeld => ?_)
        case hs9aa => (try dsimp only); exact (Mem.putM M5.out mv1 mv2).bs.blk.two.1
        clear hK K
        try simp only [Act.put, List.setIfInBounds_toArray, List.set_cons_zero, List.set_cons_succ, List.getElem_toArray, List.getElem_cons_succ, List.getElem_cons_zero]
        refine wpAnyH_done (by kernel_rfl) ?_ _
        have M6 := Lib.hid (M5.out.putM mv1 mv2)
        clear p0 p1 p2 p3 M3 M4 M5
        obtain ⟨W6, hW6⟩ : ∃ W6, (x7.setCell ⟨M, 0, none⟩ (.int .i64 mv1)).setCell ⟨M, 1, none⟩ (.int .i64 mv2) = W6 := ⟨_, rfl⟩
        rw [hW6] at M6 hHeld ⊢
        clear hW6
        go_upto_region 6 with (fail)
        refine wp_region_held_drew (S := fun W => W.cell? ⟨w.heap.size, 0, none⟩ = some (.int .i64 s1) ∧ W.cell? ⟨w.heap.size, 1, none⟩ = some (.int .i64 s2)) (by kernel_rfl) ?hb0 (fun hHeld => ?_)
        case hb0 => (try dsimp only); exact (Mem.drew M6.out).bs.blk.two.1
        refine wpAnyH_take (i := 0) (v := ?qv0b) rfl (by kernel_rfl) (by kernel_rfl) (by kernel_rfl) (fun _ _ _ h => h) (Or.inl ⟨by kernel_rfl, ?qy0b⟩) (by assumption) ?_
        case qy0b => (intro w hSw; (try dsimp only at hSw); go_simp) <;> (try with_reducible rfl)
        try simp only [Act.put, List.setIfInBounds_toArray, List.set_cons_zero, List.set_cons_succ, List.getElem_toArray, List.getElem_cons_succ, List.getElem_cons_zero]
        refine wpAnyH_take (i := 1) (v := ?qv1b) rfl (by kernel_rfl) (by kernel_rfl) (by kernel_rfl) (fun _ _ _ h => h) (Or.inl ⟨by kernel_rfl, ?qy1b⟩) (by assumption) ?_
        case qy1b => (intro w hSw; (try dsimp only at hSw); go_simp) <;> (try with_reducible rfl)
        try simp only [Act.put, List.setIfInBounds_toArray, List.set_cons_zero, List.set_cons_succ, List.getElem_toArray, List.getElem_cons_succ, List.getElem_cons_zero]
        refine wpAnyH_take (i := 2) (v := ?qv2b) rfl (by kernel_rfl) (by kernel_rfl) (by kernel_rfl) (fun _ _ _ h => h) (Or.inl ⟨by kernel_rfl, ?qy2b⟩) (by assumption) ?_
        case qy2b => (intro w hSw; (try dsimp only at hSw); go_simp) <;> (try with_reducible rfl)
        try simp only [Act.put, List.setIfInBounds_toArray, List.set_cons_zero, List.set_cons_succ, List.getElem_toArray, List.getElem_cons_succ, List.getElem_cons_zero]
        refine wpAnyH_take (i := 4) (v := ?qv4b) rfl (by kernel_rfl) (by kernel_rfl) (by kernel_rfl) (fun _ _ _ h => h) (Or.inl ⟨by kernel_rfl, ?qy4b⟩) (by assumption) ?_
        case qy4b => (intro w hSw; (try dsimp only at hSw); go_simp) <;> (try with_reducible rfl)
        try simp only [Act.put, List.setIfInBounds_toArray, List.set_cons_zero, List.set_cons_succ, List.getElem_toArray, List.getElem_cons_succ, List.getElem_cons_zero]
        refine wpAnyH_take (i := 5) (v := ?qv5b) rfl (by kernel_rfl) (by kernel_rfl) (by kernel_rfl) (fun _ _ _ h => h) (Or.inl ⟨by kernel_rfl, ?qy5b⟩) (by assumption) ?_
        case qy5b => (intro w hSw; (try dsimp only at hSw); go_simp) <;> (try with_reducible rfl)
        try simp only [Act.put, List.setIfInBounds_toArray, List.set_cons_zero, List.set_cons_succ, List.getElem_toArray, List.getElem_cons_succ, List.getElem_cons_zero]
        refine wpAnyH_take (i := 6) (v := ?qv6b) rfl (by kernel_rfl) (by kernel_rfl) (by kernel_rfl) (fun _ _ _ h => h) (Or.inl ⟨by kernel_rfl, ?qy6b⟩) (by assumption) ?_
        case qy6b => (intro w hSw; (try dsimp only at hSw); go_simp) <;> (try with_reducible rfl)
        try simp only [Act.put, List.setIfInBounds_toArray, List.set_cons_zero, List.set_cons_succ, List.getElem_toArray, List.getElem_cons_succ, List.getElem_cons_zero]
        refine wpAnyH_ready (rs := [3]) (by kernel_rfl) (by simp) ?_
        refine AllReadyH.cons rfl (fun K hK => ?_) AllReadyH.nil
        go_simp
        refine (R5.out _).mono ?_
        rintro e x8 ⟨rfl, hy⟩
        have M7 := Lib.hid (Mem.call (Mem.drew M6.out) hy)
        clear hy
        go_wp2_with fail
        refine hK.out _ _ ?hs3ba (fun hHeld => ?_)
        case hs3ba => (try dsimp only); exact M7.out.bs.blk.two.1
        clear hK K
        try simp only [Act.put, List.setIfInBounds_toArray, List.set_cons_zero, List.set_cons_succ, List.getElem_toArray, List.getElem_cons_succ, List.getElem_cons_zero]
        refine wpAnyH_ready (rs := [7]) (by kernel_rfl) (by simp) ?_
        refine AllReadyH.cons rfl (fun K hK => ?_) AllReadyH.nil
        go_simp
        refine (R6.out _).mono ?_
        rintro e x9 ⟨rfl, hy⟩
        have M8 := Lib.hid (Mem.call M7.out hy)
        clear hy
        go_wp2_with fail
        refine hK.out _ _ ?hs7ba (fun hHeld => ?_)
        case hs7ba => (try dsimp only); exact M8.out.bs.blk.two.1
        clear hK K
        try simp only [Act.put, List.setIfInBounds_toArray, List.set_cons_zero, List.set_cons_succ, List.getElem_toArray, List.getElem_cons_succ, List.getElem_cons_zero]
        refine wpAnyH_take (i := 8) (v := ?qv8b) rfl (by kernel_rfl) (by kernel_rfl) (by kernel_rfl) (fun _ _ _ h => h) (Or.inl ⟨by kernel_rfl, ?qy8b⟩) (by assumption) ?_
        case qy8b => (intro w hSw; (try dsimp only at hSw); go_simp) <;> (try with_reducible rfl)
        try simp only [Act.put, List.setIfInBounds_toArray, List.set_cons_zero, List.set_cons_succ, List.getElem_toArray, List.getElem_cons_succ, List.getElem_cons_zero]
        refine wpAnyH_ready (rs := [9]) (by kernel_rfl) (by simp) ?_
        refine AllReadyH.cons rfl (fun K hK => ?_) AllReadyH.nil
        go_simp
        refine (R7.out _).mono ?_
        rintro e x10 ⟨rfl, hy⟩
        have M9 := Lib.hid (Mem.call M8.out hy)
        clear hy
        go_wp2_with fail
        refine hK.out _ _ ?hs9ba (fun hHeld => ?_)
        case hs9ba => (try dsimp only); exact M9.out.bs.blk.two.1
        clear hK K
        try simp only [Act.put, List.setIfInBounds_toArray, List.set_cons_zero, List.set_cons_succ, List.getElem_toArray, List.getElem_cons_succ, List.getElem_cons_zero]
        refine wpAnyH_ready (rs := [10]) (by kernel_rfl) (by simp) ?_
        refine AllReadyH.cons rfl (fun K hK => ?_) AllReadyH.nil
        obtain ⟨⟨p0, p1⟩, p2, p3⟩ := M9.out.g.blk.two
        go_simp
        refine hK.out _ _ ?hs10ba (fun hHeld => ?_)
        case hs10ba => (try dsimp only); exact (Mem.putG M9.out gw1 gw2).bs.blk.two.1
        clear hK K
        try simp only [Act.put, List.setIfInBounds_toArray, List.set_cons_zero, List.set_cons_succ, List.getElem_toArray, List.getElem_cons_succ, List.getElem_cons_zero]
        refine wpAnyH_done (by kernel_rfl) ?_ _
        go_wp2_with fail
        go_meet
        exact ⟨rfl, M9.out.putG gw1 gw2⟩
    case rest =>
      obtain ⟨rfl, hmem⟩ := hcut
      have N0 := Lib.hid hmem
      clear hmem M1 L1 L2
      obtain ⟨⟨p0, p1⟩, _, _⟩ := N0.out.bs.blk.two
      go_upto_region 7 with (fail)
      go_cut [14] from 15 (fun v we => v = .bool wi ∧ Mem w we P Q M (M + 1) s1 s2 t1 t2 mv1 mv2 gw1 gw2)
      case first =>
        go_wp2_with fail
        refine (RE.out _).mono ?_
        rintro e x11 ⟨rfl, hb⟩
        have N1 := Lib.hid (N0.out.call hb)
        clear hb p0 p1 N0
        by_cases g : s2 < s1
        · have g' : decide (s2 < s1) = true := by simpa using g
          rw [g'] at WB ⊢
          have hwi : wi = true := by have := WB.out; simpa using this
          subst hwi
          clear g g'
          go_wp2_with fail
          go_meet
          exact ⟨rfl, N1.out⟩
        · have g' : decide (s2 < s1) = false := by simpa using g
          rw [g'] at WB ⊢
          obtain ⟨⟨p0, p1⟩, _, _⟩ := N1.out.bs.blk.two
          obtain ⟨⟨q0, q1'⟩, _, _⟩ := N1.out.bt.blk.two
          clear g g'
          go_wp2_with fail
          refine (I1.out _).mono ?_
          rintro e x12 ⟨rfl, hb⟩
          have N2 := Lib.hid (N1.out.call hb)
          clear hb p0 p1 q0 q1' N1
          by_cases g2 : Inn (t1, t2) s1
          · have g2' : decide (Inn (t1, t2) s1) = true := by simpa using g2
            rw [g2'] at WB ⊢
            obtain ⟨⟨p0, p1⟩, _, _⟩ := N2.out.bs.blk.two
            obtain ⟨⟨q0, q1'⟩, _, _⟩ := N2.out.bt.blk.two
            clear g2 g2'
            go_wp2_with fail
            refine (I2.out _).mono ?_
            rintro e x13 ⟨rfl, hb⟩
            have N3 := Lib.hid (N2.out.call hb)
            have hwi : wi = decide (Inn (t1, t2) s2) := by have := WB.out; simpa using this
            subst hwi
            clear hb p0 p1 q0 q1' N2
            generalize decide (Inn (t1, t2) s2) = r at *
            go_wp2_with fail
            go_meet
            exact ⟨rfl, N3.out⟩
          · have g2' : decide (Inn (t1, t2) s1) = false := by simpa using g2
            rw [g2'] at WB ⊢
            have hwi : wi = false := by have := WB.out; simpa using this
            subst hwi
            clear g2 g2'
            go_wp2_with fail
            go_meet
            exact ⟨rfl, N2.out⟩
      case rest =>
        obtain ⟨rfl, hmem⟩ := hcut
        have N4 := Lib.hid hmem
        clear hmem N0 WB p0 p1
        have hq1 := HQ.out mv1 mv2
        have hq2 := HQ.out gw1 gw2
        generalize decide (s2 < s1) = r1 at *
        generalize decide (Inn (s1, s2) n) = r2 at *
        have hr1 : (r1 == r1) = true := by simp
        have hr2 : (r2 == r2) = true := by simp
        have hr3 : (wi == wi) = true := by simp
        have hr4 : (ln == ln) = true := by simp
        go_upto_region 8 with (fail)
        refine wp_region_held_drew (S := fun W => ((W.cell? ⟨w.heap.size, 0, none⟩ = some (.int .i64 s1) ∧ W.cell? ⟨w.heap.size, 1, none⟩ = some (.int .i64 s2)) ∧ (W.cell? ⟨P, 0, none⟩ = some (.int .i64 s1) ∧ W.cell? ⟨P, 1, none⟩ = some (.int .i64 s2)) ∧ (W.cell? ⟨Q, 0, none⟩ = some (.int .i64 t1) ∧ W.cell? ⟨Q, 1, none⟩ = some (.int .i64 t2)) ∧ (W.cell? ⟨M, 0, none⟩ = some (.int .i64 mv1) ∧ W.cell? ⟨M, 1, none⟩ = some (.int .i64 mv2)) ∧ (W.cell? ⟨M + 1, 0, none⟩ = some (.int .i64 gw1) ∧ W.cell? ⟨M + 1, 1, none⟩ = some (.int .i64 gw2)))) (by kernel_rfl) ?hb0 (fun hHeld => ?_)
        case hb0 => (try dsimp only); exact ⟨(Mem.drew N4.out).bs.blk.two.1, (Mem.drew N4.out).p.blk.two.1, (Mem.drew N4.out).q.blk.two.1, (Mem.drew N4.out).m.blk.two.1, (Mem.drew N4.out).g.blk.two.1⟩
        refine wpAnyH_ready (rs := [0]) (by kernel_rfl) (by simp) ?_
        refine AllReadyH.cons rfl (fun K hK => ?_) AllReadyH.nil
        go_simp
        refine (KK.out _).mono ?_
        rintro e z1 ⟨rfl, hy⟩
        have O1 := Lib.hid (Mem.call (Mem.drew N4.out) hy)
        clear hy
        go_wp2_with fail
        refine hK.out _ _ ?hs0ca (fun hHeld => ?_)
        case hs0ca => (try dsimp only); exact ⟨O1.out.bs.blk.two.1, O1.out.p.blk.two.1, O1.out.q.blk.two.1, O1.out.m.blk.two.1, O1.out.g.blk.two.1⟩
        clear hK K
        try simp only [Act.put, List.setIfInBounds_toArray, List.set_cons_zero, List.set_cons_succ, List.getElem_toArray, List.getElem_cons_succ, List.getElem_cons_zero]
        refine wpAnyH_take (i := 1) (v := ?qv1c) rfl (by kernel_rfl) (by kernel_rfl) (by kernel_rfl) (fun _ _ _ h => h) (Or.inl ⟨by kernel_rfl, ?qy1c⟩) (by assumption) ?_
        case qy1c => (intro w hSw; (try dsimp only at hSw); go_simp) <;> (try with_reducible rfl)
        try simp only [Act.put, List.setIfInBounds_toArray, List.set_cons_zero, List.set_cons_succ, List.getElem_toArray, List.getElem_cons_succ, List.getElem_cons_zero]
        refine wpAnyH_take (i := 2) (v := ?qv2c) rfl (by kernel_rfl) (by kernel_rfl) (by kernel_rfl) (fun _ _ _ h => h) (Or.inl ⟨by kernel_rfl, ?qy2c⟩) (by assumption) ?_
        case qy2c => (intro w hSw; (try dsimp only at hSw); go_simp) <;> (try with_reducible rfl)
        try simp only [Act.put, List.setIfInBounds_toArray, List.set_cons_zero, List.set_cons_succ, List.getElem_toArray, List.getElem_cons_succ, List.getElem_cons_zero]
        refine wpAnyH_take (i := 4) (v := ?qv4c) rfl (by kernel_rfl) (by kernel_rfl) (by kernel_rfl) (fun _ _ _ h => h) (Or.inl ⟨by kernel_rfl, ?qy4c⟩) (by assumption) ?_
        case qy4c => (intro w hSw; (try dsimp only at hSw); go_simp) <;> (try with_reducible rfl)
        try simp only [Act.put, List.setIfInBounds_toArray, List.set_cons_zero, List.set_cons_succ, List.getElem_toArray, List.getElem_cons_succ, List.getElem_cons_zero]
        refine wpAnyH_ready (rs := [3]) (by kernel_rfl) (by simp) ?_
        refine AllReadyH.cons rfl (fun K hK => ?_) AllReadyH.nil
        go_simp
        refine (PE.out _).mono ?_
        rintro e z2 ⟨rfl, hy⟩
        have O2 := Lib.hid (Mem.call O1.out hy)
        clear hy
        go_wp2_with fail
        refine hK.out _ _ ?hs3ca (fun hHeld => ?_)
        case hs3ca => (try dsimp only); exact ⟨O2.out.bs.blk.two.1, O2.out.p.blk.two.1, O2.out.q.blk.two.1, O2.out.m.blk.two.1, O2.out.g.blk.two.1⟩
        clear hK K
        try simp only [Act.put, List.setIfInBounds_toArray, List.set_cons_zero, List.set_cons_succ, List.getElem_toArray, List.getElem_cons_succ, List.getElem_cons_zero]
        refine wpAnyH_ready (rs := [5]) (by kernel_rfl) (by simp) ?_
        refine AllReadyH.cons rfl (fun K hK => ?_) AllReadyH.nil
        go_simp
        refine (RE.out _).mono ?_
        rintro e z3 ⟨rfl, hy⟩
        have O3 := Lib.hid (Mem.call O2.out hy)
        clear hy
        go_wp2_with fail
        refine hK.out _ _ ?hs5ca (fun hHeld => ?_)
        case hs5ca => (try dsimp only); exact ⟨O3.out.bs.blk.two.1, O3.out.p.blk.two.1, O3.out.q.blk.two.1, O3.out.m.blk.two.1, O3.out.g.blk.two.1⟩
        clear hK K
        try simp only [Act.put, List.setIfInBounds_toArray, List.set_cons_zero, List.set_cons_succ, List.getElem_toArray, List.getElem_cons_succ, List.getElem_cons_zero]
        refine wpAnyH_take (i := 6) (v := ?qv6c) rfl (by kernel_rfl) (by kernel_rfl) (by kernel_rfl) (fun _ _ _ h => h) (Or.inl ⟨by kernel_rfl, ?qy6c⟩) (by assumption) ?_
        case qy6c => (intro w hSw; (try dsimp only at hSw); go_simp) <;> (try with_reducible rfl)
        try simp only [Act.put, List.setIfInBounds_toArray, List.set_cons_zero, List.set_cons_succ, List.getElem_toArray, List.getElem_cons_succ, List.getElem_cons_zero]
        refine wpAnyH_take (i := 7) (v := ?qv7c) rfl (by kernel_rfl) (by kernel_rfl) (by kernel_rfl) (fun _ _ _ h => h) (Or.inl ⟨by kernel_rfl, ?qy7c⟩) (by assumption) ?_
        case qy7c => (intro w hSw; (try dsimp only at hSw); go_simp) <;> (try with_reducible rfl)
        try simp only [Act.put, List.setIfInBounds_toArray, List.set_cons_zero, List.set_cons_succ, List.getElem_toArray, List.getElem_cons_succ, List.getElem_cons_zero]
        refine wpAnyH_take (i := 8) (v := ?qv8c) rfl (by kernel_rfl) (by kernel_rfl) (by kernel_rfl) (fun _ _ _ h => h) (Or.inl ⟨by kernel_rfl, ?qy8c⟩) (by assumption) ?_
        case qy8c => (intro w hSw; (try dsimp only at hSw); go_simp) <;> (try with_reducible rfl)
        try simp only [Act.put, List.setIfInBounds_toArray, List.set_cons_zero, List.set_cons_succ, List.getElem_toArray, List.getElem_cons_succ, List.getElem_cons_zero]
        refine wpAnyH_take (i := 9) (v := ?qv9c) rfl (by kernel_rfl) (by kernel_rfl) (by kernel_rfl) (fun _ _ _ h => h) (Or.inl ⟨by kernel_rfl, ?qy9c⟩) (by assumption) ?_
        case qy9c => (intro w hSw; (try dsimp only at hSw); go_simp) <;> (try with_reducible rfl)
        try simp only [Act.put, List.setIfInBounds_toArray, List.set_cons_zero, List.set_cons_succ, List.getElem_toArray, List.getElem_cons_succ, List.getElem_cons_zero]
        refine wpAnyH_take (i := 10) (v := ?qv10c) rfl (by kernel_rfl) (by kernel_rfl) (by kernel_rfl) (fun _ _ _ h => h) (Or.inl ⟨by kernel_rfl, ?qy10c⟩) (by assumption) ?_
        case qy10c => (intro w hSw; (try dsimp only at hSw); go_simp) <;> (try with_reducible rfl)
        try simp only [Act.put, List.setIfInBounds_toArray, List.set_cons_zero, List.set_cons_succ, List.getElem_toArray, List.getElem_cons_succ, List.getElem_cons_zero]
        refine wpAnyH_take (i := 12) (v := ?qv12c) rfl (by kernel_rfl) (by kernel_rfl) (by kernel_rfl) (fun _ _ _ h => h) (Or.inl ⟨by kernel_rfl, ?qy12c⟩) (by assumption) ?_
        case qy12c => (intro w hSw; (try dsimp only at hSw); go_simp) <;> (try with_reducible rfl)
        try simp only [Act.put, List.setIfInBounds_toArray, List.set_cons_zero, List.set_cons_succ, List.getElem_toArray, List.getElem_cons_succ, List.getElem_cons_zero]
        refine wpAnyH_take (i := 13) (v := ?qv13c) rfl (by kernel_rfl) (by kernel_rfl) (by kernel_rfl) (fun _ _ _ h => h) (Or.inl ⟨by kernel_rfl, ?qy13c⟩) (by assumption) ?_
        case qy13c => (intro w hSw; (try dsimp only at hSw); go_simp) <;> (try with_reducible rfl)
        try simp only [Act.put, List.setIfInBounds_toArray, List.set_cons_zero, List.set_cons_succ, List.getElem_toArray, List.getElem_cons_succ, List.getElem_cons_zero]
        refine wpAnyH_ready (rs := [11]) (by kernel_rfl) (by simp) ?_
        refine AllReadyH.cons rfl (fun K hK => ?_) AllReadyH.nil
        go_simp
        refine (J3.out _).mono ?_
        rintro e z4 ⟨rfl, hy⟩
        have O4 := Lib.hid (Mem.call O3.out hy)
        clear hy
        go_wp2_with fail
        refine hK.out _ _ ?hs11ca (fun hHeld => ?_)
        case hs11ca => (try dsimp only); exact ⟨O4.out.bs.blk.two.1, O4.out.p.blk.two.1, O4.out.q.blk.two.1, O4.out.m.blk.two.1, O4.out.g.blk.two.1⟩
        clear hK K
        try simp only [Act.put, List.setIfInBounds_toArray, List.set_cons_zero, List.set_cons_succ, List.getElem_toArray, List.getElem_cons_succ, List.getElem_cons_zero]
        refine wpAnyH_ready (rs := [14]) (by kernel_rfl) (by simp) ?_
        refine AllReadyH.cons rfl (fun K hK => ?_) AllReadyH.nil
        go_simp
        refine (I3.out _).mono ?_
        rintro e z5 ⟨rfl, hy⟩
        have O5 := Lib.hid (Mem.call O4.out hy)
        clear hy
        go_wp2_with fail
        refine hK.out _ _ ?hs14ca (fun hHeld => ?_)
        case hs14ca => (try dsimp only); exact ⟨O5.out.bs.blk.two.1, O5.out.p.blk.two.1, O5.out.q.blk.two.1, O5.out.m.blk.two.1, O5.out.g.blk.two.1⟩
        clear hK K
        try simp only [Act.put, List.setIfInBounds_toArray, List.set_cons_zero, List.set_cons_succ, List.getElem_toArray, List.getElem_cons_succ, List.getElem_cons_zero]
        refine wpAnyH_take (i := 15) (v := ?qv15c) rfl (by kernel_rfl) (by kernel_rfl) (by kernel_rfl) (fun _ _ _ h => h) (Or.inl ⟨by kernel_rfl, ?qy15c⟩) (by assumption) ?_
        case qy15c => (intro w hSw; (try dsimp only at hSw); go_simp) <;> (try with_reducible rfl)
        try simp only [Act.put, List.setIfInBounds_toArray, List.set_cons_zero, List.set_cons_succ, List.getElem_toArray, List.getElem_cons_succ, List.getElem_cons_zero]
        refine wpAnyH_take (i := 16) (v := ?qv16c) rfl (by kernel_rfl) (by kernel_rfl) (by kernel_rfl) (fun _ _ _ h => h) (Or.inl ⟨by kernel_rfl, ?qy16c⟩) (by assumption) ?_
        case qy16c => (intro w hSw; (try dsimp only at hSw); go_simp) <;> (try with_reducible rfl)
        try simp only [Act.put, List.setIfInBounds_toArray, List.set_cons_zero, List.set_cons_succ, List.getElem_toArray, List.getElem_cons_succ, List.getElem_cons_zero]
        refine wpAnyH_take (i := 17) (v := ?qv17c) rfl (by kernel_rfl) (by kernel_rfl) (by kernel_rfl) (fun _ _ _ h => h) (Or.inl ⟨by kernel_rfl, ?qy17c⟩) (by assumption) ?_
        case qy17c => (intro w hSw; (try dsimp only at hSw); go_simp) <;> (try with_reducible rfl)
        try simp only [Act.put, List.setIfInBounds_toArray, List.set_cons_zero, List.set_cons_succ, List.getElem_toArray, List.getElem_cons_succ, List.getElem_cons_zero]
        refine wpAnyH_take (i := 18) (v := ?qv18c) rfl (by kernel_rfl) (by kernel_rfl) (by kernel_rfl) (fun _ _ _ h => h) (Or.inl ⟨by kernel_rfl, ?qy18c⟩) (by assumption) ?_
        case qy18c => (intro w hSw; (try dsimp only at hSw); go_simp) <;> (try with_reducible rfl)
        try simp only [Act.put, List.setIfInBounds_toArray, List.set_cons_zero, List.set_cons_succ, List.getElem_toArray, List.getElem_cons_succ, List.getElem_cons_zero]
        refine wpAnyH_take (i := 20) (v := ?qv20c) rfl (by kernel_rfl) (by kernel_rfl) (by kernel_rfl) (fun _ _ _ h => h) (Or.inl ⟨by kernel_rfl, ?qy20c⟩) (by assumption) ?_
        case qy20c => (intro w hSw; (try dsimp only at hSw); go_simp) <;> (try with_reducible rfl)
        try simp only [Act.put, List.setIfInBounds_toArray, List.set_cons_zero, List.set_cons_succ, List.getElem_toArray, List.getElem_cons_succ, List.getElem_cons_zero]
        refine wpAnyH_ready (rs := [19]) (by kernel_rfl) (by simp) ?_
        refine AllReadyH.cons rfl (fun K hK => ?_) AllReadyH.nil
        go_simp
        refine (PL.out _).mono ?_
        rintro e z6 ⟨rfl, hy⟩
        have O6 := Lib.hid (Mem.call O5.out hy)
        clear hy
        go_wp2_with fail
        refine hK.out _ _ ?hs19ca (fun hHeld => ?_)
        case hs19ca => (try dsimp only); exact ⟨O6.out.bs.blk.two.1, O6.out.p.blk.two.1, O6.out.q.blk.two.1, O6.out.m.blk.two.1, O6.out.g.blk.two.1⟩
        clear hK K
        try simp only [Act.put, List.setIfInBounds_toArray, List.set_cons_zero, List.set_cons_succ, List.getElem_toArray, List.getElem_cons_succ, List.getElem_cons_zero]
        refine wpAnyH_take (i := 21) (v := ?qv21c) rfl (by kernel_rfl) (by kernel_rfl) (by kernel_rfl) (fun _ _ _ h => h) (Or.inl ⟨by kernel_rfl, ?qy21c⟩) (by assumption) ?_
        case qy21c => (intro w hSw; (try dsimp only at hSw); go_simp) <;> (try with_reducible rfl)
        try simp only [Act.put, List.setIfInBounds_toArray, List.set_cons_zero, List.set_cons_succ, List.getElem_toArray, List.getElem_cons_succ, List.getElem_cons_zero]
        refine wpAnyH_take (i := 22) (v := ?qv22c) rfl (by kernel_rfl) (by kernel_rfl) (by kernel_rfl) (fun _ _ _ h => h) (Or.inl ⟨by kernel_rfl, ?qy22c⟩) (by assumption) ?_
        case qy22c => (intro w hSw; (try dsimp only at hSw); go_simp) <;> (try with_reducible rfl)
        try simp only [Act.put, List.setIfInBounds_toArray, List.set_cons_zero, List.set_cons_succ, List.getElem_toArray, List.getElem_cons_succ, List.getElem_cons_zero]
        refine wpAnyH_take (i := 23) (v := ?qv23c) rfl (by kernel_rfl) (by kernel_rfl) (by kernel_rfl) (fun _ _ _ h => h) (Or.inl ⟨by kernel_rfl, ?qy23c⟩) (by assumption) ?_
        case qy23c => (intro w hSw; (try dsimp only at hSw); go_simp) <;> (try with_reducible rfl)
        try simp only [Act.put, List.setIfInBounds_toArray, List.set_cons_zero, List.set_cons_succ, List.getElem_toArray, List.getElem_cons_succ, List.getElem_cons_zero]
        refine wpAnyH_take (i := 24) (v := ?qv24c) rfl (by kernel_rfl) (by kernel_rfl) (by kernel_rfl) (fun _ _ _ h => h) (Or.inl ⟨by kernel_rfl, ?qy24c⟩) (by assumption) ?_
        case qy24c => (intro w hSw; (try dsimp only at hSw); go_simp) <;> (try with_reducible rfl)
        try simp only [Act.put, List.setIfInBounds_toArray, List.set_cons_zero, List.set_cons_succ, List.getElem_toArray, List.getElem_cons_succ, List.getElem_cons_zero]
        refine wpAnyH_take (i := 25) (v := ?qv25c) rfl (by kernel_rfl) (by kernel_rfl) (by kernel_rfl) (fun _ _ _ h => h) (Or.inl ⟨by kernel_rfl, ?qy25c⟩) (by assumption) ?_
        case qy25c => (intro w hSw; (try dsimp only at hSw); go_simp) <;> (try with_reducible rfl)
        try simp only [Act.put, List.setIfInBounds_toArray, List.set_cons_zero, List.set_cons_succ, List.getElem_toArray, List.getElem_cons_succ, List.getElem_cons_zero]
        refine wpAnyH_take (i := 28) (v := ?qv28c) rfl (by kernel_rfl) (by kernel_rfl) (by kernel_rfl) (fun _ _ _ h => h) (Or.inl ⟨by kernel_rfl, ?qy28c⟩) (by assumption) ?_
        case qy28c => (intro w hSw; (try dsimp only at hSw); go_simp) <;> (try with_reducible rfl)
        try simp only [Act.put, List.setIfInBounds_toArray, List.set_cons_zero, List.set_cons_succ, List.getElem_toArray, List.getElem_cons_succ, List.getElem_cons_zero]
        refine wpAnyH_ready (rs := [26]) (by kernel_rfl) (by simp) ?_
        refine AllReadyH.cons rfl (fun K hK => ?_) AllReadyH.nil
        go_simp
        refine (PM.out _).mono ?_
        rintro e z7 ⟨rfl, hy⟩
        have O7 := Lib.hid (Mem.call O6.out hy)
        clear hy
        go_wp2_with fail
        refine hK.out _ _ ?hs26ca (fun hHeld => ?_)
        case hs26ca => (try dsimp only); exact ⟨O7.out.bs.blk.two.1, O7.out.p.blk.two.1, O7.out.q.blk.two.1, O7.out.m.blk.two.1, O7.out.g.blk.two.1⟩
        clear hK K
        try simp only [Act.put, List.setIfInBounds_toArray, List.set_cons_zero, List.set_cons_succ, List.getElem_toArray, List.getElem_cons_succ, List.getElem_cons_zero]
        refine wpAnyH_ready (rs := [27]) (by kernel_rfl) (by simp) ?_
        refine AllReadyH.cons rfl (fun K hK => ?_) AllReadyH.nil
        go_simp
        refine (KO.out _ _ _).mono ?_
        rintro e z8 ⟨rfl, hy⟩
        have O8 := Lib.hid (Mem.call O7.out hy)
        clear hy
        go_wp2_with fail
        refine hK.out _ _ ?hs27ca (fun hHeld => ?_)
        case hs27ca => (try dsimp only); exact ⟨O8.out.bs.blk.two.1, O8.out.p.blk.two.1, O8.out.q.blk.two.1, O8.out.m.blk.two.1, O8.out.g.blk.two.1⟩
        clear hK K
        try simp only [Act.put, List.setIfInBounds_toArray, List.set_cons_zero, List.set_cons_succ, List.getElem_toArray, List.getElem_cons_succ, List.getElem_cons_zero]
        refine wpAnyH_take (i := 29) (v := ?qv29c) rfl (by kernel_rfl) (by kernel_rfl) (by kernel_rfl) (fun _ _ _ h => h) (Or.inl ⟨by kernel_rfl, ?qy29c⟩) (by assumption) ?_
        case qy29c => (intro w hSw; (try dsimp only at hSw); go_simp) <;> (try with_reducible rfl)
        try simp only [Act.put, List.setIfInBounds_toArray, List.set_cons_zero, List.set_cons_succ, List.getElem_toArray, List.getElem_cons_succ, List.getElem_cons_zero]
        refine wpAnyH_take (i := 30) (v := ?qv30c) rfl (by kernel_rfl) (by kernel_rfl) (by kernel_rfl) (fun _ _ _ h => h) (Or.inl ⟨by kernel_rfl, ?qy30c⟩) (by assumption) ?_
        case qy30c => (intro w hSw; (try dsimp only at hSw); go_simp) <;> (try with_reducible rfl)
        try simp only [Act.put, List.setIfInBounds_toArray, List.set_cons_zero, List.set_cons_succ, List.getElem_toArray, List.getElem_cons_succ, List.getElem_cons_zero]
        refine wpAnyH_take (i := 31) (v := ?qv31c) rfl (by kernel_rfl) (by kernel_rfl) (by kernel_rfl) (fun _ _ _ h => h) (Or.inl ⟨by kernel_rfl, ?qy31c⟩) (by assumption) ?_
        case qy31c => (intro w hSw; (try dsimp only at hSw); go_simp) <;> (try with_reducible rfl)
        try simp only [Act.put, List.setIfInBounds_toArray, List.set_cons_zero, List.set_cons_succ, List.getElem_toArray, List.getElem_cons_succ, List.getElem_cons_zero]
        refine wpAnyH_take (i := 32) (v := ?qv32c) rfl (by kernel_rfl) (by kernel_rfl) (by kernel_rfl) (fun _ _ _ h => h) (Or.inl ⟨by kernel_rfl, ?qy32c⟩) (by assumption) ?_
        case qy32c => (intro w hSw; (try dsimp only at hSw); go_simp) <;> (try with_reducible rfl)
        try simp only [Act.put, List.setIfInBounds_toArray, List.set_cons_zero, List.set_cons_succ, List.getElem_toArray, List.getElem_cons_succ, List.getElem_cons_zero]
        refine wpAnyH_take (i := 33) (v := ?qv33c) rfl (by kernel_rfl) (by kernel_rfl) (by kernel_rfl) (fun _ _ _ h => h) (Or.inl ⟨by kernel_rfl, ?qy33c⟩) (by assumption) ?_
        case qy33c => (intro w hSw; (try dsimp only at hSw); go_simp) <;> (try with_reducible rfl)
        try simp only [Act.put, List.setIfInBounds_toArray, List.set_cons_zero, List.set_cons_succ, List.getElem_toArray, List.getElem_cons_succ, List.getElem_cons_zero]
        refine wpAnyH_take (i := 34) (v := ?qv34c) rfl (by kernel_rfl) (by kernel_rfl) (by kernel_rfl) (fun _ _ _ h => h) (Or.inl ⟨by kernel_rfl, ?qy34c⟩) (by assumption) ?_
        case qy34c => (intro w hSw; (try dsimp only at hSw); go_simp) <;> (try with_reducible rfl)
        try simp only [Act.put, List.setIfInBounds_toArray, List.set_cons_zero, List.set_cons_succ, List.getElem_toArray, List.getElem_cons_succ, List.getElem_cons_zero]
        refine wpAnyH_take (i := 37) (v := ?qv37c) rfl (by kernel_rfl) (by kernel_rfl) (by kernel_rfl) (fun _ _ _ h => h) (Or.inl ⟨by kernel_rfl, ?qy37c⟩) (by assumption) ?_
        case qy37c => (intro w hSw; (try dsimp only at hSw); go_simp) <;> (try with_reducible rfl)
        try simp only [Act.put, List.setIfInBounds_toArray, List.set_cons_zero, List.set_cons_succ, List.getElem_toArray, List.getElem_cons_succ, List.getElem_cons_zero]
        refine wpAnyH_ready (rs := [35]) (by kernel_rfl) (by simp) ?_
        refine AllReadyH.cons rfl (fun K hK => ?_) AllReadyH.nil
        go_simp
        refine (PG.out _).mono ?_
        rintro e z9 ⟨rfl, hy⟩
        have O9 := Lib.hid (Mem.call O8.out hy)
        clear hy
        go_wp2_with fail
        refine hK.out _ _ ?hs35ca (fun hHeld => ?_)
        case hs35ca => (try dsimp only); exact ⟨O9.out.bs.blk.two.1, O9.out.p.blk.two.1, O9.out.q.blk.two.1, O9.out.m.blk.two.1, O9.out.g.blk.two.1⟩
        clear hK K
        try simp only [Act.put, List.setIfInBounds_toArray, List.set_cons_zero, List.set_cons_succ, List.getElem_toArray, List.getElem_cons_succ, List.getElem_cons_zero]
        refine wpAnyH_ready (rs := [36]) (by kernel_rfl) (by simp) ?_
        refine AllReadyH.cons rfl (fun K hK => ?_) AllReadyH.nil
        go_simp
        refine (KO.out _ _ _).mono ?_
        rintro e z10 ⟨rfl, hy⟩
        have O10 := Lib.hid (Mem.call O9.out hy)
        clear hy
        go_wp2_with fail
        refine hK.out _ _ ?hs36ca (fun hHeld => ?_)
        case hs36ca => (try dsimp only); exact ⟨O10.out.bs.blk.two.1, O10.out.p.blk.two.1, O10.out.q.blk.two.1, O10.out.m.blk.two.1, O10.out.g.blk.two.1⟩
        clear hK K
        try simp only [Act.put, List.setIfInBounds_toArray, List.set_cons_zero, List.set_cons_succ, List.getElem_toArray, List.getElem_cons_succ, List.getElem_cons_zero]
        refine wpAnyH_take (i := 38) (v := ?qv38c) rfl (by kernel_rfl) (by kernel_rfl) (by kernel_rfl) (fun _ _ _ h => h) (Or.inl ⟨by kernel_rfl, ?qy38c⟩) (by assumption) ?_
        case qy38c => (intro w hSw; (try dsimp only at hSw); go_simp) <;> (try with_reducible rfl)
        try simp only [Act.put, List.setIfInBounds_toArray, List.set_cons_zero, List.set_cons_succ, List.getElem_toArray, List.getElem_cons_succ, List.getElem_cons_zero]
        refine wpAnyH_take (i := 39) (v := ?qv39c) rfl (by kernel_rfl) (by kernel_rfl) (by kernel_rfl) (fun _ _ _ h => h) (Or.inl ⟨by kernel_rfl, ?qy39c⟩) (by assumption) ?_
        case qy39c => (intro w hSw; (try dsimp only at hSw); go_simp) <;> (try with_reducible rfl)
        try simp only [Act.put, List.setIfInBounds_toArray, List.set_cons_zero, List.set_cons_succ, List.getElem_toArray, List.getElem_cons_succ, List.getElem_cons_zero]
        refine wpAnyH_take (i := 40) (v := ?qv40c) rfl (by kernel_rfl) (by kernel_rfl) (by kernel_rfl) (fun _ _ _ h => h) (Or.inl ⟨by kernel_rfl, ?qy40c⟩) (by assumption) ?_
        case qy40c => (intro w hSw; (try dsimp only at hSw); go_simp) <;> (try with_reducible rfl)
        try simp only [Act.put, List.setIfInBounds_toArray, List.set_cons_zero, List.set_cons_succ, List.getElem_toArray, List.getElem_cons_succ, List.getElem_cons_zero]
        refine wpAnyH_take (i := 41) (v := ?qv41c) rfl (by kernel_rfl) (by kernel_rfl) (by kernel_rfl) (fun _ _ _ h => h) (Or.inl ⟨by kernel_rfl, ?qy41c⟩) (by assumption) ?_
        case qy41c => (intro w hSw; (try dsimp only at hSw); go_simp) <;> (try with_reducible rfl)
        try simp only [Act.put, List.setIfInBounds_toArray, List.set_cons_zero, List.set_cons_succ, List.getElem_toArray, List.getElem_cons_succ, List.getElem_cons_zero]
        refine wpAnyH_take (i := 42) (v := ?qv42c) rfl (by kernel_rfl) (by kernel_rfl) (by kernel_rfl) (fun _ _ _ h => h) (Or.inl ⟨by kernel_rfl, ?qy42c⟩) (by assumption) ?_
        case qy42c => (intro w hSw; (try dsimp only at hSw); go_simp) <;> (try with_reducible rfl)
        try simp only [Act.put, List.setIfInBounds_toArray, List.set_cons_zero, List.set_cons_succ, List.getElem_toArray, List.getElem_cons_succ, List.getElem_cons_zero]
        refine wpAnyH_take (i := 44) (v := ?qv44c) rfl (by kernel_rfl) (by kernel_rfl) (by kernel_rfl) (fun _ _ _ h => h) (Or.inl ⟨by kernel_rfl, ?qy44c⟩) (by assumption) ?_
        case qy44c => (intro w hSw; (try dsimp only at hSw); go_simp) <;> (try with_reducible rfl)
        try simp only [Act.put, List.setIfInBounds_toArray, List.set_cons_zero, List.set_cons_succ, List.getElem_toArray, List.getElem_cons_succ, List.getElem_cons_zero]
        refine wpAnyH_ready (rs := [43]) (by kernel_rfl) (by simp) ?_
        refine AllReadyH.cons rfl (fun K hK => ?_) AllReadyH.nil
        go_simp
        refine (PW.out _).mono ?_
        rintro e z11 ⟨rfl, hy⟩
        have O11 := Lib.hid (Mem.call O10.out hy)
        clear hy
        go_wp2_with fail
        refine hK.out _ _ ?hs43ca (fun hHeld => ?_)
        case hs43ca => (try dsimp only); exact ⟨O11.out.bs.blk.two.1, O11.out.p.blk.two.1, O11.out.q.blk.two.1, O11.out.m.blk.two.1, O11.out.g.blk.two.1⟩
        clear hK K
        try simp only [Act.put, List.setIfInBounds_toArray, List.set_cons_zero, List.set_cons_succ, List.getElem_toArray, List.getElem_cons_succ, List.getElem_cons_zero]
        refine wpAnyH_take (i := 45) (v := ?qv45c) rfl (by kernel_rfl) (by kernel_rfl) (by kernel_rfl) (fun _ _ _ h => h) (Or.inl ⟨by kernel_rfl, ?qy45c⟩) (by assumption) ?_
        case qy45c => (intro w hSw; (try dsimp only at hSw); go_simp) <;> (try with_reducible rfl)
        try simp only [Act.put, List.setIfInBounds_toArray, List.set_cons_zero, List.set_cons_succ, List.getElem_toArray, List.getElem_cons_succ, List.getElem_cons_zero]
        refine wpAnyH_take (i := 46) (v := ?qv46c) rfl (by kernel_rfl) (by kernel_rfl) (by kernel_rfl) (fun _ _ _ h => h) (Or.inl ⟨by kernel_rfl, ?qy46c⟩) (by assumption) ?_
        case qy46c => (intro w hSw; (try dsimp only at hSw); go_simp) <;> (try with_reducible rfl)
        try simp only [Act.put, List.setIfInBounds_toArray, List.set_cons_zero, List.set_cons_succ, List.getElem_toArray, List.getElem_cons_succ, List.getElem_cons_zero]
        refine wpAnyH_take (i := 47) (v := ?qv47c) rfl (by kernel_rfl) (by kernel_rfl) (by kernel_rfl) (fun _ _ _ h => h) (Or.inl ⟨by kernel_rfl, ?qy47c⟩) (by assumption) ?_
        case qy47c => (intro w hSw; (try dsimp only at hSw); go_simp) <;> (try with_reducible rfl)
        try simp only [Act.put, List.setIfInBounds_toArray, List.set_cons_zero, List.set_cons_succ, List.getElem_toArray, List.getElem_cons_succ, List.getElem_cons_zero]
        refine wpAnyH_done (by kernel_rfl) ?_ _
        go_wp2
        go_ret
        exact ⟨rfl, O11.out.bs.bel⟩
end Go.Proofs.Ytlmmoinmlcpmnaa
