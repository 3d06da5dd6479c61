/-
  The project's span: Without.
-/
import Derived.Test.YtlmmoinmlcpmnaaSi
namespace Go.Proofs.Ytlmmoinmlcpmnaa
open Go.RowKit
set_option linter.unusedVariables false
set_option linter.unusedSimpArgs false
set_option maxRecDepth 4000

theorem Late.drew {w W : World} {R : Nat} {t : TypeId} {x y : Value} (h : Late w W R t x y) : Late w W.drew R t x y := ⟨h.blk, h.bel.drew, h.ge⟩
theorem Late.made {w W : World} (h : Below w.heap.size w W) (x y : Value) (t : TypeId) : Late w (W.alloc (.cells #[x, y] t)) W.heap.size t x y := ⟨Blk.fst _ _ _ _, h.alloc h.size _, h.size⟩

set_option maxHeartbeats 800000 in
theorem spBefore (t : Int) (w : World) (ht : I64 t) :
    Calls Try.prog 57 #[.int .i64 t] w fun e w' => e = .returned (.agg #[.int .i64 (sub1 t).1, .int .i64 (sub1 t).2]) ∧ Below w.heap.size w w' := by
  have HN := Lib.hid (fun W => spNone W)
  have fin : Hid (∀ x y : Int, sub1 t = (x, y) → Ending.returned (.agg #[.int .i64 x, .int .i64 y]) = .returned (.agg #[.int .i64 (sub1 t).1, .int .i64 (sub1 t).2])) := by
    rintro x y h; rw [h]
  have K0 := Lib.hid (Late.fst w (.int .i64 0) (.int .i64 0) 31)
  obtain ⟨t1, t2⟩ := ht
  go_enter Try.func57, Try.ntmps57
  by_cases g : t = -9223372036854775808
  · have hF : Hid (sub1 t = (1, 0)) := by unfold Hid sub1; rw [if_pos g]
    have g' : (t == -9223372036854775808) = true := by simpa using g
    clear g
    go_wp2_with fail
    refine (HN.out _).mono ?_
    rintro e w1 ⟨rfl, hb⟩
    have K1 := Lib.hid (K0.out.call hb)
    obtain ⟨⟨r0, r1⟩, r2, r3⟩ := K1.out.blk.two
    clear hb
    go_wp2
    refine ret2 Try.results57 (loadS _ _ _) rfl rfl (K1.out.put _ _).blk ?_
    exact ⟨fin.out _ _ hF.out, (K1.out.put _ _).bel⟩
  · have hF : Hid (sub1 t = (-9223372036854775808, t - 1)) := by unfold Hid sub1; rw [if_neg g]
    have g' : (t == -9223372036854775808) = false := by simpa using g
    have t3 : -9223372036854775808 < t := by omega
    have t4 : t ≤ 9223372036854775807 := by omega
    clear g t1 t2
    go_wp2
    refine ret2 Try.results57 (loadS _ _ _) rfl rfl (Blk.fst _ _ _ _) ?_
    exact ⟨fin.out _ _ hF.out, below_alloc1 _ _⟩

set_option maxHeartbeats 800000 in
theorem spAfter (t : Int) (w : World) (ht : I64 t) :
    Calls Try.prog 58 #[.int .i64 t] w fun e w' => e = .returned (.agg #[.int .i64 (add1 t).1, .int .i64 (add1 t).2]) ∧ Below w.heap.size w w' := by
  have HN := Lib.hid (fun W => spNone W)
  have fin : Hid (∀ x y : Int, add1 t = (x, y) → Ending.returned (.agg #[.int .i64 x, .int .i64 y]) = .returned (.agg #[.int .i64 (add1 t).1, .int .i64 (add1 t).2])) := by
    rintro x y h; rw [h]
  have K0 := Lib.hid (Late.fst w (.int .i64 0) (.int .i64 0) 31)
  obtain ⟨t1, t2⟩ := ht
  go_enter Try.func58, Try.ntmps58
  by_cases g : t = 9223372036854775807
  · have hF : Hid (add1 t = (1, 0)) := by unfold Hid add1; rw [if_pos g]
    have g' : (t == 9223372036854775807) = true := by simpa using g
    clear g
    go_wp2_with fail
    refine (HN.out _).mono ?_
    rintro e w1 ⟨rfl, hb⟩
    have K1 := Lib.hid (K0.out.call hb)
    obtain ⟨⟨r0, r1⟩, r2, r3⟩ := K1.out.blk.two
    clear hb
    go_wp2
    refine ret2 Try.results58 (loadS _ _ _) rfl rfl (K1.out.put _ _).blk ?_
    exact ⟨fin.out _ _ hF.out, (K1.out.put _ _).bel⟩
  · have hF : Hid (add1 t = (t + 1, 9223372036854775807)) := by unfold Hid add1; rw [if_neg g]
    have g' : (t == 9223372036854775807) = false := by simpa using g
    have t3 : -9223372036854775808 ≤ t := by omega
    have t4 : t < 9223372036854775807 := by omega
    clear g t1 t2
    go_wp2
    refine ret2 Try.results58 (loadS _ _ _) rfl rfl (Blk.fst _ _ _ _) ?_
    exact ⟨fin.out _ _ hF.out, below_alloc1 _ _⟩

theorem sps_fst2 (w : World) (a b c d : Int) (o : Obj) : Sps (World.drew ((w.alloc (.cells #[.int .i64 a, .int .i64 b, .int .i64 c, .int .i64 d] 31)).alloc o)) (some ⟨w.heap.size, 0, none⟩) 2 [(a, b), (c, d)] :=
  Sps.below (sps_new2 w a b c d) (Below.drew (below_alloc1 _ o))
theorem sps_snd2 (w : World) (a b c d : Int) (o : Obj) : Sps (World.drew ((w.alloc o).alloc (.cells #[.int .i64 a, .int .i64 b, .int .i64 c, .int .i64 d] 31))) (some ⟨w.heap.size + 1, 0, none⟩) 2 [(a, b), (c, d)] := by
  have h := sps_new2 (w.alloc o) a b c d
  rw [World.size_alloc] at h
  exact h

theorem enters59 : ∀ args w, (callFunc 59 args).run Try.prog w = .ok (.enter 59 args) w := enters_of Try.func59 (by kernel_rfl) rfl

set_option maxHeartbeats 6400000 in
theorem spWithoutC (v : Value) (out : List Sp) (x y : Int) (s : Sp) (P Q : Nat) (w0 w : World) (h : Ow w w0.heap.size v out) (hb0 : Below w0.heap.size w0 w) (hn : out.length ≤ 4398046511104) (hPB : P < w0.heap.size) (hQB : Q < w0.heap.size)
    (hP : Blk w P 31 [.int .i64 (sub1 s.1).1, .int .i64 (sub1 s.1).2]) (hQ : Blk w Q 31 [.int .i64 (add1 s.2).1, .int .i64 (add1 s.2).2]) :
    Calls Try.prog 59 #[v, .agg #[.int .i64 x, .int .i64 y], .pointer (some ⟨P, 0, none⟩), .pointer (some ⟨Q, 0, none⟩)] w fun e w' => ∃ v', e = .returned v' ∧ Ow w' w0.heap.size v' (wStep s out (x, y)) ∧ Below w0.heap.size w0 w' := by
  have hF : Hid (wStep s out (x, y) = out ++ [meetL [(x, y), sub1 s.1], meetL [(x, y), add1 s.2]]) := rfl
  have HE1 : Hid (∀ A c W, Sps W A 2 [(x, y), sub1 s.1] → Calls Try.prog 28 #[.slice A 2 c] W fun e w' => e = .returned (.agg #[.int .i64 (meetL [(x, y), sub1 s.1]).1, .int .i64 (meetL [(x, y), sub1 s.1]).2]) ∧ Below W.heap.size W w') := fun A c W h => spMeet A 2 c _ W h (by omega)
  have HE2 : Hid (∀ A c W, Sps W A 2 [(x, y), add1 s.2] → Calls Try.prog 28 #[.slice A 2 c] W fun e w' => e = .returned (.agg #[.int .i64 (meetL [(x, y), add1 s.2]).1, .int .i64 (meetL [(x, y), add1 s.2]).2]) ∧ Below W.heap.size W w') := fun A c W h => spMeet A 2 c _ W h (by omega)
  generalize sub1 s.1 = ea at *
  generalize add1 s.2 = la at *
  obtain ⟨e1, e2⟩ := ea
  obtain ⟨l1, l2⟩ := la
  dsimp only at hP hQ
  generalize meetL [(x, y), (e1, e2)] = ma at *
  generalize meetL [(x, y), (l1, l2)] = mb at *
  obtain ⟨a1, a2⟩ := ma
  obtain ⟨b1, b2⟩ := mb
  dsimp only at HE1 HE2
  obtain ⟨i1, hi1, hz0, hz1, hz2⟩ := info_parts sp_info
  have hPl := hP.lt
  have hQl := hQ.lt
  obtain ⟨W1, hW1⟩ : ∃ W1, w.alloc (.cells #[.int .i64 x, .int .i64 y] 31) = W1 := ⟨_, rfl⟩
  have ST : Hid (∀ W, Below W1.heap.size W1 W → ((W.cell? ⟨w.heap.size, 0, none⟩ = some (.int .i64 x) ∧ W.cell? ⟨w.heap.size, 1, none⟩ = some (.int .i64 y)) ∧ (W.cell? ⟨P, 0, none⟩ = some (.int .i64 e1) ∧ W.cell? ⟨P, 1, none⟩ = some (.int .i64 e2)) ∧ (W.cell? ⟨Q, 0, none⟩ = some (.int .i64 l1) ∧ W.cell? ⟨Q, 1, none⟩ = some (.int .i64 l2)))) := by
    intro W hW
    subst hW1
    exact ⟨((Blk.fst w (.int .i64 x) (.int .i64 y) _).below hW).two.1, ((hP.alloc _).below hW).two.1, ((hQ.alloc _).below hW).two.1⟩
  have OUTS : Hid (∀ W, Below W1.heap.size W1 W → Ow W w0.heap.size v out ∧ Below w0.heap.size w0 W) := by
    intro W hW
    subst hW1
    exact ⟨(h.alloc _).below hW, bstep (hb0.alloc hb0.size _) hW (hb0.alloc hb0.size (.cells #[.int .i64 x, .int .i64 y] 31)).size⟩
  have KP : Hid (∀ W W6, Below W1.heap.size W1 W → W.grownBy W6 v.ownBlock → ((W6.cell? ⟨w.heap.size, 0, none⟩ = some (.int .i64 x) ∧ W6.cell? ⟨w.heap.size, 1, none⟩ = some (.int .i64 y)) ∧ (W6.cell? ⟨P, 0, none⟩ = some (.int .i64 e1) ∧ W6.cell? ⟨P, 1, none⟩ = some (.int .i64 e2)) ∧ (W6.cell? ⟨Q, 0, none⟩ = some (.int .i64 l1) ∧ W6.cell? ⟨Q, 1, none⟩ = some (.int .i64 l2)))) := by
    intro W W6 hW hg
    subst hW1
    have k0 := (Blk.fst w (.int .i64 x) (.int .i64 y) 31).below hW
    have k1 := (hP.alloc (.cells #[.int .i64 x, .int .i64 y] 31)).below hW
    have k2 := (hQ.alloc (.cells #[.int .i64 x, .int .i64 y] 31)).below hW
    have hlt := World.ownsRow.lt h
    have m0 : some w.heap.size ≠ v.ownBlock := fun e => by have := (hlt _ e.symm).2; omega
    have m1 : some P ≠ v.ownBlock := fun e => by have := (hlt _ e.symm).1; omega
    have m2 : some Q ≠ v.ownBlock := fun e => by have := (hlt _ e.symm).1; omega
    exact ⟨(Blk.two (w := W6) ((hg.block _ k0.lt m0).trans k0)).1, (Blk.two (w := W6) ((hg.block _ k1.lt m1).trans k1)).1, (Blk.two (w := W6) ((hg.block _ k2.lt m2).trans k2)).1⟩
  obtain ⟨A, c, rfl, _, _⟩ := h.sps
  clear h hb0 hP hQ hPB hQB
  go_enter Try.func59, Try.ntmps59
  go_upto_region 1 with (fail)
  clear hW1 hPl hQl
  refine wp_region_held_drew (S := fun W => ((W.cell? ⟨w.heap.size, 0, none⟩ = some (.int .i64 x) ∧ W.cell? ⟨w.heap.size, 1, none⟩ = some (.int .i64 y)) ∧ (W.cell? ⟨P, 0, none⟩ = some (.int .i64 e1) ∧ W.cell? ⟨P, 1, none⟩ = some (.int .i64 e2)) ∧ (W.cell? ⟨Q, 0, none⟩ = some (.int .i64 l1) ∧ W.cell? ⟨Q, 1, none⟩ = some (.int .i64 l2)))) (by kernel_rfl) ?hb0 (fun hHeld => ?_)
  case hb0 => (try dsimp only); exact ST.out _ (Below.drew (Below.refl _ _))
  refine wpAnyH_take (i := 0) (v := ?qv0) rfl (by kernel_rfl) (by kernel_rfl) (by kernel_rfl) (fun _ _ _ h => h) (Or.inl ⟨by kernel_rfl, ?qy0⟩) (by assumption) ?_
  case qy0 => (intro w hSw; (try dsimp only at hSw); go_simp) <;> (try with_reducible rfl)
  try simp only [Act.put, List.setIfInBounds_toArray, List.set_cons_zero, List.set_cons_succ, List.getElem_toArray, List.getElem_cons_succ, List.getElem_cons_zero]
  refine wpAnyH_take (i := 1) (v := ?qv1) rfl (by kernel_rfl) (by kernel_rfl) (by kernel_rfl) (fun _ _ _ h => h) (Or.inl ⟨by kernel_rfl, ?qy1⟩) (by assumption) ?_
  case qy1 => (intro w hSw; (try dsimp only at hSw); go_simp) <;> (try with_reducible rfl)
  try simp only [Act.put, List.setIfInBounds_toArray, List.set_cons_zero, List.set_cons_succ, List.getElem_toArray, List.getElem_cons_succ, List.getElem_cons_zero]
  refine wpAnyH_take (i := 2) (v := ?qv2) rfl (by kernel_rfl) (by kernel_rfl) (by kernel_rfl) (fun _ _ _ h => h) (Or.inl ⟨by kernel_rfl, ?qy2⟩) (by assumption) ?_
  case qy2 => (intro w hSw; (try dsimp only at hSw); go_simp) <;> (try with_reducible rfl)
  try simp only [Act.put, List.setIfInBounds_toArray, List.set_cons_zero, List.set_cons_succ, List.getElem_toArray, List.getElem_cons_succ, List.getElem_cons_zero]
  refine wpAnyH_take (i := 5) (v := ?qv5) rfl (by kernel_rfl) (by kernel_rfl) (by kernel_rfl) (fun _ _ _ h => h) (Or.inl ⟨by kernel_rfl, ?qy5⟩) (by assumption) ?_
  case qy5 => (intro w hSw; (try dsimp only at hSw); go_simp) <;> (try with_reducible rfl)
  try simp only [Act.put, List.setIfInBounds_toArray, List.set_cons_zero, List.set_cons_succ, List.getElem_toArray, List.getElem_cons_succ, List.getElem_cons_zero]
  refine wpAnyH_take (i := 6) (v := ?qv6) rfl (by kernel_rfl) (by kernel_rfl) (by kernel_rfl) (fun _ _ _ h => h) (Or.inl ⟨by kernel_rfl, ?qy6⟩) (by assumption) ?_
  case qy6 => (intro w hSw; (try dsimp only at hSw); go_simp) <;> (try with_reducible rfl)
  try simp only [Act.put, List.setIfInBounds_toArray, List.set_cons_zero, List.set_cons_succ, List.getElem_toArray, List.getElem_cons_succ, List.getElem_cons_zero]
  refine wpAnyH_ready (rs := [3, 7]) (by kernel_rfl) (by simp) ?_
  refine AllReadyH.cons rfl (fun K hK => ?_) (AllReadyH.cons rfl (fun K hK => ?_) (AllReadyH.nil))
  · go_simp
    refine hK.out _ _ ?hs3a (fun hHeld => ?_)
    case hs3a => (try dsimp only); exact ST.out _ (Below.drew (below_alloc1 W1 (.cells #[.int .i64 x, .int .i64 y, .int .i64 e1, .int .i64 e2] 31)))
    clear hK K
    try simp only [Act.put, List.setIfInBounds_toArray, List.set_cons_zero, List.set_cons_succ, List.getElem_toArray, List.getElem_cons_succ, List.getElem_cons_zero]
    refine wpAnyH_ready (rs := [4, 7]) (by kernel_rfl) (by simp) ?_
    refine AllReadyH.cons rfl (fun K hK => ?_) (AllReadyH.cons rfl (fun K hK => ?_) (AllReadyH.nil))
    · go_simp
      refine (HE1.out (some ⟨W1.heap.size, 0, none⟩) 2 (World.drew (W1.alloc (.cells #[.int .i64 x, .int .i64 y, .int .i64 e1, .int .i64 e2] 31))) (sps_new2 W1 x y e1 e2)).mono ?_
      rintro e w4 ⟨rfl, hy⟩
      have Zw4 := Lib.hid (bstep (Below.drew (below_alloc1 W1 (.cells #[.int .i64 x, .int .i64 y, .int .i64 e1, .int .i64 e2] 31))) hy (Below.size (Below.drew (below_alloc1 W1 (.cells #[.int .i64 x, .int .i64 y, .int .i64 e1, .int .i64 e2] 31)))))
      clear hy
      go_wp2_with fail
      refine hK.out _ _ ?hs4w3a (fun hHeld => ?_)
      case hs4w3a => (try dsimp only); exact ST.out _ (Zw4.out)
      clear hK K
      try simp only [Act.put, List.setIfInBounds_toArray, List.set_cons_zero, List.set_cons_succ, List.getElem_toArray, List.getElem_cons_succ, List.getElem_cons_zero]
      refine wpAnyH_ready (rs := [7]) (by kernel_rfl) (by simp) ?_
      refine AllReadyH.cons rfl (fun K hK => ?_) AllReadyH.nil
      go_simp
      refine hK.out _ _ ?hs7w3w4a (fun hHeld => ?_)
      case hs7w3w4a => (try dsimp only); exact ST.out _ (Zw4.out.alloc Zw4.out.size (.cells #[.int .i64 x, .int .i64 y, .int .i64 l1, .int .i64 l2] 31))
      clear hK K
      try simp only [Act.put, List.setIfInBounds_toArray, List.set_cons_zero, List.set_cons_succ, List.getElem_toArray, List.getElem_cons_succ, List.getElem_cons_zero]
      refine wpAnyH_ready (rs := [8]) (by kernel_rfl) (by simp) ?_
      refine AllReadyH.cons rfl (fun K hK => ?_) AllReadyH.nil
      go_simp
      refine (HE2.out (some ⟨w4.heap.size, 0, none⟩) 2 (w4.alloc (.cells #[.int .i64 x, .int .i64 y, .int .i64 l1, .int .i64 l2] 31)) (sps_new2 w4 x y l1 l2)).mono ?_
      rintro e w5 ⟨rfl, hy⟩
      have Zw5 := Lib.hid (bstep (Zw4.out.alloc Zw4.out.size (.cells #[.int .i64 x, .int .i64 y, .int .i64 l1, .int .i64 l2] 31)) hy (Below.size (Zw4.out.alloc Zw4.out.size (.cells #[.int .i64 x, .int .i64 y, .int .i64 l1, .int .i64 l2] 31))))
      clear hy
      go_wp2_with fail
      refine hK.out _ _ ?hs8w3w4a (fun hHeld => ?_)
      case hs8w3w4a => (try dsimp only); exact ST.out _ (Zw5.out)
      clear hK K
      try simp only [Act.put, List.setIfInBounds_toArray, List.set_cons_zero, List.set_cons_succ, List.getElem_toArray, List.getElem_cons_succ, List.getElem_cons_zero]
      refine wpAnyH_ready (rs := [9]) (by kernel_rfl) (by simp) ?_
      refine AllReadyH.cons rfl (fun K hK => ?_) AllReadyH.nil
      go_simp
      refine hK.out _ _ ?hs9w3w4a (fun hHeld => ?_)
      case hs9w3w4a => (try dsimp only); exact ST.out _ (Zw5.out.alloc Zw5.out.size (.cells #[.int .i64 a1, .int .i64 a2, .int .i64 b1, .int .i64 b2] 31))
      clear hK K
      try simp only [Act.put, List.setIfInBounds_toArray, List.set_cons_zero, List.set_cons_succ, List.getElem_toArray, List.getElem_cons_succ, List.getElem_cons_zero]
      have O9 := Lib.hid (OUTS.out _ (Zw5.out.alloc Zw5.out.size (.cells #[.int .i64 a1, .int .i64 a2, .int .i64 b1, .int .i64 b2] 31))).1
      have B9 := Lib.hid (OUTS.out _ (Zw5.out.alloc Zw5.out.size (.cells #[.int .i64 a1, .int .i64 a2, .int .i64 b1, .int .i64 b2] 31))).2
      have HNW : Hid (∀ j u, (spCs [(a1, a2), (b1, b2)])[j]? = some u → (w5.alloc (.cells #[.int .i64 a1, .int .i64 a2, .int .i64 b1, .int .i64 b2] 31)).cell? ((⟨w5.heap.size, 0, none⟩ : Addr).add j) = some u) := by
        intro j u hu
        have hk : Blk (w5.alloc (.cells #[.int .i64 a1, .int .i64 a2, .int .i64 b1, .int .i64 b2] 31)) w5.heap.size 31 (spCs [(a1, a2), (b1, b2)]) := Blk.new _ _ _
        rw [Addr.add_none, Nat.zero_add, hk.cell]
        exact hu
      refine wpAnyH_ready (rs := [10]) (by kernel_rfl) (by simp) ?_
      refine AllReadyH.cons rfl (fun K hK => ?_) AllReadyH.nil
      refine step_appendF rfl _ _ 45 rfl w0.heap.size 31 i1 (.agg #[.int .i64 0, .int .i64 0]) 2 16 Try.underlying45 hi1 hz0 hz1 hz2 rfl (by omega) _ _ _ rfl O9.out ⟨w5.heap.size, 0, none⟩ 2 2 (spCs [(a1, a2), (b1, b2)]) rfl rfl HNW.out (spC_one _) (by unfold maxLen; omega) (by omega) B9.out.size ?_
      intro v' w6 hrow hgrow hvv
      have O6 : Hid (Ow w6 w0.heap.size v' (out ++ [(a1, a2), (b1, b2)])) := by
        unfold Hid Ow
        rw [spCs_append, List.length_append]
        exact hrow
      have B6 := Lib.hid (B9.out.grown hgrow B9.out.size (fun k hk => (World.ownsRow.lt O9.out k hk).1))
      refine hK.out _ _ ?hs10w3w4a (fun hHeld => ?_)
      case hs10w3w4a => (try dsimp only); exact KP.out _ _ (Zw5.out.alloc Zw5.out.size (.cells #[.int .i64 a1, .int .i64 a2, .int .i64 b1, .int .i64 b2] 31)) hgrow
      clear hK K
      try simp only [Act.put, List.setIfInBounds_toArray, List.set_cons_zero, List.set_cons_succ, List.getElem_toArray, List.getElem_cons_succ, List.getElem_cons_zero]
      refine wpAnyH_take (i := 11) (v := ?qv11w3w4) rfl (by kernel_rfl) (by kernel_rfl) (by kernel_rfl) (fun _ _ _ h => h) (Or.inl ⟨by kernel_rfl, ?qy11w3w4⟩) (by assumption) ?_
      case qy11w3w4 => (intro w hSw; (try dsimp only at hSw); go_simp) <;> (try with_reducible rfl)
      try simp only [Act.put, List.setIfInBounds_toArray, List.set_cons_zero, List.set_cons_succ, List.getElem_toArray, List.getElem_cons_succ, List.getElem_cons_zero]
      refine wpAnyH_done (by kernel_rfl) ?_ _
      clear hHeld
      go_wp2
      go_ret
      exact ⟨_, rfl, by rw [hF.out]; exact O6.out, B6.out⟩
    · go_simp
      refine hK.out _ _ ?hs7w3a (fun hHeld => ?_)
      case hs7w3a => (try dsimp only); exact ST.out _ (Below.drew (below_alloc2 W1 (.cells #[.int .i64 x, .int .i64 y, .int .i64 e1, .int .i64 e2] 31) (.cells #[.int .i64 x, .int .i64 y, .int .i64 l1, .int .i64 l2] 31)))
      clear hK K
      try simp only [Act.put, List.setIfInBounds_toArray, List.set_cons_zero, List.set_cons_succ, List.getElem_toArray, List.getElem_cons_succ, List.getElem_cons_zero]
      refine wpAnyH_ready (rs := [4]) (by kernel_rfl) (by simp) ?_
      refine AllReadyH.cons rfl (fun K hK => ?_) AllReadyH.nil
      go_simp
      refine (HE1.out (some ⟨W1.heap.size, 0, none⟩) 2 (World.drew ((W1.alloc (.cells #[.int .i64 x, .int .i64 y, .int .i64 e1, .int .i64 e2] 31)).alloc (.cells #[.int .i64 x, .int .i64 y, .int .i64 l1, .int .i64 l2] 31))) (sps_fst2 W1 x y e1 e2 (.cells #[.int .i64 x, .int .i64 y, .int .i64 l1, .int .i64 l2] 31))).mono ?_
      rintro e w4 ⟨rfl, hy⟩
      have SB := Lib.hid (Sps.below (w := World.drew ((W1.alloc (.cells #[.int .i64 x, .int .i64 y, .int .i64 e1, .int .i64 e2] 31)).alloc (.cells #[.int .i64 x, .int .i64 y, .int .i64 l1, .int .i64 l2] 31))) (sps_snd2 W1 x y l1 l2 (.cells #[.int .i64 x, .int .i64 y, .int .i64 e1, .int .i64 e2] 31)) hy)
      have Zw4 := Lib.hid (bstep (Below.drew (below_alloc2 W1 (.cells #[.int .i64 x, .int .i64 y, .int .i64 e1, .int .i64 e2] 31) (.cells #[.int .i64 x, .int .i64 y, .int .i64 l1, .int .i64 l2] 31))) hy (Below.size (Below.drew (below_alloc2 W1 (.cells #[.int .i64 x, .int .i64 y, .int .i64 e1, .int .i64 e2] 31) (.cells #[.int .i64 x, .int .i64 y, .int .i64 l1, .int .i64 l2] 31)))))
      clear hy
      go_wp2_with fail
      refine hK.out _ _ ?hs4w3w7a (fun hHeld => ?_)
      case hs4w3w7a => (try dsimp only); exact ST.out _ (Zw4.out)
      clear hK K
      try simp only [Act.put, List.setIfInBounds_toArray, List.set_cons_zero, List.set_cons_succ, List.getElem_toArray, List.getElem_cons_succ, List.getElem_cons_zero]
      refine wpAnyH_ready (rs := [8]) (by kernel_rfl) (by simp) ?_
      refine AllReadyH.cons rfl (fun K hK => ?_) AllReadyH.nil
      go_simp
      refine (HE2.out (some ⟨W1.heap.size + 1, 0, none⟩) 2 (w4) (SB.out)).mono ?_
      rintro e w5 ⟨rfl, hy⟩
      have Zw5 := Lib.hid (bstep (Zw4.out) hy (Below.size (Zw4.out)))
      clear hy
      go_wp2_with fail
      refine hK.out _ _ ?hs8w3w7a (fun hHeld => ?_)
      case hs8w3w7a => (try dsimp only); exact ST.out _ (Zw5.out)
      clear hK K
      try simp only [Act.put, List.setIfInBounds_toArray, List.set_cons_zero, List.set_cons_succ, List.getElem_toArray, List.getElem_cons_succ, List.getElem_cons_zero]
      refine wpAnyH_ready (rs := [9]) (by kernel_rfl) (by simp) ?_
      refine AllReadyH.cons rfl (fun K hK => ?_) AllReadyH.nil
      go_simp
      refine hK.out _ _ ?hs9w3w7a (fun hHeld => ?_)
      case hs9w3w7a => (try dsimp only); exact ST.out _ (Zw5.out.alloc Zw5.out.size (.cells #[.int .i64 a1, .int .i64 a2, .int .i64 b1, .int .i64 b2] 31))
      clear hK K
      try simp only [Act.put, List.setIfInBounds_toArray, List.set_cons_zero, List.set_cons_succ, List.getElem_toArray, List.getElem_cons_succ, List.getElem_cons_zero]
      have O9 := Lib.hid (OUTS.out _ (Zw5.out.alloc Zw5.out.size (.cells #[.int .i64 a1, .int .i64 a2, .int .i64 b1, .int .i64 b2] 31))).1
      have B9 := Lib.hid (OUTS.out _ (Zw5.out.alloc Zw5.out.size (.cells #[.int .i64 a1, .int .i64 a2, .int .i64 b1, .int .i64 b2] 31))).2
      have HNW : Hid (∀ j u, (spCs [(a1, a2), (b1, b2)])[j]? = some u → (w5.alloc (.cells #[.int .i64 a1, .int .i64 a2, .int .i64 b1, .int .i64 b2] 31)).cell? ((⟨w5.heap.size, 0, none⟩ : Addr).add j) = some u) := by
        intro j u hu
        have hk : Blk (w5.alloc (.cells #[.int .i64 a1, .int .i64 a2, .int .i64 b1, .int .i64 b2] 31)) w5.heap.size 31 (spCs [(a1, a2), (b1, b2)]) := Blk.new _ _ _
        rw [Addr.add_none, Nat.zero_add, hk.cell]
        exact hu
      refine wpAnyH_ready (rs := [10]) (by kernel_rfl) (by simp) ?_
      refine AllReadyH.cons rfl (fun K hK => ?_) AllReadyH.nil
      refine step_appendF rfl _ _ 45 rfl w0.heap.size 31 i1 (.agg #[.int .i64 0, .int .i64 0]) 2 16 Try.underlying45 hi1 hz0 hz1 hz2 rfl (by omega) _ _ _ rfl O9.out ⟨w5.heap.size, 0, none⟩ 2 2 (spCs [(a1, a2), (b1, b2)]) rfl rfl HNW.out (spC_one _) (by unfold maxLen; omega) (by omega) B9.out.size ?_
      intro v' w6 hrow hgrow hvv
      have O6 : Hid (Ow w6 w0.heap.size v' (out ++ [(a1, a2), (b1, b2)])) := by
        unfold Hid Ow
        rw [spCs_append, List.length_append]
        exact hrow
      have B6 := Lib.hid (B9.out.grown hgrow B9.out.size (fun k hk => (World.ownsRow.lt O9.out k hk).1))
      refine hK.out _ _ ?hs10w3w7a (fun hHeld => ?_)
      case hs10w3w7a => (try dsimp only); exact KP.out _ _ (Zw5.out.alloc Zw5.out.size (.cells #[.int .i64 a1, .int .i64 a2, .int .i64 b1, .int .i64 b2] 31)) hgrow
      clear hK K
      try simp only [Act.put, List.setIfInBounds_toArray, List.set_cons_zero, List.set_cons_succ, List.getElem_toArray, List.getElem_cons_succ, List.getElem_cons_zero]
      refine wpAnyH_take (i := 11) (v := ?qv11w3w7) rfl (by kernel_rfl) (by kernel_rfl) (by kernel_rfl) (fun _ _ _ h => h) (Or.inl ⟨by kernel_rfl, ?qy11w3w7⟩) (by assumption) ?_
      case qy11w3w7 => (intro w hSw; (try dsimp only at hSw); go_simp) <;> (try with_reducible rfl)
      try simp only [Act.put, List.setIfInBounds_toArray, List.set_cons_zero, List.set_cons_succ, List.getElem_toArray, List.getElem_cons_succ, List.getElem_cons_zero]
      refine wpAnyH_done (by kernel_rfl) ?_ _
      clear hHeld
      go_wp2
      go_ret
      exact ⟨_, rfl, by rw [hF.out]; exact O6.out, B6.out⟩
  · go_simp
    refine hK.out _ _ ?hs7a (fun hHeld => ?_)
    case hs7a => (try dsimp only); exact ST.out _ (Below.drew (below_alloc1 W1 (.cells #[.int .i64 x, .int .i64 y, .int .i64 l1, .int .i64 l2] 31)))
    clear hK K
    try simp only [Act.put, List.setIfInBounds_toArray, List.set_cons_zero, List.set_cons_succ, List.getElem_toArray, List.getElem_cons_succ, List.getElem_cons_zero]
    refine wpAnyH_ready (rs := [3]) (by kernel_rfl) (by simp) ?_
    refine AllReadyH.cons rfl (fun K hK => ?_) AllReadyH.nil
    go_simp
    refine hK.out _ _ ?hs3w7a (fun hHeld => ?_)
    case hs3w7a => (try dsimp only); exact ST.out _ (Below.drew (below_alloc2 W1 (.cells #[.int .i64 x, .int .i64 y, .int .i64 l1, .int .i64 l2] 31) (.cells #[.int .i64 x, .int .i64 y, .int .i64 e1, .int .i64 e2] 31)))
    clear hK K
    try simp only [Act.put, List.setIfInBounds_toArray, List.set_cons_zero, List.set_cons_succ, List.getElem_toArray, List.getElem_cons_succ, List.getElem_cons_zero]
    refine wpAnyH_ready (rs := [4]) (by kernel_rfl) (by simp) ?_
    refine AllReadyH.cons rfl (fun K hK => ?_) AllReadyH.nil
    go_simp
    refine (HE1.out (some ⟨W1.heap.size + 1, 0, none⟩) 2 (World.drew ((W1.alloc (.cells #[.int .i64 x, .int .i64 y, .int .i64 l1, .int .i64 l2] 31)).alloc (.cells #[.int .i64 x, .int .i64 y, .int .i64 e1, .int .i64 e2] 31))) (sps_snd2 W1 x y e1 e2 (.cells #[.int .i64 x, .int .i64 y, .int .i64 l1, .int .i64 l2] 31))).mono ?_
    rintro e w4 ⟨rfl, hy⟩
    have SB := Lib.hid (Sps.below (w := World.drew ((W1.alloc (.cells #[.int .i64 x, .int .i64 y, .int .i64 l1, .int .i64 l2] 31)).alloc (.cells #[.int .i64 x, .int .i64 y, .int .i64 e1, .int .i64 e2] 31))) (sps_fst2 W1 x y l1 l2 (.cells #[.int .i64 x, .int .i64 y, .int .i64 e1, .int .i64 e2] 31)) hy)
    have Zw4 := Lib.hid (bstep (Below.drew (below_alloc2 W1 (.cells #[.int .i64 x, .int .i64 y, .int .i64 l1, .int .i64 l2] 31) (.cells #[.int .i64 x, .int .i64 y, .int .i64 e1, .int .i64 e2] 31))) hy (Below.size (Below.drew (below_alloc2 W1 (.cells #[.int .i64 x, .int .i64 y, .int .i64 l1, .int .i64 l2] 31) (.cells #[.int .i64 x, .int .i64 y, .int .i64 e1, .int .i64 e2] 31)))))
    clear hy
    go_wp2_with fail
    refine hK.out _ _ ?hs4w7a (fun hHeld => ?_)
    case hs4w7a => (try dsimp only); exact ST.out _ (Zw4.out)
    clear hK K
    try simp only [Act.put, List.setIfInBounds_toArray, List.set_cons_zero, List.set_cons_succ, List.getElem_toArray, List.getElem_cons_succ, List.getElem_cons_zero]
    refine wpAnyH_ready (rs := [8]) (by kernel_rfl) (by simp) ?_
    refine AllReadyH.cons rfl (fun K hK => ?_) AllReadyH.nil
    go_simp
    refine (HE2.out (some ⟨W1.heap.size, 0, none⟩) 2 (w4) (SB.out)).mono ?_
    rintro e w5 ⟨rfl, hy⟩
    have Zw5 := Lib.hid (bstep (Zw4.out) hy (Below.size (Zw4.out)))
    clear hy
    go_wp2_with fail
    refine hK.out _ _ ?hs8w7a (fun hHeld => ?_)
    case hs8w7a => (try dsimp only); exact ST.out _ (Zw5.out)
    clear hK K
    try simp only [Act.put, List.setIfInBounds_toArray, List.set_cons_zero, List.set_cons_succ, List.getElem_toArray, List.getElem_cons_succ, List.getElem_cons_zero]
    refine wpAnyH_ready (rs := [9]) (by kernel_rfl) (by simp) ?_
    refine AllReadyH.cons rfl (fun K hK => ?_) AllReadyH.nil
    go_simp
    refine hK.out _ _ ?hs9w7a (fun hHeld => ?_)
    case hs9w7a => (try dsimp only); exact ST.out _ (Zw5.out.alloc Zw5.out.size (.cells #[.int .i64 a1, .int .i64 a2, .int .i64 b1, .int .i64 b2] 31))
    clear hK K
    try simp only [Act.put, List.setIfInBounds_toArray, List.set_cons_zero, List.set_cons_succ, List.getElem_toArray, List.getElem_cons_succ, List.getElem_cons_zero]
    have O9 := Lib.hid (OUTS.out _ (Zw5.out.alloc Zw5.out.size (.cells #[.int .i64 a1, .int .i64 a2, .int .i64 b1, .int .i64 b2] 31))).1
    have B9 := Lib.hid (OUTS.out _ (Zw5.out.alloc Zw5.out.size (.cells #[.int .i64 a1, .int .i64 a2, .int .i64 b1, .int .i64 b2] 31))).2
    have HNW : Hid (∀ j u, (spCs [(a1, a2), (b1, b2)])[j]? = some u → (w5.alloc (.cells #[.int .i64 a1, .int .i64 a2, .int .i64 b1, .int .i64 b2] 31)).cell? ((⟨w5.heap.size, 0, none⟩ : Addr).add j) = some u) := by
      intro j u hu
      have hk : Blk (w5.alloc (.cells #[.int .i64 a1, .int .i64 a2, .int .i64 b1, .int .i64 b2] 31)) w5.heap.size 31 (spCs [(a1, a2), (b1, b2)]) := Blk.new _ _ _
      rw [Addr.add_none, Nat.zero_add, hk.cell]
      exact hu
    refine wpAnyH_ready (rs := [10]) (by kernel_rfl) (by simp) ?_
    refine AllReadyH.cons rfl (fun K hK => ?_) AllReadyH.nil
    refine step_appendF rfl _ _ 45 rfl w0.heap.size 31 i1 (.agg #[.int .i64 0, .int .i64 0]) 2 16 Try.underlying45 hi1 hz0 hz1 hz2 rfl (by omega) _ _ _ rfl O9.out ⟨w5.heap.size, 0, none⟩ 2 2 (spCs [(a1, a2), (b1, b2)]) rfl rfl HNW.out (spC_one _) (by unfold maxLen; omega) (by omega) B9.out.size ?_
    intro v' w6 hrow hgrow hvv
    have O6 : Hid (Ow w6 w0.heap.size v' (out ++ [(a1, a2), (b1, b2)])) := by
      unfold Hid Ow
      rw [spCs_append, List.length_append]
      exact hrow
    have B6 := Lib.hid (B9.out.grown hgrow B9.out.size (fun k hk => (World.ownsRow.lt O9.out k hk).1))
    refine hK.out _ _ ?hs10w7a (fun hHeld => ?_)
    case hs10w7a => (try dsimp only); exact KP.out _ _ (Zw5.out.alloc Zw5.out.size (.cells #[.int .i64 a1, .int .i64 a2, .int .i64 b1, .int .i64 b2] 31)) hgrow
    clear hK K
    try simp only [Act.put, List.setIfInBounds_toArray, List.set_cons_zero, List.set_cons_succ, List.getElem_toArray, List.getElem_cons_succ, List.getElem_cons_zero]
    refine wpAnyH_take (i := 11) (v := ?qv11w7) rfl (by kernel_rfl) (by kernel_rfl) (by kernel_rfl) (fun _ _ _ h => h) (Or.inl ⟨by kernel_rfl, ?qy11w7⟩) (by assumption) ?_
    case qy11w7 => (intro w hSw; (try dsimp only at hSw); go_simp) <;> (try with_reducible rfl)
    try simp only [Act.put, List.setIfInBounds_toArray, List.set_cons_zero, List.set_cons_succ, List.getElem_toArray, List.getElem_cons_succ, List.getElem_cons_zero]
    refine wpAnyH_done (by kernel_rfl) ?_ _
    clear hHeld
    go_wp2
    go_ret
    exact ⟨_, rfl, by rw [hF.out]; exact O6.out, B6.out⟩

theorem wList_len (l : List Sp) (s : Sp) : (wList l s).length = 2 * l.length := by
  rw [wList_eq]
  induction l with
  | nil => rfl
  | cons x l ih => simp at *; omega
theorem wFold_len (s : Sp) (l : List Sp) : (l.foldl (wStep s) []).length = 2 * l.length := wList_len l s

set_option maxHeartbeats 12800000 in
theorem spWithout (A : Option Addr) (n c : Nat) (l : List Sp) (x y : Int) (w : World) (h : Sps w A n l) (h64 : ∀ s ∈ l, I64s s) (hx : I64 x) (hy : I64 y) (hn : n ≤ 549755813888) :
    Calls Try.prog 38 #[.slice A n c, .agg #[.int .i64 x, .int .i64 y]] w fun e w' => ∃ v r, e = .returned v ∧ IsNorm (wList l (x, y)) r ∧ Ow w' w.heap.size v r ∧ Below w.heap.size w w' := by
  have KBf := Lib.hid (fun W => spBefore x W hx)
  have KAf := Lib.hid (fun W => spAfter y W hy)
  have KB := Lib.hid (Late.fst w (.int .i64 x) (.int .i64 y) 31)
  have HX := Lib.hid hx
  have HY := Lib.hid hy
  have HS := Lib.hid h
  have H64 := Lib.hid h64
  clear h h64 hx hy
  obtain ⟨W1, hW1⟩ : ∃ W1, w.alloc (.cells #[.int .i64 x, .int .i64 y] 31) = W1 := ⟨_, rfl⟩
  rw [hW1] at KB
  obtain ⟨⟨e1, e2⟩, he⟩ : ∃ q, sub1 x = q := ⟨_, rfl⟩
  obtain ⟨⟨l1, l2⟩, hl⟩ : ∃ q, add1 y = q := ⟨_, rfl⟩
  have HE := Lib.hid he
  have HLA := Lib.hid hl
  rw [he] at KBf
  rw [hl] at KAf
  dsimp only at KBf KAf
  clear he hl
  go_enter Try.func38, Try.ntmps38
  go_upto_region 1 with (fail)
  clear hW1
  go_cut [5, 6] from 7 (fun p5 p6 wc => ∃ P Q, p5 = .pointer (some ⟨P, 0, none⟩) ∧ p6 = .pointer (some ⟨Q, 0, none⟩) ∧ Late w wc P 31 (.int .i64 e1) (.int .i64 e2) ∧ Late w wc Q 31 (.int .i64 l1) (.int .i64 l2))
  case first =>
    refine wp_region_held_drew (S := fun W => (W.cell? ⟨w.heap.size, 0, none⟩ = some (.int .i64 x) ∧ W.cell? ⟨w.heap.size, 1, none⟩ = some (.int .i64 y)) ∧ w.heap.size ≤ W.heap.size) (by kernel_rfl) ?hb0 (fun hHeld => ?_)
    case hb0 => (try dsimp only); exact ⟨(Late.blk (Late.drew KB.out)).two.1, (Late.bel (Late.drew KB.out)).size⟩
    refine wpAnyH_take (i := 0) (v := ?qv0) rfl (by kernel_rfl) (by kernel_rfl) (by kernel_rfl) (fun _ _ _ h => h) (Or.inl ⟨by kernel_rfl, ?qy0⟩) (by assumption) ?_
    case qy0 => (intro w hSw; (try dsimp only at hSw); go_simp) <;> (try with_reducible rfl)
    try simp only [Act.put, List.setIfInBounds_toArray, List.set_cons_zero, List.set_cons_succ, List.getElem_toArray, List.getElem_cons_succ, List.getElem_cons_zero]
    refine wpAnyH_take (i := 1) (v := ?qv1) rfl (by kernel_rfl) (by kernel_rfl) (by kernel_rfl) (fun _ _ _ h => h) (Or.inl ⟨by kernel_rfl, ?qy1⟩) (by assumption) ?_
    case qy1 => (intro w hSw; (try dsimp only at hSw); go_simp) <;> (try with_reducible rfl)
    try simp only [Act.put, List.setIfInBounds_toArray, List.set_cons_zero, List.set_cons_succ, List.getElem_toArray, List.getElem_cons_succ, List.getElem_cons_zero]
    refine wpAnyH_take (i := 3) (v := ?qv3) rfl (by kernel_rfl) (by kernel_rfl) (by kernel_rfl) (fun _ _ _ h => h) (Or.inl ⟨by kernel_rfl, ?qy3⟩) (by assumption) ?_
    case qy3 => (intro w hSw; (try dsimp only at hSw); go_simp) <;> (try with_reducible rfl)
    try simp only [Act.put, List.setIfInBounds_toArray, List.set_cons_zero, List.set_cons_succ, List.getElem_toArray, List.getElem_cons_succ, List.getElem_cons_zero]
    refine wpAnyH_take (i := 4) (v := ?qv4) rfl (by kernel_rfl) (by kernel_rfl) (by kernel_rfl) (fun _ _ _ h => h) (Or.inl ⟨by kernel_rfl, ?qy4⟩) (by assumption) ?_
    case qy4 => (intro w hSw; (try dsimp only at hSw); go_simp) <;> (try with_reducible rfl)
    try simp only [Act.put, List.setIfInBounds_toArray, List.set_cons_zero, List.set_cons_succ, List.getElem_toArray, List.getElem_cons_succ, List.getElem_cons_zero]
    refine wpAnyH_ready (rs := [2, 6, 7]) (by kernel_rfl) (by simp) ?_
    refine AllReadyH.cons rfl (fun K hK => ?_) (AllReadyH.cons rfl (fun K hK => ?_) (AllReadyH.cons rfl (fun K hK => ?_) (AllReadyH.nil)))
    · go_simp
      refine (KBf.out ((World.drew W1))).mono ?_
      rintro e w1k ⟨rfl, hy⟩
      have B1 := Lib.hid (Late.call (Late.drew (W := W1) KB.out) hy)
      clear hy
      go_wp2_with fail
      refine hK.out _ _ ?hs2a (fun hHeld => ?_)
      case hs2a => (try dsimp only); exact ⟨B1.out.blk.two.1, B1.out.bel.size⟩
      clear hK K
      try simp only [Act.put, List.setIfInBounds_toArray, List.set_cons_zero, List.set_cons_succ, List.getElem_toArray, List.getElem_cons_succ, List.getElem_cons_zero]
      refine wpAnyH_ready (rs := [5, 6, 7]) (by kernel_rfl) (by simp) ?_
      refine AllReadyH.cons rfl (fun K hK => ?_) (AllReadyH.cons rfl (fun K hK => ?_) (AllReadyH.cons rfl (fun K hK => ?_) (AllReadyH.nil)))
      · go_simp
        refine (KAf.out (w1k)).mono ?_
        rintro e w2k ⟨rfl, hy⟩
        have B2 := Lib.hid (Late.call B1.out hy)
        clear hy
        go_wp2_with fail
        refine hK.out _ _ ?hs5w2a (fun hHeld => ?_)
        case hs5w2a => (try dsimp only); exact ⟨B2.out.blk.two.1, B2.out.bel.size⟩
        clear hK K
        try simp only [Act.put, List.setIfInBounds_toArray, List.set_cons_zero, List.set_cons_succ, List.getElem_toArray, List.getElem_cons_succ, List.getElem_cons_zero]
        refine wpAnyH_ready (rs := [6, 7]) (by kernel_rfl) (by simp) ?_
        refine AllReadyH.cons rfl (fun K hK => ?_) (AllReadyH.cons rfl (fun K hK => ?_) (AllReadyH.nil))
        · go_simp
          have hnb3 : w.heap.size ≠ (World.heap w2k).size := Nat.ne_of_lt (Late.blk B2.out).lt
          refine hK.out _ _ ?hs6w2w5a (fun hHeld => ?_)
          case hs6w2w5a => (try dsimp only); exact ⟨(Late.blk (Late.alloc B2.out (.cells #[.int .i64 0, .int .i64 0] 31))).two.1, (Late.bel (Late.alloc B2.out (.cells #[.int .i64 0, .int .i64 0] 31))).size⟩
          clear hK K
          try simp only [Act.put, List.setIfInBounds_toArray, List.set_cons_zero, List.set_cons_succ, List.getElem_toArray, List.getElem_cons_succ, List.getElem_cons_zero]
          refine wpAnyH_ready (rs := [7]) (by kernel_rfl) (by simp) ?_
          refine AllReadyH.cons rfl (fun K hK => ?_) AllReadyH.nil
          go_simp
          have hnb4 : w.heap.size ≠ (World.heap (World.alloc w2k (.cells #[.int .i64 0, .int .i64 0] 31))).size := Nat.ne_of_lt (Late.blk (Late.alloc B2.out (.cells #[.int .i64 0, .int .i64 0] 31))).lt
          have hpq : (World.heap w2k).size ≠ (World.heap (World.alloc w2k (.cells #[.int .i64 0, .int .i64 0] 31))).size := Nat.ne_of_lt (Late.blk (Late.made (W := w2k) B2.out.bel (.int .i64 0) (.int .i64 0) 31)).lt
          refine hK.out _ _ ?hs7w2w5w6a (fun hHeld => ?_)
          case hs7w2w5w6a => (try dsimp only); exact ⟨(Late.blk (Late.alloc (Late.alloc B2.out (.cells #[.int .i64 0, .int .i64 0] 31)) (.cells #[.int .i64 0, .int .i64 0] 31))).two.1, (Late.bel (Late.alloc (Late.alloc B2.out (.cells #[.int .i64 0, .int .i64 0] 31)) (.cells #[.int .i64 0, .int .i64 0] 31))).size⟩
          clear hK K
          try simp only [Act.put, List.setIfInBounds_toArray, List.set_cons_zero, List.set_cons_succ, List.getElem_toArray, List.getElem_cons_succ, List.getElem_cons_zero]
          refine wpAnyH_ready (rs := [8]) (by kernel_rfl) (by simp) ?_
          refine AllReadyH.cons rfl (fun K hK => ?_) AllReadyH.nil
          have LP := (Late.alloc (Late.made (W := w2k) B2.out.bel (.int .i64 0) (.int .i64 0) 31) (.cells #[.int .i64 0, .int .i64 0] 31))
          have LQ := (Late.made (W := (World.alloc w2k (.cells #[.int .i64 0, .int .i64 0] 31))) (Late.alloc B2.out (.cells #[.int .i64 0, .int .i64 0] 31)).bel (.int .i64 0) (.int .i64 0) 31)
          have LB := (Late.alloc (Late.alloc B2.out (.cells #[.int .i64 0, .int .i64 0] 31)) (.cells #[.int .i64 0, .int .i64 0] 31))
          try simp only [World.size_alloc] at LP
          try simp only [World.size_alloc] at LQ
          try simp only [World.size_alloc] at hpq
          try simp only [World.size_alloc] at hnb3
          try simp only [World.size_alloc] at hnb4
          generalize (World.alloc (World.alloc w2k (.cells #[.int .i64 0, .int .i64 0] 31)) (.cells #[.int .i64 0, .int .i64 0] 31)) = W9 at LP LQ LB hHeld ⊢
          have GP := Lib.hid LP
          have GQ := Lib.hid LQ
          have GB := Lib.hid LB
          obtain ⟨⟨p0, p1⟩, p2, p3⟩ := LP.blk.two
          have NB := Lib.hid hnb3
          have NQ := Lib.hid hnb4
          have NP := Lib.hid hpq
          clear LP LQ LB hpq hnb3 hnb4
          go_simp
          refine hK.out _ _ ?hs8w2w5w6a (fun hHeld => ?_)
          case hs8w2w5w6a => (try dsimp only); exact ⟨GB.out.blk.keep2 NB.out _ _, (GP.out.put _ _).bel.size⟩
          clear hK K
          try simp only [Act.put, List.setIfInBounds_toArray, List.set_cons_zero, List.set_cons_succ, List.getElem_toArray, List.getElem_cons_succ, List.getElem_cons_zero]
          refine wpAnyH_ready (rs := [9]) (by kernel_rfl) (by simp) ?_
          refine AllReadyH.cons rfl (fun K hK => ?_) AllReadyH.nil
          have HP := Lib.hid (GP.out.put (.int .i64 e1) (.int .i64 e2))
          have HQ := Lib.hid (GQ.out.keep GP.out (Ne.symm NP.out) (.int .i64 e1) (.int .i64 e2))
          have HB := Lib.hid (GB.out.keep GP.out NB.out (.int .i64 e1) (.int .i64 e2))
          clear p0 p1 p2 p3 GP GQ GB
          obtain ⟨W10, hW10⟩ : ∃ W10, World.setCell (World.setCell W9 ⟨(World.heap w2k).size, 0, none⟩ (.int .i64 e1)) ⟨(World.heap w2k).size, 1, none⟩ (.int .i64 e2) = W10 := ⟨_, rfl⟩
          rw [hW10] at HP HQ HB hHeld ⊢
          clear hW10
          obtain ⟨⟨q0, q1⟩, q2, q3⟩ := HQ.out.blk.two
          go_simp
          refine hK.out _ _ ?hs9w2w5w6a (fun hHeld => ?_)
          case hs9w2w5w6a => (try dsimp only); exact ⟨HB.out.blk.keep2 NQ.out _ _, (HQ.out.put _ _).bel.size⟩
          clear hK K
          try simp only [Act.put, List.setIfInBounds_toArray, List.set_cons_zero, List.set_cons_succ, List.getElem_toArray, List.getElem_cons_succ, List.getElem_cons_zero]
          refine wpAnyH_done (by kernel_rfl) ?_ _
          go_wp2_with fail
          go_meet
          exact ⟨_, _, rfl, rfl, HP.out.keep HQ.out NP.out _ _, HQ.out.put _ _⟩
        · go_simp
          have hnb5 : w.heap.size ≠ (World.heap w2k).size := Nat.ne_of_lt (Late.blk B2.out).lt
          refine hK.out _ _ ?hs7w2w5a (fun hHeld => ?_)
          case hs7w2w5a => (try dsimp only); exact ⟨(Late.blk (Late.alloc B2.out (.cells #[.int .i64 0, .int .i64 0] 31))).two.1, (Late.bel (Late.alloc B2.out (.cells #[.int .i64 0, .int .i64 0] 31))).size⟩
          clear hK K
          try simp only [Act.put, List.setIfInBounds_toArray, List.set_cons_zero, List.set_cons_succ, List.getElem_toArray, List.getElem_cons_succ, List.getElem_cons_zero]
          refine wpAnyH_ready (rs := [6]) (by kernel_rfl) (by simp) ?_
          refine AllReadyH.cons rfl (fun K hK => ?_) AllReadyH.nil
          go_simp
          have hnb6 : w.heap.size ≠ (World.heap (World.alloc w2k (.cells #[.int .i64 0, .int .i64 0] 31))).size := Nat.ne_of_lt (Late.blk (Late.alloc B2.out (.cells #[.int .i64 0, .int .i64 0] 31))).lt
          have hpq : (World.heap (World.alloc w2k (.cells #[.int .i64 0, .int .i64 0] 31))).size ≠ (World.heap w2k).size := Ne.symm (Nat.ne_of_lt (Late.blk (Late.made (W := w2k) B2.out.bel (.int .i64 0) (.int .i64 0) 31)).lt)
          refine hK.out _ _ ?hs6w2w5w7a (fun hHeld => ?_)
          case hs6w2w5w7a => (try dsimp only); exact ⟨(Late.blk (Late.alloc (Late.alloc B2.out (.cells #[.int .i64 0, .int .i64 0] 31)) (.cells #[.int .i64 0, .int .i64 0] 31))).two.1, (Late.bel (Late.alloc (Late.alloc B2.out (.cells #[.int .i64 0, .int .i64 0] 31)) (.cells #[.int .i64 0, .int .i64 0] 31))).size⟩
          clear hK K
          try simp only [Act.put, List.setIfInBounds_toArray, List.set_cons_zero, List.set_cons_succ, List.getElem_toArray, List.getElem_cons_succ, List.getElem_cons_zero]
          refine wpAnyH_ready (rs := [8]) (by kernel_rfl) (by simp) ?_
          refine AllReadyH.cons rfl (fun K hK => ?_) AllReadyH.nil
          have LP := (Late.made (W := (World.alloc w2k (.cells #[.int .i64 0, .int .i64 0] 31))) (Late.alloc B2.out (.cells #[.int .i64 0, .int .i64 0] 31)).bel (.int .i64 0) (.int .i64 0) 31)
          have LQ := (Late.alloc (Late.made (W := w2k) B2.out.bel (.int .i64 0) (.int .i64 0) 31) (.cells #[.int .i64 0, .int .i64 0] 31))
          have LB := (Late.alloc (Late.alloc B2.out (.cells #[.int .i64 0, .int .i64 0] 31)) (.cells #[.int .i64 0, .int .i64 0] 31))
          try simp only [World.size_alloc] at LP
          try simp only [World.size_alloc] at LQ
          try simp only [World.size_alloc] at hpq
          try simp only [World.size_alloc] at hnb6
          try simp only [World.size_alloc] at hnb5
          generalize (World.alloc (World.alloc w2k (.cells #[.int .i64 0, .int .i64 0] 31)) (.cells #[.int .i64 0, .int .i64 0] 31)) = W9 at LP LQ LB hHeld ⊢
          have GP := Lib.hid LP
          have GQ := Lib.hid LQ
          have GB := Lib.hid LB
          obtain ⟨⟨p0, p1⟩, p2, p3⟩ := LP.blk.two
          have NB := Lib.hid hnb6
          have NQ := Lib.hid hnb5
          have NP := Lib.hid hpq
          clear LP LQ LB hpq hnb6 hnb5
          go_simp
          refine hK.out _ _ ?hs8w2w5w7a (fun hHeld => ?_)
          case hs8w2w5w7a => (try dsimp only); exact ⟨GB.out.blk.keep2 NB.out _ _, (GP.out.put _ _).bel.size⟩
          clear hK K
          try simp only [Act.put, List.setIfInBounds_toArray, List.set_cons_zero, List.set_cons_succ, List.getElem_toArray, List.getElem_cons_succ, List.getElem_cons_zero]
          refine wpAnyH_ready (rs := [9]) (by kernel_rfl) (by simp) ?_
          refine AllReadyH.cons rfl (fun K hK => ?_) AllReadyH.nil
          have HP := Lib.hid (GP.out.put (.int .i64 e1) (.int .i64 e2))
          have HQ := Lib.hid (GQ.out.keep GP.out (Ne.symm NP.out) (.int .i64 e1) (.int .i64 e2))
          have HB := Lib.hid (GB.out.keep GP.out NB.out (.int .i64 e1) (.int .i64 e2))
          clear p0 p1 p2 p3 GP GQ GB
          obtain ⟨W10, hW10⟩ : ∃ W10, World.setCell (World.setCell W9 ⟨(World.heap w2k).size + 1, 0, none⟩ (.int .i64 e1)) ⟨(World.heap w2k).size + 1, 1, none⟩ (.int .i64 e2) = W10 := ⟨_, rfl⟩
          rw [hW10] at HP HQ HB hHeld ⊢
          clear hW10
          obtain ⟨⟨q0, q1⟩, q2, q3⟩ := HQ.out.blk.two
          go_simp
          refine hK.out _ _ ?hs9w2w5w7a (fun hHeld => ?_)
          case hs9w2w5w7a => (try dsimp only); exact ⟨HB.out.blk.keep2 NQ.out _ _, (HQ.out.put _ _).bel.size⟩
          clear hK K
          try simp only [Act.put, List.setIfInBounds_toArray, List.set_cons_zero, List.set_cons_succ, List.getElem_toArray, List.getElem_cons_succ, List.getElem_cons_zero]
          refine wpAnyH_done (by kernel_rfl) ?_ _
          go_wp2_with fail
          go_meet
          exact ⟨_, _, rfl, rfl, HP.out.keep HQ.out NP.out _ _, HQ.out.put _ _⟩
      · go_simp
        have hnb7 : w.heap.size ≠ (World.heap w1k).size := Nat.ne_of_lt (Late.blk B1.out).lt
        refine hK.out _ _ ?hs6w2a (fun hHeld => ?_)
        case hs6w2a => (try dsimp only); exact ⟨(Late.blk (Late.alloc B1.out (.cells #[.int .i64 0, .int .i64 0] 31))).two.1, (Late.bel (Late.alloc B1.out (.cells #[.int .i64 0, .int .i64 0] 31))).size⟩
        clear hK K
        try simp only [Act.put, List.setIfInBounds_toArray, List.set_cons_zero, List.set_cons_succ, List.getElem_toArray, List.getElem_cons_succ, List.getElem_cons_zero]
        refine wpAnyH_ready (rs := [5, 7]) (by kernel_rfl) (by simp) ?_
        refine AllReadyH.cons rfl (fun K hK => ?_) (AllReadyH.cons rfl (fun K hK => ?_) (AllReadyH.nil))
        · go_simp
          refine (KAf.out ((World.alloc w1k (.cells #[.int .i64 0, .int .i64 0] 31)))).mono ?_
          rintro e w8k ⟨rfl, hy⟩
          have B8 := Lib.hid (Late.call (Late.alloc B1.out (.cells #[.int .i64 0, .int .i64 0] 31)) hy)
          have P8 := Lib.hid (Late.call (Late.made (W := w1k) B1.out.bel (.int .i64 0) (.int .i64 0) 31) hy)
          clear hy
          go_wp2_with fail
          refine hK.out _ _ ?hs5w2w6a (fun hHeld => ?_)
          case hs5w2w6a => (try dsimp only); exact ⟨B8.out.blk.two.1, B8.out.bel.size⟩
          clear hK K
          try simp only [Act.put, List.setIfInBounds_toArray, List.set_cons_zero, List.set_cons_succ, List.getElem_toArray, List.getElem_cons_succ, List.getElem_cons_zero]
          refine wpAnyH_ready (rs := [7]) (by kernel_rfl) (by simp) ?_
          refine AllReadyH.cons rfl (fun K hK => ?_) AllReadyH.nil
          go_simp
          have hnb9 : w.heap.size ≠ (World.heap w8k).size := Nat.ne_of_lt (Late.blk B8.out).lt
          have hpq : (World.heap w1k).size ≠ (World.heap w8k).size := Nat.ne_of_lt (Late.blk P8.out).lt
          refine hK.out _ _ ?hs7w2w6w5a (fun hHeld => ?_)
          case hs7w2w6w5a => (try dsimp only); exact ⟨(Late.blk (Late.alloc B8.out (.cells #[.int .i64 0, .int .i64 0] 31))).two.1, (Late.bel (Late.alloc B8.out (.cells #[.int .i64 0, .int .i64 0] 31))).size⟩
          clear hK K
          try simp only [Act.put, List.setIfInBounds_toArray, List.set_cons_zero, List.set_cons_succ, List.getElem_toArray, List.getElem_cons_succ, List.getElem_cons_zero]
          refine wpAnyH_ready (rs := [8]) (by kernel_rfl) (by simp) ?_
          refine AllReadyH.cons rfl (fun K hK => ?_) AllReadyH.nil
          have LP := (Late.alloc P8.out (.cells #[.int .i64 0, .int .i64 0] 31))
          have LQ := (Late.made (W := w8k) B8.out.bel (.int .i64 0) (.int .i64 0) 31)
          have LB := (Late.alloc B8.out (.cells #[.int .i64 0, .int .i64 0] 31))
          try simp only [World.size_alloc] at LP
          try simp only [World.size_alloc] at LQ
          try simp only [World.size_alloc] at hpq
          try simp only [World.size_alloc] at hnb7
          try simp only [World.size_alloc] at hnb9
          generalize (World.alloc w8k (.cells #[.int .i64 0, .int .i64 0] 31)) = W9 at LP LQ LB hHeld ⊢
          have GP := Lib.hid LP
          have GQ := Lib.hid LQ
          have GB := Lib.hid LB
          obtain ⟨⟨p0, p1⟩, p2, p3⟩ := LP.blk.two
          have NB := Lib.hid hnb7
          have NQ := Lib.hid hnb9
          have NP := Lib.hid hpq
          clear LP LQ LB hpq hnb7 hnb9
          go_simp
          refine hK.out _ _ ?hs8w2w6w5a (fun hHeld => ?_)
          case hs8w2w6w5a => (try dsimp only); exact ⟨GB.out.blk.keep2 NB.out _ _, (GP.out.put _ _).bel.size⟩
          clear hK K
          try simp only [Act.put, List.setIfInBounds_toArray, List.set_cons_zero, List.set_cons_succ, List.getElem_toArray, List.getElem_cons_succ, List.getElem_cons_zero]
          refine wpAnyH_ready (rs := [9]) (by kernel_rfl) (by simp) ?_
          refine AllReadyH.cons rfl (fun K hK => ?_) AllReadyH.nil
          have HP := Lib.hid (GP.out.put (.int .i64 e1) (.int .i64 e2))
          have HQ := Lib.hid (GQ.out.keep GP.out (Ne.symm NP.out) (.int .i64 e1) (.int .i64 e2))
          have HB := Lib.hid (GB.out.keep GP.out NB.out (.int .i64 e1) (.int .i64 e2))
          clear p0 p1 p2 p3 GP GQ GB
          obtain ⟨W10, hW10⟩ : ∃ W10, World.setCell (World.setCell W9 ⟨(World.heap w1k).size, 0, none⟩ (.int .i64 e1)) ⟨(World.heap w1k).size, 1, none⟩ (.int .i64 e2) = W10 := ⟨_, rfl⟩
          rw [hW10] at HP HQ HB hHeld ⊢
          clear hW10
          obtain ⟨⟨q0, q1⟩, q2, q3⟩ := HQ.out.blk.two
          go_simp
          refine hK.out _ _ ?hs9w2w6w5a (fun hHeld => ?_)
          case hs9w2w6w5a => (try dsimp only); exact ⟨HB.out.blk.keep2 NQ.out _ _, (HQ.out.put _ _).bel.size⟩
          clear hK K
          try simp only [Act.put, List.setIfInBounds_toArray, List.set_cons_zero, List.set_cons_succ, List.getElem_toArray, List.getElem_cons_succ, List.getElem_cons_zero]
          refine wpAnyH_done (by kernel_rfl) ?_ _
          go_wp2_with fail
          go_meet
          exact ⟨_, _, rfl, rfl, HP.out.keep HQ.out NP.out _ _, HQ.out.put _ _⟩
        · go_simp
          have hnb10 : w.heap.size ≠ (World.heap (World.alloc w1k (.cells #[.int .i64 0, .int .i64 0] 31))).size := Nat.ne_of_lt (Late.blk (Late.alloc B1.out (.cells #[.int .i64 0, .int .i64 0] 31))).lt
          have hpq : (World.heap w1k).size ≠ (World.heap (World.alloc w1k (.cells #[.int .i64 0, .int .i64 0] 31))).size := Nat.ne_of_lt (Late.blk (Late.made (W := w1k) B1.out.bel (.int .i64 0) (.int .i64 0) 31)).lt
          refine hK.out _ _ ?hs7w2w6a (fun hHeld => ?_)
          case hs7w2w6a => (try dsimp only); exact ⟨(Late.blk (Late.alloc (Late.alloc B1.out (.cells #[.int .i64 0, .int .i64 0] 31)) (.cells #[.int .i64 0, .int .i64 0] 31))).two.1, (Late.bel (Late.alloc (Late.alloc B1.out (.cells #[.int .i64 0, .int .i64 0] 31)) (.cells #[.int .i64 0, .int .i64 0] 31))).size⟩
          clear hK K
          try simp only [Act.put, List.setIfInBounds_toArray, List.set_cons_zero, List.set_cons_succ, List.getElem_toArray, List.getElem_cons_succ, List.getElem_cons_zero]
          refine wpAnyH_ready (rs := [5]) (by kernel_rfl) (by simp) ?_
          refine AllReadyH.cons rfl (fun K hK => ?_) AllReadyH.nil
          go_simp
          refine (KAf.out ((World.alloc (World.alloc w1k (.cells #[.int .i64 0, .int .i64 0] 31)) (.cells #[.int .i64 0, .int .i64 0] 31)))).mono ?_
          rintro e w11k ⟨rfl, hy⟩
          have B11 := Lib.hid (Late.call (Late.alloc (Late.alloc B1.out (.cells #[.int .i64 0, .int .i64 0] 31)) (.cells #[.int .i64 0, .int .i64 0] 31)) hy)
          have P11 := Lib.hid (Late.call (Late.alloc (Late.made (W := w1k) B1.out.bel (.int .i64 0) (.int .i64 0) 31) (.cells #[.int .i64 0, .int .i64 0] 31)) hy)
          have Q11 := Lib.hid (Late.call (Late.made (W := (World.alloc w1k (.cells #[.int .i64 0, .int .i64 0] 31))) (Late.alloc B1.out (.cells #[.int .i64 0, .int .i64 0] 31)).bel (.int .i64 0) (.int .i64 0) 31) hy)
          clear hy
          go_wp2_with fail
          refine hK.out _ _ ?hs5w2w6w7a (fun hHeld => ?_)
          case hs5w2w6w7a => (try dsimp only); exact ⟨B11.out.blk.two.1, B11.out.bel.size⟩
          clear hK K
          try simp only [Act.put, List.setIfInBounds_toArray, List.set_cons_zero, List.set_cons_succ, List.getElem_toArray, List.getElem_cons_succ, List.getElem_cons_zero]
          refine wpAnyH_ready (rs := [8]) (by kernel_rfl) (by simp) ?_
          refine AllReadyH.cons rfl (fun K hK => ?_) AllReadyH.nil
          have LP := P11.out
          have LQ := Q11.out
          have LB := B11.out
          try simp only [World.size_alloc] at LP
          try simp only [World.size_alloc] at LQ
          try simp only [World.size_alloc] at hpq
          try simp only [World.size_alloc] at hnb7
          try simp only [World.size_alloc] at hnb10
          have GP := Lib.hid LP
          have GQ := Lib.hid LQ
          have GB := Lib.hid LB
          obtain ⟨⟨p0, p1⟩, p2, p3⟩ := LP.blk.two
          have NB := Lib.hid hnb7
          have NQ := Lib.hid hnb10
          have NP := Lib.hid hpq
          clear LP LQ LB hpq hnb7 hnb10
          go_simp
          refine hK.out _ _ ?hs8w2w6w7a (fun hHeld => ?_)
          case hs8w2w6w7a => (try dsimp only); exact ⟨GB.out.blk.keep2 NB.out _ _, (GP.out.put _ _).bel.size⟩
          clear hK K
          try simp only [Act.put, List.setIfInBounds_toArray, List.set_cons_zero, List.set_cons_succ, List.getElem_toArray, List.getElem_cons_succ, List.getElem_cons_zero]
          refine wpAnyH_ready (rs := [9]) (by kernel_rfl) (by simp) ?_
          refine AllReadyH.cons rfl (fun K hK => ?_) AllReadyH.nil
          have HP := Lib.hid (GP.out.put (.int .i64 e1) (.int .i64 e2))
          have HQ := Lib.hid (GQ.out.keep GP.out (Ne.symm NP.out) (.int .i64 e1) (.int .i64 e2))
          have HB := Lib.hid (GB.out.keep GP.out NB.out (.int .i64 e1) (.int .i64 e2))
          clear p0 p1 p2 p3 GP GQ GB
          obtain ⟨W10, hW10⟩ : ∃ W10, World.setCell (World.setCell w11k ⟨(World.heap w1k).size, 0, none⟩ (.int .i64 e1)) ⟨(World.heap w1k).size, 1, none⟩ (.int .i64 e2) = W10 := ⟨_, rfl⟩
          rw [hW10] at HP HQ HB hHeld ⊢
          clear hW10
          obtain ⟨⟨q0, q1⟩, q2, q3⟩ := HQ.out.blk.two
          go_simp
          refine hK.out _ _ ?hs9w2w6w7a (fun hHeld => ?_)
          case hs9w2w6w7a => (try dsimp only); exact ⟨HB.out.blk.keep2 NQ.out _ _, (HQ.out.put _ _).bel.size⟩
          clear hK K
          try simp only [Act.put, List.setIfInBounds_toArray, List.set_cons_zero, List.set_cons_succ, List.getElem_toArray, List.getElem_cons_succ, List.getElem_cons_zero]
          refine wpAnyH_done (by kernel_rfl) ?_ _
          go_wp2_with fail
          go_meet
          exact ⟨_, _, rfl, rfl, HP.out.keep HQ.out NP.out _ _, HQ.out.put _ _⟩
      · go_simp
        have hnb12 : w.heap.size ≠ (World.heap w1k).size := Nat.ne_of_lt (Late.blk B1.out).lt
        refine hK.out _ _ ?hs7w2a (fun hHeld => ?_)
        case hs7w2a => (try dsimp only); exact ⟨(Late.blk (Late.alloc B1.out (.cells #[.int .i64 0, .int .i64 0] 31))).two.1, (Late.bel (Late.alloc B1.out (.cells #[.int .i64 0, .int .i64 0] 31))).size⟩
        clear hK K
        try simp only [Act.put, List.setIfInBounds_toArray, List.set_cons_zero, List.set_cons_succ, List.getElem_toArray, List.getElem_cons_succ, List.getElem_cons_zero]
        refine wpAnyH_ready (rs := [5, 6]) (by kernel_rfl) (by simp) ?_
        refine AllReadyH.cons rfl (fun K hK => ?_) (AllReadyH.cons rfl (fun K hK => ?_) (AllReadyH.nil))
        · go_simp
          refine (KAf.out ((World.alloc w1k (.cells #[.int .i64 0, .int .i64 0] 31)))).mono ?_
          rintro e w13k ⟨rfl, hy⟩
          have B13 := Lib.hid (Late.call (Late.alloc B1.out (.cells #[.int .i64 0, .int .i64 0] 31)) hy)
          have Q13 := Lib.hid (Late.call (Late.made (W := w1k) B1.out.bel (.int .i64 0) (.int .i64 0) 31) hy)
          clear hy
          go_wp2_with fail
          refine hK.out _ _ ?hs5w2w7a (fun hHeld => ?_)
          case hs5w2w7a => (try dsimp only); exact ⟨B13.out.blk.two.1, B13.out.bel.size⟩
          clear hK K
          try simp only [Act.put, List.setIfInBounds_toArray, List.set_cons_zero, List.set_cons_succ, List.getElem_toArray, List.getElem_cons_succ, List.getElem_cons_zero]
          refine wpAnyH_ready (rs := [6]) (by kernel_rfl) (by simp) ?_
          refine AllReadyH.cons rfl (fun K hK => ?_) AllReadyH.nil
          go_simp
          have hnb14 : w.heap.size ≠ (World.heap w13k).size := Nat.ne_of_lt (Late.blk B13.out).lt
          have hpq : (World.heap w13k).size ≠ (World.heap w1k).size := Ne.symm (Nat.ne_of_lt (Late.blk Q13.out).lt)
          refine hK.out _ _ ?hs6w2w7w5a (fun hHeld => ?_)
          case hs6w2w7w5a => (try dsimp only); exact ⟨(Late.blk (Late.alloc B13.out (.cells #[.int .i64 0, .int .i64 0] 31))).two.1, (Late.bel (Late.alloc B13.out (.cells #[.int .i64 0, .int .i64 0] 31))).size⟩
          clear hK K
          try simp only [Act.put, List.setIfInBounds_toArray, List.set_cons_zero, List.set_cons_succ, List.getElem_toArray, List.getElem_cons_succ, List.getElem_cons_zero]
          refine wpAnyH_ready (rs := [8]) (by kernel_rfl) (by simp) ?_
          refine AllReadyH.cons rfl (fun K hK => ?_) AllReadyH.nil
          have LP := (Late.made (W := w13k) B13.out.bel (.int .i64 0) (.int .i64 0) 31)
          have LQ := (Late.alloc Q13.out (.cells #[.int .i64 0, .int .i64 0] 31))
          have LB := (Late.alloc B13.out (.cells #[.int .i64 0, .int .i64 0] 31))
          try simp only [World.size_alloc] at LP
          try simp only [World.size_alloc] at LQ
          try simp only [World.size_alloc] at hpq
          try simp only [World.size_alloc] at hnb14
          try simp only [World.size_alloc] at hnb12
          generalize (World.alloc w13k (.cells #[.int .i64 0, .int .i64 0] 31)) = W9 at LP LQ LB hHeld ⊢
          have GP := Lib.hid LP
          have GQ := Lib.hid LQ
          have GB := Lib.hid LB
          obtain ⟨⟨p0, p1⟩, p2, p3⟩ := LP.blk.two
          have NB := Lib.hid hnb14
          have NQ := Lib.hid hnb12
          have NP := Lib.hid hpq
          clear LP LQ LB hpq hnb14 hnb12
          go_simp
          refine hK.out _ _ ?hs8w2w7w5a (fun hHeld => ?_)
          case hs8w2w7w5a => (try dsimp only); exact ⟨GB.out.blk.keep2 NB.out _ _, (GP.out.put _ _).bel.size⟩
          clear hK K
          try simp only [Act.put, List.setIfInBounds_toArray, List.set_cons_zero, List.set_cons_succ, List.getElem_toArray, List.getElem_cons_succ, List.getElem_cons_zero]
          refine wpAnyH_ready (rs := [9]) (by kernel_rfl) (by simp) ?_
          refine AllReadyH.cons rfl (fun K hK => ?_) AllReadyH.nil
          have HP := Lib.hid (GP.out.put (.int .i64 e1) (.int .i64 e2))
          have HQ := Lib.hid (GQ.out.keep GP.out (Ne.symm NP.out) (.int .i64 e1) (.int .i64 e2))
          have HB := Lib.hid (GB.out.keep GP.out NB.out (.int .i64 e1) (.int .i64 e2))
          clear p0 p1 p2 p3 GP GQ GB
          obtain ⟨W10, hW10⟩ : ∃ W10, World.setCell (World.setCell W9 ⟨(World.heap w13k).size, 0, none⟩ (.int .i64 e1)) ⟨(World.heap w13k).size, 1, none⟩ (.int .i64 e2) = W10 := ⟨_, rfl⟩
          rw [hW10] at HP HQ HB hHeld ⊢
          clear hW10
          obtain ⟨⟨q0, q1⟩, q2, q3⟩ := HQ.out.blk.two
          go_simp
          refine hK.out _ _ ?hs9w2w7w5a (fun hHeld => ?_)
          case hs9w2w7w5a => (try dsimp only); exact ⟨HB.out.blk.keep2 NQ.out _ _, (HQ.out.put _ _).bel.size⟩
          clear hK K
          try simp only [Act.put, List.setIfInBounds_toArray, List.set_cons_zero, List.set_cons_succ, List.getElem_toArray, List.getElem_cons_succ, List.getElem_cons_zero]
          refine wpAnyH_done (by kernel_rfl) ?_ _
          go_wp2_with fail
          go_meet
          exact ⟨_, _, rfl, rfl, HP.out.keep HQ.out NP.out _ _, HQ.out.put _ _⟩
        · go_simp
          have hnb15 : w.heap.size ≠ (World.heap (World.alloc w1k (.cells #[.int .i64 0, .int .i64 0] 31))).size := Nat.ne_of_lt (Late.blk (Late.alloc B1.out (.cells #[.int .i64 0, .int .i64 0] 31))).lt
          have hpq : (World.heap (World.alloc w1k (.cells #[.int .i64 0, .int .i64 0] 31))).size ≠ (World.heap w1k).size := Ne.symm (Nat.ne_of_lt (Late.blk (Late.made (W := w1k) B1.out.bel (.int .i64 0) (.int .i64 0) 31)).lt)
          refine hK.out _ _ ?hs6w2w7a (fun hHeld => ?_)
          case hs6w2w7a => (try dsimp only); exact ⟨(Late.blk (Late.alloc (Late.alloc B1.out (.cells #[.int .i64 0, .int .i64 0] 31)) (.cells #[.int .i64 0, .int .i64 0] 31))).two.1, (Late.bel (Late.alloc (Late.alloc B1.out (.cells #[.int .i64 0, .int .i64 0] 31)) (.cells #[.int .i64 0, .int .i64 0] 31))).size⟩
          clear hK K
          try simp only [Act.put, List.setIfInBounds_toArray, List.set_cons_zero, List.set_cons_succ, List.getElem_toArray, List.getElem_cons_succ, List.getElem_cons_zero]
          refine wpAnyH_ready (rs := [5]) (by kernel_rfl) (by simp) ?_
          refine AllReadyH.cons rfl (fun K hK => ?_) AllReadyH.nil
          go_simp
          refine (KAf.out ((World.alloc (World.alloc w1k (.cells #[.int .i64 0, .int .i64 0] 31)) (.cells #[.int .i64 0, .int .i64 0] 31)))).mono ?_
          rintro e w16k ⟨rfl, hy⟩
          have B16 := Lib.hid (Late.call (Late.alloc (Late.alloc B1.out (.cells #[.int .i64 0, .int .i64 0] 31)) (.cells #[.int .i64 0, .int .i64 0] 31)) hy)
          have P16 := Lib.hid (Late.call (Late.made (W := (World.alloc w1k (.cells #[.int .i64 0, .int .i64 0] 31))) (Late.alloc B1.out (.cells #[.int .i64 0, .int .i64 0] 31)).bel (.int .i64 0) (.int .i64 0) 31) hy)
          have Q16 := Lib.hid (Late.call (Late.alloc (Late.made (W := w1k) B1.out.bel (.int .i64 0) (.int .i64 0) 31) (.cells #[.int .i64 0, .int .i64 0] 31)) hy)
          clear hy
          go_wp2_with fail
          refine hK.out _ _ ?hs5w2w7w6a (fun hHeld => ?_)
          case hs5w2w7w6a => (try dsimp only); exact ⟨B16.out.blk.two.1, B16.out.bel.size⟩
          clear hK K
          try simp only [Act.put, List.setIfInBounds_toArray, List.set_cons_zero, List.set_cons_succ, List.getElem_toArray, List.getElem_cons_succ, List.getElem_cons_zero]
          refine wpAnyH_ready (rs := [8]) (by kernel_rfl) (by simp) ?_
          refine AllReadyH.cons rfl (fun K hK => ?_) AllReadyH.nil
          have LP := P16.out
          have LQ := Q16.out
          have LB := B16.out
          try simp only [World.size_alloc] at LP
          try simp only [World.size_alloc] at LQ
          try simp only [World.size_alloc] at hpq
          try simp only [World.size_alloc] at hnb15
          try simp only [World.size_alloc] at hnb12
          have GP := Lib.hid LP
          have GQ := Lib.hid LQ
          have GB := Lib.hid LB
          obtain ⟨⟨p0, p1⟩, p2, p3⟩ := LP.blk.two
          have NB := Lib.hid hnb15
          have NQ := Lib.hid hnb12
          have NP := Lib.hid hpq
          clear LP LQ LB hpq hnb15 hnb12
          go_simp
          refine hK.out _ _ ?hs8w2w7w6a (fun hHeld => ?_)
          case hs8w2w7w6a => (try dsimp only); exact ⟨GB.out.blk.keep2 NB.out _ _, (GP.out.put _ _).bel.size⟩
          clear hK K
          try simp only [Act.put, List.setIfInBounds_toArray, List.set_cons_zero, List.set_cons_succ, List.getElem_toArray, List.getElem_cons_succ, List.getElem_cons_zero]
          refine wpAnyH_ready (rs := [9]) (by kernel_rfl) (by simp) ?_
          refine AllReadyH.cons rfl (fun K hK => ?_) AllReadyH.nil
          have HP := Lib.hid (GP.out.put (.int .i64 e1) (.int .i64 e2))
          have HQ := Lib.hid (GQ.out.keep GP.out (Ne.symm NP.out) (.int .i64 e1) (.int .i64 e2))
          have HB := Lib.hid (GB.out.keep GP.out NB.out (.int .i64 e1) (.int .i64 e2))
          clear p0 p1 p2 p3 GP GQ GB
          obtain ⟨W10, hW10⟩ : ∃ W10, World.setCell (World.setCell w16k ⟨(World.heap w1k).size + 1, 0, none⟩ (.int .i64 e1)) ⟨(World.heap w1k).size + 1, 1, none⟩ (.int .i64 e2) = W10 := ⟨_, rfl⟩
          rw [hW10] at HP HQ HB hHeld ⊢
          clear hW10
          obtain ⟨⟨q0, q1⟩, q2, q3⟩ := HQ.out.blk.two
          go_simp
          refine hK.out _ _ ?hs9w2w7w6a (fun hHeld => ?_)
          case hs9w2w7w6a => (try dsimp only); exact ⟨HB.out.blk.keep2 NQ.out _ _, (HQ.out.put _ _).bel.size⟩
          clear hK K
          try simp only [Act.put, List.setIfInBounds_toArray, List.set_cons_zero, List.set_cons_succ, List.getElem_toArray, List.getElem_cons_succ, List.getElem_cons_zero]
          refine wpAnyH_done (by kernel_rfl) ?_ _
          go_wp2_with fail
          go_meet
          exact ⟨_, _, rfl, rfl, HP.out.keep HQ.out NP.out _ _, HQ.out.put _ _⟩
    · go_simp
      have hnb17 : w.heap.size ≠ (World.heap W1).size := Nat.ne_of_lt (Late.blk KB.out).lt
      refine hK.out _ _ ?hs6a (fun hHeld => ?_)
      case hs6a => (try dsimp only); exact ⟨(Late.blk (Late.drew (W := (World.alloc W1 (.cells #[.int .i64 0, .int .i64 0] 31))) (Late.alloc KB.out (.cells #[.int .i64 0, .int .i64 0] 31)))).two.1, (Late.bel (Late.drew (W := (World.alloc W1 (.cells #[.int .i64 0, .int .i64 0] 31))) (Late.alloc KB.out (.cells #[.int .i64 0, .int .i64 0] 31)))).size⟩
      clear hK K
      try simp only [Act.put, List.setIfInBounds_toArray, List.set_cons_zero, List.set_cons_succ, List.getElem_toArray, List.getElem_cons_succ, List.getElem_cons_zero]
      refine wpAnyH_ready (rs := [2, 7]) (by kernel_rfl) (by simp) ?_
      refine AllReadyH.cons rfl (fun K hK => ?_) (AllReadyH.cons rfl (fun K hK => ?_) (AllReadyH.nil))
      · go_simp
        refine (KBf.out ((World.drew (World.alloc W1 (.cells #[.int .i64 0, .int .i64 0] 31))))).mono ?_
        rintro e w18k ⟨rfl, hy⟩
        have B18 := Lib.hid (Late.call (Late.drew (W := (World.alloc W1 (.cells #[.int .i64 0, .int .i64 0] 31))) (Late.alloc KB.out (.cells #[.int .i64 0, .int .i64 0] 31))) hy)
        have P18 := Lib.hid (Late.call (Late.drew (W := (World.alloc W1 (.cells #[.int .i64 0, .int .i64 0] 31))) (Late.made (W := W1) KB.out.bel (.int .i64 0) (.int .i64 0) 31)) hy)
        clear hy
        go_wp2_with fail
        refine hK.out _ _ ?hs2w6a (fun hHeld => ?_)
        case hs2w6a => (try dsimp only); exact ⟨B18.out.blk.two.1, B18.out.bel.size⟩
        clear hK K
        try simp only [Act.put, List.setIfInBounds_toArray, List.set_cons_zero, List.set_cons_succ, List.getElem_toArray, List.getElem_cons_succ, List.getElem_cons_zero]
        refine wpAnyH_ready (rs := [5, 7]) (by kernel_rfl) (by simp) ?_
        refine AllReadyH.cons rfl (fun K hK => ?_) (AllReadyH.cons rfl (fun K hK => ?_) (AllReadyH.nil))
        · go_simp
          refine (KAf.out (w18k)).mono ?_
          rintro e w19k ⟨rfl, hy⟩
          have B19 := Lib.hid (Late.call B18.out hy)
          have P19 := Lib.hid (Late.call P18.out hy)
          clear hy
          go_wp2_with fail
          refine hK.out _ _ ?hs5w6w2a (fun hHeld => ?_)
          case hs5w6w2a => (try dsimp only); exact ⟨B19.out.blk.two.1, B19.out.bel.size⟩
          clear hK K
          try simp only [Act.put, List.setIfInBounds_toArray, List.set_cons_zero, List.set_cons_succ, List.getElem_toArray, List.getElem_cons_succ, List.getElem_cons_zero]
          refine wpAnyH_ready (rs := [7]) (by kernel_rfl) (by simp) ?_
          refine AllReadyH.cons rfl (fun K hK => ?_) AllReadyH.nil
          go_simp
          have hnb20 : w.heap.size ≠ (World.heap w19k).size := Nat.ne_of_lt (Late.blk B19.out).lt
          have hpq : (World.heap W1).size ≠ (World.heap w19k).size := Nat.ne_of_lt (Late.blk P19.out).lt
          refine hK.out _ _ ?hs7w6w2w5a (fun hHeld => ?_)
          case hs7w6w2w5a => (try dsimp only); exact ⟨(Late.blk (Late.alloc B19.out (.cells #[.int .i64 0, .int .i64 0] 31))).two.1, (Late.bel (Late.alloc B19.out (.cells #[.int .i64 0, .int .i64 0] 31))).size⟩
          clear hK K
          try simp only [Act.put, List.setIfInBounds_toArray, List.set_cons_zero, List.set_cons_succ, List.getElem_toArray, List.getElem_cons_succ, List.getElem_cons_zero]
          refine wpAnyH_ready (rs := [8]) (by kernel_rfl) (by simp) ?_
          refine AllReadyH.cons rfl (fun K hK => ?_) AllReadyH.nil
          have LP := (Late.alloc P19.out (.cells #[.int .i64 0, .int .i64 0] 31))
          have LQ := (Late.made (W := w19k) B19.out.bel (.int .i64 0) (.int .i64 0) 31)
          have LB := (Late.alloc B19.out (.cells #[.int .i64 0, .int .i64 0] 31))
          try simp only [World.size_alloc] at LP
          try simp only [World.size_alloc] at LQ
          try simp only [World.size_alloc] at hpq
          try simp only [World.size_alloc] at hnb17
          try simp only [World.size_alloc] at hnb20
          generalize (World.alloc w19k (.cells #[.int .i64 0, .int .i64 0] 31)) = W9 at LP LQ LB hHeld ⊢
          have GP := Lib.hid LP
          have GQ := Lib.hid LQ
          have GB := Lib.hid LB
          obtain ⟨⟨p0, p1⟩, p2, p3⟩ := LP.blk.two
          have NB := Lib.hid hnb17
          have NQ := Lib.hid hnb20
          have NP := Lib.hid hpq
          clear LP LQ LB hpq hnb17 hnb20
          go_simp
          refine hK.out _ _ ?hs8w6w2w5a (fun hHeld => ?_)
          case hs8w6w2w5a => (try dsimp only); exact ⟨GB.out.blk.keep2 NB.out _ _, (GP.out.put _ _).bel.size⟩
          clear hK K
          try simp only [Act.put, List.setIfInBounds_toArray, List.set_cons_zero, List.set_cons_succ, List.getElem_toArray, List.getElem_cons_succ, List.getElem_cons_zero]
          refine wpAnyH_ready (rs := [9]) (by kernel_rfl) (by simp) ?_
          refine AllReadyH.cons rfl (fun K hK => ?_) AllReadyH.nil
          have HP := Lib.hid (GP.out.put (.int .i64 e1) (.int .i64 e2))
          have HQ := Lib.hid (GQ.out.keep GP.out (Ne.symm NP.out) (.int .i64 e1) (.int .i64 e2))
          have HB := Lib.hid (GB.out.keep GP.out NB.out (.int .i64 e1) (.int .i64 e2))
          clear p0 p1 p2 p3 GP GQ GB
          obtain ⟨W10, hW10⟩ : ∃ W10, World.setCell (World.setCell W9 ⟨(World.heap W1).size, 0, none⟩ (.int .i64 e1)) ⟨(World.heap W1).size, 1, none⟩ (.int .i64 e2) = W10 := ⟨_, rfl⟩
          rw [hW10] at HP HQ HB hHeld ⊢
          clear hW10
          obtain ⟨⟨q0, q1⟩, q2, q3⟩ := HQ.out.blk.two
          go_simp
          refine hK.out _ _ ?hs9w6w2w5a (fun hHeld => ?_)
          case hs9w6w2w5a => (try dsimp only); exact ⟨HB.out.blk.keep2 NQ.out _ _, (HQ.out.put _ _).bel.size⟩
          clear hK K
          try simp only [Act.put, List.setIfInBounds_toArray, List.set_cons_zero, List.set_cons_succ, List.getElem_toArray, List.getElem_cons_succ, List.getElem_cons_zero]
          refine wpAnyH_done (by kernel_rfl) ?_ _
          go_wp2_with fail
          go_meet
          exact ⟨_, _, rfl, rfl, HP.out.keep HQ.out NP.out _ _, HQ.out.put _ _⟩
        · go_simp
          have hnb21 : w.heap.size ≠ (World.heap w18k).size := Nat.ne_of_lt (Late.blk B18.out).lt
          have hpq : (World.heap W1).size ≠ (World.heap w18k).size := Nat.ne_of_lt (Late.blk P18.out).lt
          refine hK.out _ _ ?hs7w6w2a (fun hHeld => ?_)
          case hs7w6w2a => (try dsimp only); exact ⟨(Late.blk (Late.alloc B18.out (.cells #[.int .i64 0, .int .i64 0] 31))).two.1, (Late.bel (Late.alloc B18.out (.cells #[.int .i64 0, .int .i64 0] 31))).size⟩
          clear hK K
          try simp only [Act.put, List.setIfInBounds_toArray, List.set_cons_zero, List.set_cons_succ, List.getElem_toArray, List.getElem_cons_succ, List.getElem_cons_zero]
          refine wpAnyH_ready (rs := [5]) (by kernel_rfl) (by simp) ?_
          refine AllReadyH.cons rfl (fun K hK => ?_) AllReadyH.nil
          go_simp
          refine (KAf.out ((World.alloc w18k (.cells #[.int .i64 0, .int .i64 0] 31)))).mono ?_
          rintro e w22k ⟨rfl, hy⟩
          have B22 := Lib.hid (Late.call (Late.alloc B18.out (.cells #[.int .i64 0, .int .i64 0] 31)) hy)
          have P22 := Lib.hid (Late.call (Late.alloc P18.out (.cells #[.int .i64 0, .int .i64 0] 31)) hy)
          have Q22 := Lib.hid (Late.call (Late.made (W := w18k) B18.out.bel (.int .i64 0) (.int .i64 0) 31) hy)
          clear hy
          go_wp2_with fail
          refine hK.out _ _ ?hs5w6w2w7a (fun hHeld => ?_)
          case hs5w6w2w7a => (try dsimp only); exact ⟨B22.out.blk.two.1, B22.out.bel.size⟩
          clear hK K
          try simp only [Act.put, List.setIfInBounds_toArray, List.set_cons_zero, List.set_cons_succ, List.getElem_toArray, List.getElem_cons_succ, List.getElem_cons_zero]
          refine wpAnyH_ready (rs := [8]) (by kernel_rfl) (by simp) ?_
          refine AllReadyH.cons rfl (fun K hK => ?_) AllReadyH.nil
          have LP := P22.out
          have LQ := Q22.out
          have LB := B22.out
          try simp only [World.size_alloc] at LP
          try simp only [World.size_alloc] at LQ
          try simp only [World.size_alloc] at hpq
          try simp only [World.size_alloc] at hnb17
          try simp only [World.size_alloc] at hnb21
          have GP := Lib.hid LP
          have GQ := Lib.hid LQ
          have GB := Lib.hid LB
          obtain ⟨⟨p0, p1⟩, p2, p3⟩ := LP.blk.two
          have NB := Lib.hid hnb17
          have NQ := Lib.hid hnb21
          have NP := Lib.hid hpq
          clear LP LQ LB hpq hnb17 hnb21
          go_simp
          refine hK.out _ _ ?hs8w6w2w7a (fun hHeld => ?_)
          case hs8w6w2w7a => (try dsimp only); exact ⟨GB.out.blk.keep2 NB.out _ _, (GP.out.put _ _).bel.size⟩
          clear hK K
          try simp only [Act.put, List.setIfInBounds_toArray, List.set_cons_zero, List.set_cons_succ, List.getElem_toArray, List.getElem_cons_succ, List.getElem_cons_zero]
          refine wpAnyH_ready (rs := [9]) (by kernel_rfl) (by simp) ?_
          refine AllReadyH.cons rfl (fun K hK => ?_) AllReadyH.nil
          have HP := Lib.hid (GP.out.put (.int .i64 e1) (.int .i64 e2))
          have HQ := Lib.hid (GQ.out.keep GP.out (Ne.symm NP.out) (.int .i64 e1) (.int .i64 e2))
          have HB := Lib.hid (GB.out.keep GP.out NB.out (.int .i64 e1) (.int .i64 e2))
          clear p0 p1 p2 p3 GP GQ GB
          obtain ⟨W10, hW10⟩ : ∃ W10, World.setCell (World.setCell w22k ⟨(World.heap W1).size, 0, none⟩ (.int .i64 e1)) ⟨(World.heap W1).size, 1, none⟩ (.int .i64 e2) = W10 := ⟨_, rfl⟩
          rw [hW10] at HP HQ HB hHeld ⊢
          clear hW10
          obtain ⟨⟨q0, q1⟩, q2, q3⟩ := HQ.out.blk.two
          go_simp
          refine hK.out _ _ ?hs9w6w2w7a (fun hHeld => ?_)
          case hs9w6w2w7a => (try dsimp only); exact ⟨HB.out.blk.keep2 NQ.out _ _, (HQ.out.put _ _).bel.size⟩
          clear hK K
          try simp only [Act.put, List.setIfInBounds_toArray, List.set_cons_zero, List.set_cons_succ, List.getElem_toArray, List.getElem_cons_succ, List.getElem_cons_zero]
          refine wpAnyH_done (by kernel_rfl) ?_ _
          go_wp2_with fail
          go_meet
          exact ⟨_, _, rfl, rfl, HP.out.keep HQ.out NP.out _ _, HQ.out.put _ _⟩
      · go_simp
        have hnb23 : w.heap.size ≠ (World.heap (World.alloc W1 (.cells #[.int .i64 0, .int .i64 0] 31))).size := Nat.ne_of_lt (Late.blk (Late.alloc KB.out (.cells #[.int .i64 0, .int .i64 0] 31))).lt
        have hpq : (World.heap W1).size ≠ (World.heap (World.alloc W1 (.cells #[.int .i64 0, .int .i64 0] 31))).size := Nat.ne_of_lt (Late.blk (Late.made (W := W1) KB.out.bel (.int .i64 0) (.int .i64 0) 31)).lt
        refine hK.out _ _ ?hs7w6a (fun hHeld => ?_)
        case hs7w6a => (try dsimp only); exact ⟨(Late.blk (Late.drew (W := (World.alloc (World.alloc W1 (.cells #[.int .i64 0, .int .i64 0] 31)) (.cells #[.int .i64 0, .int .i64 0] 31))) (Late.alloc (Late.alloc KB.out (.cells #[.int .i64 0, .int .i64 0] 31)) (.cells #[.int .i64 0, .int .i64 0] 31)))).two.1, (Late.bel (Late.drew (W := (World.alloc (World.alloc W1 (.cells #[.int .i64 0, .int .i64 0] 31)) (.cells #[.int .i64 0, .int .i64 0] 31))) (Late.alloc (Late.alloc KB.out (.cells #[.int .i64 0, .int .i64 0] 31)) (.cells #[.int .i64 0, .int .i64 0] 31)))).size⟩
        clear hK K
        try simp only [Act.put, List.setIfInBounds_toArray, List.set_cons_zero, List.set_cons_succ, List.getElem_toArray, List.getElem_cons_succ, List.getElem_cons_zero]
        refine wpAnyH_ready (rs := [2]) (by kernel_rfl) (by simp) ?_
        refine AllReadyH.cons rfl (fun K hK => ?_) AllReadyH.nil
        go_simp
        refine (KBf.out ((World.drew (World.alloc (World.alloc W1 (.cells #[.int .i64 0, .int .i64 0] 31)) (.cells #[.int .i64 0, .int .i64 0] 31))))).mono ?_
        rintro e w24k ⟨rfl, hy⟩
        have B24 := Lib.hid (Late.call (Late.drew (W := (World.alloc (World.alloc W1 (.cells #[.int .i64 0, .int .i64 0] 31)) (.cells #[.int .i64 0, .int .i64 0] 31))) (Late.alloc (Late.alloc KB.out (.cells #[.int .i64 0, .int .i64 0] 31)) (.cells #[.int .i64 0, .int .i64 0] 31))) hy)
        have P24 := Lib.hid (Late.call (Late.drew (W := (World.alloc (World.alloc W1 (.cells #[.int .i64 0, .int .i64 0] 31)) (.cells #[.int .i64 0, .int .i64 0] 31))) (Late.alloc (Late.made (W := W1) KB.out.bel (.int .i64 0) (.int .i64 0) 31) (.cells #[.int .i64 0, .int .i64 0] 31))) hy)
        have Q24 := Lib.hid (Late.call (Late.drew (W := (World.alloc (World.alloc W1 (.cells #[.int .i64 0, .int .i64 0] 31)) (.cells #[.int .i64 0, .int .i64 0] 31))) (Late.made (W := (World.alloc W1 (.cells #[.int .i64 0, .int .i64 0] 31))) (Late.alloc KB.out (.cells #[.int .i64 0, .int .i64 0] 31)).bel (.int .i64 0) (.int .i64 0) 31)) hy)
        clear hy
        go_wp2_with fail
        refine hK.out _ _ ?hs2w6w7a (fun hHeld => ?_)
        case hs2w6w7a => (try dsimp only); exact ⟨B24.out.blk.two.1, B24.out.bel.size⟩
        clear hK K
        try simp only [Act.put, List.setIfInBounds_toArray, List.set_cons_zero, List.set_cons_succ, List.getElem_toArray, List.getElem_cons_succ, List.getElem_cons_zero]
        refine wpAnyH_ready (rs := [5]) (by kernel_rfl) (by simp) ?_
        refine AllReadyH.cons rfl (fun K hK => ?_) AllReadyH.nil
        go_simp
        refine (KAf.out (w24k)).mono ?_
        rintro e w25k ⟨rfl, hy⟩
        have B25 := Lib.hid (Late.call B24.out hy)
        have P25 := Lib.hid (Late.call P24.out hy)
        have Q25 := Lib.hid (Late.call Q24.out hy)
        clear hy
        go_wp2_with fail
        refine hK.out _ _ ?hs5w6w7a (fun hHeld => ?_)
        case hs5w6w7a => (try dsimp only); exact ⟨B25.out.blk.two.1, B25.out.bel.size⟩
        clear hK K
        try simp only [Act.put, List.setIfInBounds_toArray, List.set_cons_zero, List.set_cons_succ, List.getElem_toArray, List.getElem_cons_succ, List.getElem_cons_zero]
        refine wpAnyH_ready (rs := [8]) (by kernel_rfl) (by simp) ?_
        refine AllReadyH.cons rfl (fun K hK => ?_) AllReadyH.nil
        have LP := P25.out
        have LQ := Q25.out
        have LB := B25.out
        try simp only [World.size_alloc] at LP
        try simp only [World.size_alloc] at LQ
        try simp only [World.size_alloc] at hpq
        try simp only [World.size_alloc] at hnb17
        try simp only [World.size_alloc] at hnb23
        have GP := Lib.hid LP
        have GQ := Lib.hid LQ
        have GB := Lib.hid LB
        obtain ⟨⟨p0, p1⟩, p2, p3⟩ := LP.blk.two
        have NB := Lib.hid hnb17
        have NQ := Lib.hid hnb23
        have NP := Lib.hid hpq
        clear LP LQ LB hpq hnb17 hnb23
        go_simp
        refine hK.out _ _ ?hs8w6w7a (fun hHeld => ?_)
        case hs8w6w7a => (try dsimp only); exact ⟨GB.out.blk.keep2 NB.out _ _, (GP.out.put _ _).bel.size⟩
        clear hK K
        try simp only [Act.put, List.setIfInBounds_toArray, List.set_cons_zero, List.set_cons_succ, List.getElem_toArray, List.getElem_cons_succ, List.getElem_cons_zero]
        refine wpAnyH_ready (rs := [9]) (by kernel_rfl) (by simp) ?_
        refine AllReadyH.cons rfl (fun K hK => ?_) AllReadyH.nil
        have HP := Lib.hid (GP.out.put (.int .i64 e1) (.int .i64 e2))
        have HQ := Lib.hid (GQ.out.keep GP.out (Ne.symm NP.out) (.int .i64 e1) (.int .i64 e2))
        have HB := Lib.hid (GB.out.keep GP.out NB.out (.int .i64 e1) (.int .i64 e2))
        clear p0 p1 p2 p3 GP GQ GB
        obtain ⟨W10, hW10⟩ : ∃ W10, World.setCell (World.setCell w25k ⟨(World.heap W1).size, 0, none⟩ (.int .i64 e1)) ⟨(World.heap W1).size, 1, none⟩ (.int .i64 e2) = W10 := ⟨_, rfl⟩
        rw [hW10] at HP HQ HB hHeld ⊢
        clear hW10
        obtain ⟨⟨q0, q1⟩, q2, q3⟩ := HQ.out.blk.two
        go_simp
        refine hK.out _ _ ?hs9w6w7a (fun hHeld => ?_)
        case hs9w6w7a => (try dsimp only); exact ⟨HB.out.blk.keep2 NQ.out _ _, (HQ.out.put _ _).bel.size⟩
        clear hK K
        try simp only [Act.put, List.setIfInBounds_toArray, List.set_cons_zero, List.set_cons_succ, List.getElem_toArray, List.getElem_cons_succ, List.getElem_cons_zero]
        refine wpAnyH_done (by kernel_rfl) ?_ _
        go_wp2_with fail
        go_meet
        exact ⟨_, _, rfl, rfl, HP.out.keep HQ.out NP.out _ _, HQ.out.put _ _⟩
    · go_simp
      have hnb26 : w.heap.size ≠ (World.heap W1).size := Nat.ne_of_lt (Late.blk KB.out).lt
      refine hK.out _ _ ?hs7a (fun hHeld => ?_)
      case hs7a => (try dsimp only); exact ⟨(Late.blk (Late.drew (W := (World.alloc W1 (.cells #[.int .i64 0, .int .i64 0] 31))) (Late.alloc KB.out (.cells #[.int .i64 0, .int .i64 0] 31)))).two.1, (Late.bel (Late.drew (W := (World.alloc W1 (.cells #[.int .i64 0, .int .i64 0] 31))) (Late.alloc KB.out (.cells #[.int .i64 0, .int .i64 0] 31)))).size⟩
      clear hK K
      try simp only [Act.put, List.setIfInBounds_toArray, List.set_cons_zero, List.set_cons_succ, List.getElem_toArray, List.getElem_cons_succ, List.getElem_cons_zero]
      refine wpAnyH_ready (rs := [2, 6]) (by kernel_rfl) (by simp) ?_
      refine AllReadyH.cons rfl (fun K hK => ?_) (AllReadyH.cons rfl (fun K hK => ?_) (AllReadyH.nil))
      · go_simp
        refine (KBf.out ((World.drew (World.alloc W1 (.cells #[.int .i64 0, .int .i64 0] 31))))).mono ?_
        rintro e w27k ⟨rfl, hy⟩
        have B27 := Lib.hid (Late.call (Late.drew (W := (World.alloc W1 (.cells #[.int .i64 0, .int .i64 0] 31))) (Late.alloc KB.out (.cells #[.int .i64 0, .int .i64 0] 31))) hy)
        have Q27 := Lib.hid (Late.call (Late.drew (W := (World.alloc W1 (.cells #[.int .i64 0, .int .i64 0] 31))) (Late.made (W := W1) KB.out.bel (.int .i64 0) (.int .i64 0) 31)) hy)
        clear hy
        go_wp2_with fail
        refine hK.out _ _ ?hs2w7a (fun hHeld => ?_)
        case hs2w7a => (try dsimp only); exact ⟨B27.out.blk.two.1, B27.out.bel.size⟩
        clear hK K
        try simp only [Act.put, List.setIfInBounds_toArray, List.set_cons_zero, List.set_cons_succ, List.getElem_toArray, List.getElem_cons_succ, List.getElem_cons_zero]
        refine wpAnyH_ready (rs := [5, 6]) (by kernel_rfl) (by simp) ?_
        refine AllReadyH.cons rfl (fun K hK => ?_) (AllReadyH.cons rfl (fun K hK => ?_) (AllReadyH.nil))
        · go_simp
          refine (KAf.out (w27k)).mono ?_
          rintro e w28k ⟨rfl, hy⟩
          have B28 := Lib.hid (Late.call B27.out hy)
          have Q28 := Lib.hid (Late.call Q27.out hy)
          clear hy
          go_wp2_with fail
          refine hK.out _ _ ?hs5w7w2a (fun hHeld => ?_)
          case hs5w7w2a => (try dsimp only); exact ⟨B28.out.blk.two.1, B28.out.bel.size⟩
          clear hK K
          try simp only [Act.put, List.setIfInBounds_toArray, List.set_cons_zero, List.set_cons_succ, List.getElem_toArray, List.getElem_cons_succ, List.getElem_cons_zero]
          refine wpAnyH_ready (rs := [6]) (by kernel_rfl) (by simp) ?_
          refine AllReadyH.cons rfl (fun K hK => ?_) AllReadyH.nil
          go_simp
          have hnb29 : w.heap.size ≠ (World.heap w28k).size := Nat.ne_of_lt (Late.blk B28.out).lt
          have hpq : (World.heap w28k).size ≠ (World.heap W1).size := Ne.symm (Nat.ne_of_lt (Late.blk Q28.out).lt)
          refine hK.out _ _ ?hs6w7w2w5a (fun hHeld => ?_)
          case hs6w7w2w5a => (try dsimp only); exact ⟨(Late.blk (Late.alloc B28.out (.cells #[.int .i64 0, .int .i64 0] 31))).two.1, (Late.bel (Late.alloc B28.out (.cells #[.int .i64 0, .int .i64 0] 31))).size⟩
          clear hK K
          try simp only [Act.put, List.setIfInBounds_toArray, List.set_cons_zero, List.set_cons_succ, List.getElem_toArray, List.getElem_cons_succ, List.getElem_cons_zero]
          refine wpAnyH_ready (rs := [8]) (by kernel_rfl) (by simp) ?_
          refine AllReadyH.cons rfl (fun K hK => ?_) AllReadyH.nil
          have LP := (Late.made (W := w28k) B28.out.bel (.int .i64 0) (.int .i64 0) 31)
          have LQ := (Late.alloc Q28.out (.cells #[.int .i64 0, .int .i64 0] 31))
          have LB := (Late.alloc B28.out (.cells #[.int .i64 0, .int .i64 0] 31))
          try simp only [World.size_alloc] at LP
          try simp only [World.size_alloc] at LQ
          try simp only [World.size_alloc] at hpq
          try simp only [World.size_alloc] at hnb29
          try simp only [World.size_alloc] at hnb26
          generalize (World.alloc w28k (.cells #[.int .i64 0, .int .i64 0] 31)) = W9 at LP LQ LB hHeld ⊢
          have GP := Lib.hid LP
          have GQ := Lib.hid LQ
          have GB := Lib.hid LB
          obtain ⟨⟨p0, p1⟩, p2, p3⟩ := LP.blk.two
          have NB := Lib.hid hnb29
          have NQ := Lib.hid hnb26
          have NP := Lib.hid hpq
          clear LP LQ LB hpq hnb29 hnb26
          go_simp
          refine hK.out _ _ ?hs8w7w2w5a (fun hHeld => ?_)
          case hs8w7w2w5a => (try dsimp only); exact ⟨GB.out.blk.keep2 NB.out _ _, (GP.out.put _ _).bel.size⟩
          clear hK K
          try simp only [Act.put, List.setIfInBounds_toArray, List.set_cons_zero, List.set_cons_succ, List.getElem_toArray, List.getElem_cons_succ, List.getElem_cons_zero]
          refine wpAnyH_ready (rs := [9]) (by kernel_rfl) (by simp) ?_
          refine AllReadyH.cons rfl (fun K hK => ?_) AllReadyH.nil
          have HP := Lib.hid (GP.out.put (.int .i64 e1) (.int .i64 e2))
          have HQ := Lib.hid (GQ.out.keep GP.out (Ne.symm NP.out) (.int .i64 e1) (.int .i64 e2))
          have HB := Lib.hid (GB.out.keep GP.out NB.out (.int .i64 e1) (.int .i64 e2))
          clear p0 p1 p2 p3 GP GQ GB
          obtain ⟨W10, hW10⟩ : ∃ W10, World.setCell (World.setCell W9 ⟨(World.heap w28k).size, 0, none⟩ (.int .i64 e1)) ⟨(World.heap w28k).size, 1, none⟩ (.int .i64 e2) = W10 := ⟨_, rfl⟩
          rw [hW10] at HP HQ HB hHeld ⊢
          clear hW10
          obtain ⟨⟨q0, q1⟩, q2, q3⟩ := HQ.out.blk.two
          go_simp
          refine hK.out _ _ ?hs9w7w2w5a (fun hHeld => ?_)
          case hs9w7w2w5a => (try dsimp only); exact ⟨HB.out.blk.keep2 NQ.out _ _, (HQ.out.put _ _).bel.size⟩
          clear hK K
          try simp only [Act.put, List.setIfInBounds_toArray, List.set_cons_zero, List.set_cons_succ, List.getElem_toArray, List.getElem_cons_succ, List.getElem_cons_zero]
          refine wpAnyH_done (by kernel_rfl) ?_ _
          go_wp2_with fail
          go_meet
          exact ⟨_, _, rfl, rfl, HP.out.keep HQ.out NP.out _ _, HQ.out.put _ _⟩
        · go_simp
          have hnb30 : w.heap.size ≠ (World.heap w27k).size := Nat.ne_of_lt (Late.blk B27.out).lt
          have hpq : (World.heap w27k).size ≠ (World.heap W1).size := Ne.symm (Nat.ne_of_lt (Late.blk Q27.out).lt)
          refine hK.out _ _ ?hs6w7w2a (fun hHeld => ?_)
          case hs6w7w2a => (try dsimp only); exact ⟨(Late.blk (Late.alloc B27.out (.cells #[.int .i64 0, .int .i64 0] 31))).two.1, (Late.bel (Late.alloc B27.out (.cells #[.int .i64 0, .int .i64 0] 31))).size⟩
          clear hK K
          try simp only [Act.put, List.setIfInBounds_toArray, List.set_cons_zero, List.set_cons_succ, List.getElem_toArray, List.getElem_cons_succ, List.getElem_cons_zero]
          refine wpAnyH_ready (rs := [5]) (by kernel_rfl) (by simp) ?_
          refine AllReadyH.cons rfl (fun K hK => ?_) AllReadyH.nil
          go_simp
          refine (KAf.out ((World.alloc w27k (.cells #[.int .i64 0, .int .i64 0] 31)))).mono ?_
          rintro e w31k ⟨rfl, hy⟩
          have B31 := Lib.hid (Late.call (Late.alloc B27.out (.cells #[.int .i64 0, .int .i64 0] 31)) hy)
          have P31 := Lib.hid (Late.call (Late.made (W := w27k) B27.out.bel (.int .i64 0) (.int .i64 0) 31) hy)
          have Q31 := Lib.hid (Late.call (Late.alloc Q27.out (.cells #[.int .i64 0, .int .i64 0] 31)) hy)
          clear hy
          go_wp2_with fail
          refine hK.out _ _ ?hs5w7w2w6a (fun hHeld => ?_)
          case hs5w7w2w6a => (try dsimp only); exact ⟨B31.out.blk.two.1, B31.out.bel.size⟩
          clear hK K
          try simp only [Act.put, List.setIfInBounds_toArray, List.set_cons_zero, List.set_cons_succ, List.getElem_toArray, List.getElem_cons_succ, List.getElem_cons_zero]
          refine wpAnyH_ready (rs := [8]) (by kernel_rfl) (by simp) ?_
          refine AllReadyH.cons rfl (fun K hK => ?_) AllReadyH.nil
          have LP := P31.out
          have LQ := Q31.out
          have LB := B31.out
          try simp only [World.size_alloc] at LP
          try simp only [World.size_alloc] at LQ
          try simp only [World.size_alloc] at hpq
          try simp only [World.size_alloc] at hnb30
          try simp only [World.size_alloc] at hnb26
          have GP := Lib.hid LP
          have GQ := Lib.hid LQ
          have GB := Lib.hid LB
          obtain ⟨⟨p0, p1⟩, p2, p3⟩ := LP.blk.two
          have NB := Lib.hid hnb30
          have NQ := Lib.hid hnb26
          have NP := Lib.hid hpq
          clear LP LQ LB hpq hnb30 hnb26
          go_simp
          refine hK.out _ _ ?hs8w7w2w6a (fun hHeld => ?_)
          case hs8w7w2w6a => (try dsimp only); exact ⟨GB.out.blk.keep2 NB.out _ _, (GP.out.put _ _).bel.size⟩
          clear hK K
          try simp only [Act.put, List.setIfInBounds_toArray, List.set_cons_zero, List.set_cons_succ, List.getElem_toArray, List.getElem_cons_succ, List.getElem_cons_zero]
          refine wpAnyH_ready (rs := [9]) (by kernel_rfl) (by simp) ?_
          refine AllReadyH.cons rfl (fun K hK => ?_) AllReadyH.nil
          have HP := Lib.hid (GP.out.put (.int .i64 e1) (.int .i64 e2))
          have HQ := Lib.hid (GQ.out.keep GP.out (Ne.symm NP.out) (.int .i64 e1) (.int .i64 e2))
          have HB := Lib.hid (GB.out.keep GP.out NB.out (.int .i64 e1) (.int .i64 e2))
          clear p0 p1 p2 p3 GP GQ GB
          obtain ⟨W10, hW10⟩ : ∃ W10, World.setCell (World.setCell w31k ⟨(World.heap w27k).size, 0, none⟩ (.int .i64 e1)) ⟨(World.heap w27k).size, 1, none⟩ (.int .i64 e2) = W10 := ⟨_, rfl⟩
          rw [hW10] at HP HQ HB hHeld ⊢
          clear hW10
          obtain ⟨⟨q0, q1⟩, q2, q3⟩ := HQ.out.blk.two
          go_simp
          refine hK.out _ _ ?hs9w7w2w6a (fun hHeld => ?_)
          case hs9w7w2w6a => (try dsimp only); exact ⟨HB.out.blk.keep2 NQ.out _ _, (HQ.out.put _ _).bel.size⟩
          clear hK K
          try simp only [Act.put, List.setIfInBounds_toArray, List.set_cons_zero, List.set_cons_succ, List.getElem_toArray, List.getElem_cons_succ, List.getElem_cons_zero]
          refine wpAnyH_done (by kernel_rfl) ?_ _
          go_wp2_with fail
          go_meet
          exact ⟨_, _, rfl, rfl, HP.out.keep HQ.out NP.out _ _, HQ.out.put _ _⟩
      · go_simp
        have hnb32 : w.heap.size ≠ (World.heap (World.alloc W1 (.cells #[.int .i64 0, .int .i64 0] 31))).size := Nat.ne_of_lt (Late.blk (Late.alloc KB.out (.cells #[.int .i64 0, .int .i64 0] 31))).lt
        have hpq : (World.heap (World.alloc W1 (.cells #[.int .i64 0, .int .i64 0] 31))).size ≠ (World.heap W1).size := Ne.symm (Nat.ne_of_lt (Late.blk (Late.made (W := W1) KB.out.bel (.int .i64 0) (.int .i64 0) 31)).lt)
        refine hK.out _ _ ?hs6w7a (fun hHeld => ?_)
        case hs6w7a => (try dsimp only); exact ⟨(Late.blk (Late.drew (W := (World.alloc (World.alloc W1 (.cells #[.int .i64 0, .int .i64 0] 31)) (.cells #[.int .i64 0, .int .i64 0] 31))) (Late.alloc (Late.alloc KB.out (.cells #[.int .i64 0, .int .i64 0] 31)) (.cells #[.int .i64 0, .int .i64 0] 31)))).two.1, (Late.bel (Late.drew (W := (World.alloc (World.alloc W1 (.cells #[.int .i64 0, .int .i64 0] 31)) (.cells #[.int .i64 0, .int .i64 0] 31))) (Late.alloc (Late.alloc KB.out (.cells #[.int .i64 0, .int .i64 0] 31)) (.cells #[.int .i64 0, .int .i64 0] 31)))).size⟩
        clear hK K
        try simp only [Act.put, List.setIfInBounds_toArray, List.set_cons_zero, List.set_cons_succ, List.getElem_toArray, List.getElem_cons_succ, List.getElem_cons_zero]
        refine wpAnyH_ready (rs := [2]) (by kernel_rfl) (by simp) ?_
        refine AllReadyH.cons rfl (fun K hK => ?_) AllReadyH.nil
        go_simp
        refine (KBf.out ((World.drew (World.alloc (World.alloc W1 (.cells #[.int .i64 0, .int .i64 0] 31)) (.cells #[.int .i64 0, .int .i64 0] 31))))).mono ?_
        rintro e w33k ⟨rfl, hy⟩
        have B33 := Lib.hid (Late.call (Late.drew (W := (World.alloc (World.alloc W1 (.cells #[.int .i64 0, .int .i64 0] 31)) (.cells #[.int .i64 0, .int .i64 0] 31))) (Late.alloc (Late.alloc KB.out (.cells #[.int .i64 0, .int .i64 0] 31)) (.cells #[.int .i64 0, .int .i64 0] 31))) hy)
        have P33 := Lib.hid (Late.call (Late.drew (W := (World.alloc (World.alloc W1 (.cells #[.int .i64 0, .int .i64 0] 31)) (.cells #[.int .i64 0, .int .i64 0] 31))) (Late.made (W := (World.alloc W1 (.cells #[.int .i64 0, .int .i64 0] 31))) (Late.alloc KB.out (.cells #[.int .i64 0, .int .i64 0] 31)).bel (.int .i64 0) (.int .i64 0) 31)) hy)
        have Q33 := Lib.hid (Late.call (Late.drew (W := (World.alloc (World.alloc W1 (.cells #[.int .i64 0, .int .i64 0] 31)) (.cells #[.int .i64 0, .int .i64 0] 31))) (Late.alloc (Late.made (W := W1) KB.out.bel (.int .i64 0) (.int .i64 0) 31) (.cells #[.int .i64 0, .int .i64 0] 31))) hy)
        clear hy
        go_wp2_with fail
        refine hK.out _ _ ?hs2w7w6a (fun hHeld => ?_)
        case hs2w7w6a => (try dsimp only); exact ⟨B33.out.blk.two.1, B33.out.bel.size⟩
        clear hK K
        try simp only [Act.put, List.setIfInBounds_toArray, List.set_cons_zero, List.set_cons_succ, List.getElem_toArray, List.getElem_cons_succ, List.getElem_cons_zero]
        refine wpAnyH_ready (rs := [5]) (by kernel_rfl) (by simp) ?_
        refine AllReadyH.cons rfl (fun K hK => ?_) AllReadyH.nil
        go_simp
        refine (KAf.out (w33k)).mono ?_
        rintro e w34k ⟨rfl, hy⟩
        have B34 := Lib.hid (Late.call B33.out hy)
        have P34 := Lib.hid (Late.call P33.out hy)
        have Q34 := Lib.hid (Late.call Q33.out hy)
        clear hy
        go_wp2_with fail
        refine hK.out _ _ ?hs5w7w6a (fun hHeld => ?_)
        case hs5w7w6a => (try dsimp only); exact ⟨B34.out.blk.two.1, B34.out.bel.size⟩
        clear hK K
        try simp only [Act.put, List.setIfInBounds_toArray, List.set_cons_zero, List.set_cons_succ, List.getElem_toArray, List.getElem_cons_succ, List.getElem_cons_zero]
        refine wpAnyH_ready (rs := [8]) (by kernel_rfl) (by simp) ?_
        refine AllReadyH.cons rfl (fun K hK => ?_) AllReadyH.nil
        have LP := P34.out
        have LQ := Q34.out
        have LB := B34.out
        try simp only [World.size_alloc] at LP
        try simp only [World.size_alloc] at LQ
        try simp only [World.size_alloc] at hpq
        try simp only [World.size_alloc] at hnb32
        try simp only [World.size_alloc] at hnb26
        have GP := Lib.hid LP
        have GQ := Lib.hid LQ
        have GB := Lib.hid LB
        obtain ⟨⟨p0, p1⟩, p2, p3⟩ := LP.blk.two
        have NB := Lib.hid hnb32
        have NQ := Lib.hid hnb26
        have NP := Lib.hid hpq
        clear LP LQ LB hpq hnb32 hnb26
        go_simp
        refine hK.out _ _ ?hs8w7w6a (fun hHeld => ?_)
        case hs8w7w6a => (try dsimp only); exact ⟨GB.out.blk.keep2 NB.out _ _, (GP.out.put _ _).bel.size⟩
        clear hK K
        try simp only [Act.put, List.setIfInBounds_toArray, List.set_cons_zero, List.set_cons_succ, List.getElem_toArray, List.getElem_cons_succ, List.getElem_cons_zero]
        refine wpAnyH_ready (rs := [9]) (by kernel_rfl) (by simp) ?_
        refine AllReadyH.cons rfl (fun K hK => ?_) AllReadyH.nil
        have HP := Lib.hid (GP.out.put (.int .i64 e1) (.int .i64 e2))
        have HQ := Lib.hid (GQ.out.keep GP.out (Ne.symm NP.out) (.int .i64 e1) (.int .i64 e2))
        have HB := Lib.hid (GB.out.keep GP.out NB.out (.int .i64 e1) (.int .i64 e2))
        clear p0 p1 p2 p3 GP GQ GB
        obtain ⟨W10, hW10⟩ : ∃ W10, World.setCell (World.setCell w34k ⟨(World.heap W1).size + 1, 0, none⟩ (.int .i64 e1)) ⟨(World.heap W1).size + 1, 1, none⟩ (.int .i64 e2) = W10 := ⟨_, rfl⟩
        rw [hW10] at HP HQ HB hHeld ⊢
        clear hW10
        obtain ⟨⟨q0, q1⟩, q2, q3⟩ := HQ.out.blk.two
        go_simp
        refine hK.out _ _ ?hs9w7w6a (fun hHeld => ?_)
        case hs9w7w6a => (try dsimp only); exact ⟨HB.out.blk.keep2 NQ.out _ _, (HQ.out.put _ _).bel.size⟩
        clear hK K
        try simp only [Act.put, List.setIfInBounds_toArray, List.set_cons_zero, List.set_cons_succ, List.getElem_toArray, List.getElem_cons_succ, List.getElem_cons_zero]
        refine wpAnyH_done (by kernel_rfl) ?_ _
        go_wp2_with fail
        go_meet
        exact ⟨_, _, rfl, rfl, HP.out.keep HQ.out NP.out _ _, HQ.out.put _ _⟩
  case rest =>
    obtain ⟨P, Q, rfl, rfl, hP, hQ⟩ := hcut
    have BC := Lib.hid hP.bel
    have HSC := Lib.hid (HS.out.below hP.bel)
    have HLN := Lib.hid HS.out.len
    have KF := Lib.hid (spFoldL 59 #[.pointer (some ⟨P, 0, none⟩), .pointer (some ⟨Q, 0, none⟩)] enters59 (wStep (x, y)) A n c l wc HSC.out (by omega) (fun k z W v out hz hout hB hO =>
      spWithoutC v out z.1 z.2 (x, y) P Q wc W hO hB (by
        subst hout
        rw [wFold_len]
        have h2 : (l.take k).length ≤ l.length := by rw [List.length_take]; omega
        have h3 := HLN.out
        omega) hP.blk.lt hQ.blk.lt (by rw [HE.out]; exact hP.blk.below hB) (by rw [HLA.out]; exact hQ.blk.below hB)))
    have KN : Hid (∀ A' c' W, Sps W A' (wList l (x, y)).length (wList l (x, y)) → Calls Try.prog 34 #[.slice A' (wList l (x, y)).length c'] W fun e w' => ∃ v r, e = .returned v ∧ IsNorm (wList l (x, y)) r ∧ Ow w' W.heap.size v r ∧ Below W.heap.size W w') :=
      fun A' c' W hW => spNorm A' _ c' _ W hW (wList_i64 H64.out ⟨HX.out, HY.out⟩) (by rw [wList_len]; have := HLN.out; omega)
    have hEq : l.foldl (wStep (x, y)) [] = wList l (x, y) := rfl
    rw [hEq] at KF
    clear hP hQ hEq KBf KAf HE HLA HX HY
    obtain ⟨wl, hwl⟩ : ∃ wl, wList l (x, y) = wl := ⟨_, rfl⟩
    have HWL := Lib.hid hwl
    rw [hwl] at KF KN
    clear hwl
    go_wp2_with fail
    refine KF.out.mono ?_
    rintro e w3 ⟨v3, rfl, ho, hb⟩
    obtain ⟨A3, c3, rfl, _, hsp⟩ := ho.sps
    have K3 := Lib.hid (KN.out A3 c3 w3 hsp)
    have B3 := Lib.hid (bstep BC.out hb BC.out.size)
    clear ho hb hsp KF KN
    go_wp2_with fail
    refine K3.out.mono ?_
    rintro e w4 ⟨v4, r, rfl, hi, ho, hb⟩
    have HI := Lib.hid hi
    have HO := Lib.hid (Ow.mono ho B3.out.size)
    have B4 := Lib.hid (bstep B3.out hb B3.out.size)
    clear hi ho hb
    go_wp2
    go_ret
    exact ⟨_, _, rfl, by rw [HWL.out]; exact HI.out, HO.out, B4.out⟩
end Go.Proofs.Ytlmmoinmlcpmnaa
