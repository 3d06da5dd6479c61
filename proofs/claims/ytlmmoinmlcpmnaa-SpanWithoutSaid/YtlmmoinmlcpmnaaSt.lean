/-
  The law SpanWithout.
-/
import Derived.Test.YtlmmoinmlcpmnaaSr
namespace Go.Proofs.Ytlmmoinmlcpmnaa
open Go.RowKit
set_option linter.unusedVariables false
set_option linter.unusedSimpArgs false
set_option maxRecDepth 4000

theorem Sps.news {w : World} {a : Addr} {n : Nat} {l : List Sp} (h : Sps w (some a) n l) : ∀ j u, (spCs l)[j]? = some u → w.cell? (a.add j) = some u := by
  intro j u hu
  have hj : j < l.length * 2 := by
    rcases Nat.lt_or_ge j (spCs l).length with q | q
    · rwa [spCs_len] at q
    · rw [List.getElem?_eq_none q] at hu; cases hu
  have hi : j / 2 < l.length := by omega
  obtain ⟨b, o, e, h0, h1⟩ := h.2 (j / 2) _ (List.getElem?_eq_getElem hi)
  cases e
  obtain ⟨e0, e1⟩ := spCs_at l (j / 2) _ (List.getElem?_eq_getElem hi)
  rw [Addr.add_none]
  rcases (show j = j / 2 * 2 ∨ j = j / 2 * 2 + 1 by omega) with q | q
  · rw [← q] at e0 h0
    rw [e0] at hu
    cases hu
    exact h0
  · rw [Nat.add_assoc, ← q] at h1
    rw [← q] at e1
    rw [e1] at hu
    cases hu
    exact h1
theorem Blk.notRow {w : World} {g B size k : Nat} {t e : TypeId} {v : Value} {cs xs : List Value} (h : Blk w g t cs) (ho : w.ownsRow B e size v k xs) (hne : t ≠ e) : v.ownBlock ≠ some g := by
  rcases ho.2 with ⟨rfl, _⟩ | ⟨g', cap, cur, rfl, _, hc, _⟩
  · simp [Value.ownBlock]
  · intro hh
    simp only [Value.ownBlock, Option.some.injEq] at hh
    subst hh
    have := h.symm.trans hc
    simp at this
    exact hne this.2
theorem Owr.made (w : World) {B : Nat} (hB : B ≤ w.heap.size) : Owr (w.alloc (.cells #[] 30)) B (.slice (some ⟨w.heap.size, 0, none⟩) 0 0) [] := World.ownsRow_made w #[] 0 hB (Nat.zero_le _) rfl

/-- append(own, spans..), as a step of a region. -/
theorem step_appendS {w : World} {ops : Array Oper} {o : Oper} {a : Act} {K : Act → World → Prop} {Q : Exit → Act → World → Prop} {E : Prop} (hgd : o.guard = none) (s x : Operand)
    (ho : o.op = .call { callee := .builtin .append, args := #[s, x], argTypes := #[44, 44] })
    (base : Nat) (v : Value) (l : List Sp) (hs : a.eval s = v) (hown : Owr w base v l)
    (A : Option Addr) (m c : Nat) (r : List Sp) (hx : a.eval x = .slice A m c) (hr : Sps w A m r) (hb : l.length + m ≤ 1099511627776) (hbase : base ≤ w.heap.size)
    (h : ∀ v' w', Owr w' base v' (l ++ r) → w.grownBy w' v.ownBlock → K (a.put o.dst v') w') :
    if Region.wanted o (yielded ops a.tmps) = true then Oper.wp Try.prog o a w K Q else E := by
  obtain ⟨i1, hi1, hz0, hz1, hz2⟩ := info_parts rs_info
  obtain ⟨rfl, hr0⟩ := id hr
  rcases A with _ | ad
  · have hn : r = [] := by
      rcases r with _ | ⟨z, r⟩
      · rfl
      · obtain ⟨_, _, e, _⟩ := hr0 0 z rfl; cases e
    subst hn
    have hrun : (Builtin.append_ #[44, 44] o.type #[v, .slice none ([] : List Sp).length c]).run Try.prog w = .ok v w := by
      rcases hown.2 with ⟨rfl, h0⟩ | ⟨g, cap, cur, rfl, _, _, hnc, _⟩
      · simp [Builtin.append_, run_underlying Try.underlying44, sizeOf, typeInfo, hi1, Builtin.lenOf, Builtin.firstCells]
      · simp [Builtin.append_, run_underlying Try.underlying44, sizeOf, typeInfo, hi1, Builtin.lenOf, Builtin.firstCells, hnc, storeCells]
    have hw : Region.wanted o (yielded ops a.tmps) = true := by simp [Region.wanted, hgd]
    rw [if_pos hw]
    unfold Oper.wp execOp
    simp only [ho, resolve, invoke, builtin, Sem.run_bind, Sem.run_pure, Result.andThen_ok, List.map_toArray, List.map_cons, List.map_nil, hs, hx, hrun]
    exact h v w (by simpa using hown) (World.grownBy.refl w _)
  · refine step_appendF hgd s x 44 ho base 30 i1 (.agg #[.int .i64 0, .int .i64 0]) 2 16 Try.underlying44 hi1 hz0 hz1 hz2 rfl (by omega) v l.length (spCs l) hs hown ad r.length c (spCs r) hx (spCs_len r) hr.news (spC_one _) (by unfold maxLen; omega) (by omega) hbase ?_
    intro v' w' hrow hgrow _
    refine h v' w' ?_ hgrow
    unfold Owr
    rw [spCs_append, List.length_append]
    exact hrow
theorem Blk.sps1 {w : World} {g : Nat} {x y : Int} (h : Blk w g 30 (spCs [(x, y)])) : Sps w (some ⟨g, 0, none⟩) 1 [(x, y)] := blk_sps h
theorem Blk.vs1 {w : World} {g : Nat} {t : Int} (h : Blk w g 3 ([t].map intV)) : Vs w (some ⟨g, 0, none⟩) 1 ([t].map intV) :=
  ⟨rfl, fun i x hx => ⟨g, 0, rfl, by rw [Nat.zero_add, h.cell]; exact hx⟩⟩
theorem Blk.grow {w w' : World} {g : Nat} {t : TypeId} {cs : List Value} {row : Option Nat} (h : Blk w g t cs) (hg : w.grownBy w' row) (hne : some g ≠ row) : Blk w' g t cs := (hg.block _ h.lt hne).trans h

set_option maxHeartbeats 25600000 in
theorem lawWithout (A : Option Addr) (n c : Nat) (l : List Sp) (x y t : Int) (w : World) (h : Sps w A n l) (hl : ∀ s ∈ l, I64s s) (hx : I64 x) (hy : I64 y) (ht : I64 t) :
    Calls Try.prog 7 #[.slice A n c, .agg #[.int .i64 x, .int .i64 y], .int .i64 t] w fun e w' => e = .returned (.bool true) ∧ Below w.heap.size w w' := by
  have KF := Lib.hid (lwFew A n c l (w.alloc (.cells #[.int .i64 x, .int .i64 y] 30)) (h.below (below_alloc1 _ _)))
  have HI := Lib.hid hl
  have HT := Lib.hid ht
  have KK := Lib.hid (fun W => known11 W)
  obtain ⟨m, hm⟩ : ∃ m, l.take 40 = m := ⟨_, rfl⟩
  have hm64 : ∀ s ∈ m, I64s s := by rw [← hm]; exact fun s hs => HI.out s (List.mem_of_mem_take hs)
  have hm40 : m.length ≤ 40 := by rw [← hm, List.length_take]; omega
  rw [hm] at KF
  have M64 := Lib.hid hm64
  obtain ⟨N, hN⟩ : ∃ N, m.length = N := ⟨_, rfl⟩
  have HN := Lib.hid hN
  have hN40 : N ≤ 40 := by omega
  clear h hl hm hm64 hm40 hN ht
  have HNS : Hid (∀ x y W, (binOp .neq 31 (.agg #[.int .i64 x, .int .i64 y]) (.agg #[.int .i64 x, .int .i64 y])).run Try.prog W = .ok (.bool false) W) := fun x y W => by go_simp
  have HNR : Hid (∀ x y W, (binOp .neq 30 (.agg #[.int .i64 x, .int .i64 y]) (.agg #[.int .i64 x, .int .i64 y])).run Try.prog W = .ok (.bool false) W) := fun x y W => by go_simp
  have KO := Lib.hid (fun x y W => lwOf x y W)
  obtain ⟨i1, hi1, hz0, hz1, hz2⟩ := info_parts int_info
  have HX := Lib.hid hx
  have HY := Lib.hid hy
  clear hx hy
  have KT := Lib.hid (fun W => lwTo x y W)
  have L0 := Lib.hid (Late.fst w (.int .i64 x) (.int .i64 y) 30)
  obtain ⟨W1, hW1⟩ : ∃ W1, w.alloc (.cells #[.int .i64 x, .int .i64 y] 30) = W1 := ⟨_, rfl⟩
  rw [hW1] at L0 KF
  go_enter Try.func7, Try.ntmps7
  go_upto_region 1 with (fail)
  clear hW1
  go_wp2_with fail
  refine KF.out.mono ?_
  rintro e x1 ⟨v1, rfl, ho, hb⟩
  obtain ⟨A1, c1, hv, hle1, hs1⟩ := ho.sps
  rw [HN.out] at hv hs1 hle1
  subst hv
  have L1 := Lib.hid (L0.out.call hb)
  have SS : Hid (∀ W, Below x1.heap.size x1 W → W.cell? ⟨w.heap.size, 0, none⟩ = some (.int .i64 x) ∧ W.cell? ⟨w.heap.size, 1, none⟩ = some (.int .i64 y)) := fun W hW => (L1.out.call hW).blk.two.1
  have B1 := Lib.hid L1.out.bel
  have SM : Hid (∀ W, Below x1.heap.size x1 W → Sps W A1 N m) := fun W hW => hs1.below hW
  clear ho hb hs1 KF
  go_wp2_with fail
  refine (lwAll A1 N c1 m x1 (SM.out _ (Below.refl _ _)) (by omega)).mono ?_
  rintro e x2 ⟨v2, rfl, ho, hb⟩
  obtain ⟨A2, c2, hv, hle2, hs2⟩ := ho.sps
  rw [HN.out] at hv hs2 hle2
  subst hv
  have B2 := Lib.hid hb
  have S2 := Lib.hid hs2
  clear ho hb hs2
  obtain ⟨p0, p1⟩ := SS.out _ B2.out
  go_wp2_with fail
  refine (KT.out _).mono ?_
  rintro e xt ⟨rfl, hb⟩
  have B2t := Lib.hid (bstep B2.out hb B2.out.size)
  have S2t := Lib.hid (S2.out.below hb)
  clear hb p0 p1 S2 B2
  go_wp2_with fail
  refine (spWithout A1 N c1 m x y xt (SM.out _ B2t.out) M64.out HX.out HY.out (by omega)).mono ?_
  rintro e x3 ⟨v3, r, rfl, hr, ho, hb⟩
  obtain ⟨A3, c3, hv3, hle3, hs3⟩ := ho.sps
  have HR := Lib.hid hr
  have hlen : r.length ≤ 80 := by have h1 := hr.2.2.2; have h2 := HN.out; rw [wList_len] at h1; omega
  obtain ⟨R, hR⟩ : ∃ R, r.length = R := ⟨_, rfl⟩
  rw [hR] at hv3 hs3 hle3
  subst hv3
  have hRN : R ≤ 80 := by rw [← hR]; omega
  have HRl := Lib.hid hR
  have B3 := Lib.hid (bstep B2t.out hb B2t.out.size)
  have SM3 : Hid (∀ W, Below x3.heap.size x3 W → Sps W A1 N m) := fun W hW => SM.out W (bstep B3.out hW B3.out.size)
  have SW3 : Hid (∀ W, Below x3.heap.size x3 W → Sps W A2 N m) := fun W hW => S2t.out.below (bstep hb hW hb.size)
  have SN3 : Hid (∀ W, Below x3.heap.size x3 W → Sps W A3 R r) := fun W hW => hs3.below hW
  have B13 := Lib.hid (bstep B1.out B3.out B1.out.size)
  have HO : Hid (Ordp r) := hr.1
  have R64 : Hid (∀ s ∈ r, I64s s) := hr.2.2.1
  clear hr ho hb hs3 SM S2t hR hlen
  have ALN : Hid (∀ W, Below x3.heap.size x3 W → Calls Try.prog 31 #[.slice A3 R c3] W fun e w' => ∃ A' c', e = .returned (.slice A' R c') ∧ Sps w' A' R r ∧ Below W.heap.size W w') := by
    intro W hW
    refine (lwAll A3 R c3 r W (SN3.out W hW) (by omega)).mono ?_
    rintro e w' ⟨v, rfl, ho, hb⟩
    obtain ⟨A', c', rfl, _, hs⟩ := ho.sps
    have hh := HRl.out
    rw [hh] at hs ⊢
    exact ⟨A', c', rfl, hs, hb⟩
  have KD : Hid (∀ A' c' W, Sps W A' R r → Calls Try.prog 35 #[.slice A' R c'] W fun e w' => e = .returned (.bool true) ∧ Below W.heap.size W w') := fun A' c' W hW => rfOrdered A' R c' r W hW HO.out R64.out (by omega)
  go_wp2_with fail
  refine (KK.out _).mono ?_
  rintro e x4 ⟨rfl, hb⟩
  have B4 := Lib.hid hb
  clear hb
  go_wp2_with fail
  refine (ALN.out _ B4.out).mono ?_
  rintro e x5 ⟨A5, c5, rfl, hs, hb⟩
  have S5 := Lib.hid hs
  have B5 := Lib.hid (bstep B4.out hb B4.out.size)
  clear hs hb
  go_wp2_with fail
  refine (KD.out _ _ _ S5.out).mono ?_
  rintro e x6 ⟨rfl, hb⟩
  have B6 := Lib.hid (bstep B5.out hb B5.out.size)
  clear hb S5 KD
  have FA : Hid (∀ z, decide (Anyp r z) = (decide (Anyp m z) && !decide (Inn (x, y) z))) := fun z => by
    have h1 := (HR.out.2.1 z).trans (anyp_wList M64.out z)
    by_cases g1 : Anyp m z <;> by_cases g2 : Inn (x, y) z <;> simp [h1, g1, g2]
  have S3S : Hid (∀ W, Below x3.heap.size x3 W → W.cell? ⟨w.heap.size, 0, none⟩ = some (.int .i64 x) ∧ W.cell? ⟨w.heap.size, 1, none⟩ = some (.int .i64 y)) := fun W hW => SS.out W (bstep B3.out hW B3.out.size)
  obtain ⟨mm, hmm⟩ : ∃ q, m ++ [(x, y)] = q := ⟨_, rfl⟩
  have HML : Hid (mm.length = N + 1) := by unfold Hid; have := HN.out; rw [← hmm]; simp; omega
  have M641 : Hid (∀ s ∈ mm, I64s s) := by
    intro s hs
    rw [← hmm] at hs
    rcases List.mem_append.1 hs with q | q
    · exact M64.out s q
    · rw [List.mem_singleton.1 q]; exact ⟨HX.out, HY.out⟩
  have HMM := Lib.hid hmm
  clear hmm
  clear HR SS B4 B5
  go_upto_region 6 with (fail)
  have B7 := Lib.hid (Below.drew B6.out)
  go_cut [10] from 11 (fun v wc => ∃ A8 c8 T G, v = .slice A8 T c8 ∧ T ≤ 1000 ∧ Zs wc A8 T G ∧ Below x3.heap.size x3 wc)
  case first =>
    refine wp_region_held_drew (S := fun W => W.cell? ⟨w.heap.size, 0, none⟩ = some (.int .i64 x) ∧ W.cell? ⟨w.heap.size, 1, none⟩ = some (.int .i64 y)) (by kernel_rfl) ?hb0 (fun hHeld => ?_)
    case hb0 => (try dsimp only); exact S3S.out _ B7.out
    refine wpAnyH_take (i := 1) (v := ?qv1e) rfl (by kernel_rfl) (by kernel_rfl) (by kernel_rfl) (fun _ _ _ h => h) (Or.inl ⟨by kernel_rfl, ?qy1e⟩) (by assumption) ?_
    case qy1e => (intro w hSw; (try dsimp only at hSw); go_simp) <;> (try with_reducible rfl)
    try simp only [Act.put, List.setIfInBounds_toArray, List.set_cons_zero, List.set_cons_succ, List.getElem_toArray, List.getElem_cons_succ, List.getElem_cons_zero]
    refine wpAnyH_take (i := 3) (v := ?qv3e) rfl (by kernel_rfl) (by kernel_rfl) (by kernel_rfl) (fun _ _ _ h => h) (Or.inl ⟨by kernel_rfl, ?qy3e⟩) (by assumption) ?_
    case qy3e => (intro w hSw; (try dsimp only at hSw); go_simp) <;> (try with_reducible rfl)
    try simp only [Act.put, List.setIfInBounds_toArray, List.set_cons_zero, List.set_cons_succ, List.getElem_toArray, List.getElem_cons_succ, List.getElem_cons_zero]
    refine wpAnyH_take (i := 7) (v := ?qv7e) rfl (by kernel_rfl) (by kernel_rfl) (by kernel_rfl) (fun _ _ _ h => h) (Or.inl ⟨by kernel_rfl, ?qy7e⟩) (by assumption) ?_
    case qy7e => (intro w hSw; (try dsimp only at hSw); go_simp) <;> (try with_reducible rfl)
    try simp only [Act.put, List.setIfInBounds_toArray, List.set_cons_zero, List.set_cons_succ, List.getElem_toArray, List.getElem_cons_succ, List.getElem_cons_zero]
    refine wpAnyH_ready (rs := [0, 4, 8]) (by kernel_rfl) (by simp) ?_
    refine AllReadyH.cons rfl (fun K hK => ?_) (AllReadyH.cons rfl (fun K hK => ?_) (AllReadyH.cons rfl (fun K hK => ?_) (AllReadyH.nil)))
    · go_simp
      have B1 := Lib.hid (Below.alloc B7.out B7.out.size (.cells #[] 30))
      have O1 : Hid (Owr (World.alloc (World.drew x6) (.cells #[] 30)) x3.heap.size (.slice (some ⟨(World.heap (World.drew x6)).size, 0, none⟩) 0 0) []) := by have h := Owr.made (World.drew x6) B7.out.size; (try simp only [World.size_alloc] at h); exact h
      refine hK.out _ _ ?hs0ea (fun hHeld => ?_)
      case hs0ea => (try dsimp only); exact S3S.out _ B1.out
      clear hK K
      try simp only [Act.put, List.setIfInBounds_toArray, List.set_cons_zero, List.set_cons_succ, List.getElem_toArray, List.getElem_cons_succ, List.getElem_cons_zero]
      refine wpAnyH_ready (rs := [2, 4, 8]) (by kernel_rfl) (by simp) ?_
      refine AllReadyH.cons rfl (fun K hK => ?_) (AllReadyH.cons rfl (fun K hK => ?_) (AllReadyH.cons rfl (fun K hK => ?_) (AllReadyH.nil)))
      · refine step_appendS rfl _ _ rfl x3.heap.size _ [] rfl O1.out _ _ _ m rfl (SW3.out _ B1.out) (by simp; omega) B1.out.size ?_
        intro v2k w2k hrow hgrow
        have B2 := Lib.hid (Below.grown B1.out hgrow B1.out.size (fun q hq => (World.ownsRow.lt O1.out q hq).1))
        rw [List.nil_append] at hrow
        have O2 := Lib.hid hrow
        clear hrow hgrow
        refine hK.out _ _ ?hs2ew0a (fun hHeld => ?_)
        case hs2ew0a => (try dsimp only); exact S3S.out _ B2.out
        clear hK K
        try simp only [Act.put, List.setIfInBounds_toArray, List.set_cons_zero, List.set_cons_succ, List.getElem_toArray, List.getElem_cons_succ, List.getElem_cons_zero]
        refine wpAnyH_ready (rs := [4, 8]) (by kernel_rfl) (by simp) ?_
        refine AllReadyH.cons rfl (fun K hK => ?_) (AllReadyH.cons rfl (fun K hK => ?_) (AllReadyH.nil))
        · go_simp
          have B3 := Lib.hid (Below.alloc B2.out B2.out.size (.cells #[.int .i64 x, .int .i64 y] 30))
          have O3 := Lib.hid (Owr.alloc O2.out (.cells #[.int .i64 x, .int .i64 y] 30))
          have b3 : Hid (Blk (World.alloc w2k (.cells #[.int .i64 x, .int .i64 y] 30)) ((World.heap w2k).size) 30 (spCs [(x, y)])) := by have h := Blk.new w2k (spCs [(x, y)]) 30; (try simp only [World.size_alloc] at h); exact h
          refine hK.out _ _ ?hs4ew0w2a (fun hHeld => ?_)
          case hs4ew0w2a => (try dsimp only); exact S3S.out _ B3.out
          clear hK K
          try simp only [Act.put, List.setIfInBounds_toArray, List.set_cons_zero, List.set_cons_succ, List.getElem_toArray, List.getElem_cons_succ, List.getElem_cons_zero]
          refine wpAnyH_ready (rs := [5, 8]) (by kernel_rfl) (by simp) ?_
          refine AllReadyH.cons rfl (fun K hK => ?_) (AllReadyH.cons rfl (fun K hK => ?_) (AllReadyH.nil))
          · refine step_appendS rfl _ _ rfl x3.heap.size _ m rfl O3.out _ _ _ [(x, y)] rfl b3.out.sps1 (by have := HN.out; omega) B3.out.size ?_
            intro v4k w4k hrow hgrow
            have B4 := Lib.hid (Below.grown B3.out hgrow B3.out.size (fun q hq => (World.ownsRow.lt O3.out q hq).1))
            rw [HMM.out] at hrow
            have O4 := Lib.hid hrow
            obtain ⟨AE, cE, hvE, _, hsE⟩ := Owr.sps O4.out
            rw [HML.out] at hvE hsE
            subst hvE
            have SE := Lib.hid hsE
            clear hsE
            clear hrow hgrow
            refine hK.out _ _ ?hs5ew0w2w4a (fun hHeld => ?_)
            case hs5ew0w2w4a => (try dsimp only); exact S3S.out _ B4.out
            clear hK K
            try simp only [Act.put, List.setIfInBounds_toArray, List.set_cons_zero, List.set_cons_succ, List.getElem_toArray, List.getElem_cons_succ, List.getElem_cons_zero]
            refine wpAnyH_ready (rs := [6, 8]) (by kernel_rfl) (by simp) ?_
            refine AllReadyH.cons rfl (fun K hK => ?_) (AllReadyH.cons rfl (fun K hK => ?_) (AllReadyH.nil))
            · go_simp
              refine (rfEdges AE _ cE mm w4k SE.out M641.out (by omega)).mono ?_
              rintro e w5k ⟨vF, EE, rfl, hoF, he, hel, hy⟩
              have B5 := Lib.hid (bstep B4.out hy B4.out.size)
              have v5 := Lib.hid (Ov.mono hoF B4.out.size)
              have HEL : Hid (EE.length ≤ 300) := by have := HML.out; have := HN.out; unfold Hid; omega
              have HE9 : Hid (EE.length + [t].length ≤ 1000) := by have := HEL.out; unfold Hid; rw [List.length_singleton]; omega
              clear hoF he hel hy
              go_wp2_with fail
              refine hK.out _ _ ?hs6ew0w2w4w5a (fun hHeld => ?_)
              case hs6ew0w2w4w5a => (try dsimp only); exact S3S.out _ B5.out
              clear hK K
              try simp only [Act.put, List.setIfInBounds_toArray, List.set_cons_zero, List.set_cons_succ, List.getElem_toArray, List.getElem_cons_succ, List.getElem_cons_zero]
              refine wpAnyH_ready (rs := [8]) (by kernel_rfl) (by simp) ?_
              refine AllReadyH.cons rfl (fun K hK => ?_) AllReadyH.nil
              go_simp
              have B6 := Lib.hid (Below.alloc B5.out B5.out.size (.cells #[.int .i64 t] 3))
              have v6 := Lib.hid (Ov.alloc v5.out (.cells #[.int .i64 t] 3))
              have c6 : Hid (Blk (World.alloc w5k (.cells #[.int .i64 t] 3)) ((World.heap w5k).size) 3 ([t].map intV)) := by have h := Blk.new w5k ([t].map intV) 3; (try simp only [World.size_alloc] at h); exact h
              refine hK.out _ _ ?hs8ew0w2w4w5w6a (fun hHeld => ?_)
              case hs8ew0w2w4w5w6a => (try dsimp only); exact S3S.out _ B6.out
              clear hK K
              try simp only [Act.put, List.setIfInBounds_toArray, List.set_cons_zero, List.set_cons_succ, List.getElem_toArray, List.getElem_cons_succ, List.getElem_cons_zero]
              refine wpAnyH_ready (rs := [9]) (by kernel_rfl) (by simp) ?_
              refine AllReadyH.cons rfl (fun K hK => ?_) AllReadyH.nil
              refine step_appendV rfl _ _ 22 rfl x3.heap.size 3 i1 (.int .i64 0) Try.underlying22 hi1 hz0 hz1 (by omega) rfl _ (EE.map intV) rfl v6.out _ 1 1 ([t].map intV) rfl c6.out.vs1 (ints_one _) (by have := HEL.out; rw [List.length_map]; omega) B6.out.size ?_
              intro vG w7k hov hgr _ _
              have B7 := Lib.hid (Below.grown B6.out hgr B6.out.size (fun q hq => (Ov.lt v6.out q hq).1))
              have G7 := Lib.hid hov
              clear hov hgr
              refine hK.out _ _ ?hs9ew0w2w4w5w6a (fun hHeld => ?_)
              case hs9ew0w2w4w5w6a => (try dsimp only); exact S3S.out _ B7.out
              clear hK K
              try simp only [Act.put, List.setIfInBounds_toArray, List.set_cons_zero, List.set_cons_succ, List.getElem_toArray, List.getElem_cons_succ, List.getElem_cons_zero]
              refine wpAnyH_take (i := 10) (v := ?qv10ew0w2w4w5w6) rfl (by kernel_rfl) (by kernel_rfl) (by kernel_rfl) (fun _ _ _ h => h) (Or.inl ⟨by kernel_rfl, ?qy10ew0w2w4w5w6⟩) (by assumption) ?_
              case qy10ew0w2w4w5w6 => (intro w hSw; (try dsimp only at hSw); go_simp) <;> (try with_reducible rfl)
              try simp only [Act.put, List.setIfInBounds_toArray, List.set_cons_zero, List.set_cons_succ, List.getElem_toArray, List.getElem_cons_succ, List.getElem_cons_zero]
              refine wpAnyH_done (by kernel_rfl) ?_ _
              clear hHeld
              go_wp2_with fail
              go_meet
              obtain ⟨AG, cG, rfl, hleG, hvsG⟩ := Ov.slice G7.out
              rw [← List.map_append] at hvsG hleG ⊢
              exact ⟨_, _, _, _, rfl, by rw [List.length_map, List.length_append]; exact HE9.out, hvsG, B7.out⟩
            · go_simp
              have B8 := Lib.hid (Below.alloc B4.out B4.out.size (.cells #[.int .i64 t] 3))
              have O8 := Lib.hid (Owr.alloc O4.out (.cells #[.int .i64 t] 3))
              have c8 : Hid (Blk (World.alloc w4k (.cells #[.int .i64 t] 3)) ((World.heap w4k).size) 3 ([t].map intV)) := by have h := Blk.new w4k ([t].map intV) 3; (try simp only [World.size_alloc] at h); exact h
              refine hK.out _ _ ?hs8ew0w2w4w5a (fun hHeld => ?_)
              case hs8ew0w2w4w5a => (try dsimp only); exact S3S.out _ B8.out
              clear hK K
              try simp only [Act.put, List.setIfInBounds_toArray, List.set_cons_zero, List.set_cons_succ, List.getElem_toArray, List.getElem_cons_succ, List.getElem_cons_zero]
              refine wpAnyH_ready (rs := [6]) (by kernel_rfl) (by simp) ?_
              refine AllReadyH.cons rfl (fun K hK => ?_) AllReadyH.nil
              go_simp
              refine (rfEdges AE _ cE mm (World.alloc w4k (.cells #[.int .i64 t] 3)) (Sps.below SE.out (below_alloc1 _ _)) M641.out (by omega)).mono ?_
              rintro e w9k ⟨vF, EE, rfl, hoF, he, hel, hy⟩
              have B9 := Lib.hid (bstep B8.out hy B8.out.size)
              have v9 := Lib.hid (Ov.mono hoF B8.out.size)
              have HEL : Hid (EE.length ≤ 300) := by have := HML.out; have := HN.out; unfold Hid; omega
              have HE9 : Hid (EE.length + [t].length ≤ 1000) := by have := HEL.out; unfold Hid; rw [List.length_singleton]; omega
              have c9 := Lib.hid (Blk.below c8.out hy)
              clear hoF he hel hy
              go_wp2_with fail
              refine hK.out _ _ ?hs6ew0w2w4w5w8a (fun hHeld => ?_)
              case hs6ew0w2w4w5w8a => (try dsimp only); exact S3S.out _ B9.out
              clear hK K
              try simp only [Act.put, List.setIfInBounds_toArray, List.set_cons_zero, List.set_cons_succ, List.getElem_toArray, List.getElem_cons_succ, List.getElem_cons_zero]
              refine wpAnyH_ready (rs := [9]) (by kernel_rfl) (by simp) ?_
              refine AllReadyH.cons rfl (fun K hK => ?_) AllReadyH.nil
              refine step_appendV rfl _ _ 22 rfl x3.heap.size 3 i1 (.int .i64 0) Try.underlying22 hi1 hz0 hz1 (by omega) rfl _ (EE.map intV) rfl v9.out _ 1 1 ([t].map intV) rfl c9.out.vs1 (ints_one _) (by have := HEL.out; rw [List.length_map]; omega) B9.out.size ?_
              intro vG w10k hov hgr _ _
              have B10 := Lib.hid (Below.grown B9.out hgr B9.out.size (fun q hq => (Ov.lt v9.out q hq).1))
              have G10 := Lib.hid hov
              clear hov hgr
              refine hK.out _ _ ?hs9ew0w2w4w5w8a (fun hHeld => ?_)
              case hs9ew0w2w4w5w8a => (try dsimp only); exact S3S.out _ B10.out
              clear hK K
              try simp only [Act.put, List.setIfInBounds_toArray, List.set_cons_zero, List.set_cons_succ, List.getElem_toArray, List.getElem_cons_succ, List.getElem_cons_zero]
              refine wpAnyH_take (i := 10) (v := ?qv10ew0w2w4w5w8) rfl (by kernel_rfl) (by kernel_rfl) (by kernel_rfl) (fun _ _ _ h => h) (Or.inl ⟨by kernel_rfl, ?qy10ew0w2w4w5w8⟩) (by assumption) ?_
              case qy10ew0w2w4w5w8 => (intro w hSw; (try dsimp only at hSw); go_simp) <;> (try with_reducible rfl)
              try simp only [Act.put, List.setIfInBounds_toArray, List.set_cons_zero, List.set_cons_succ, List.getElem_toArray, List.getElem_cons_succ, List.getElem_cons_zero]
              refine wpAnyH_done (by kernel_rfl) ?_ _
              clear hHeld
              go_wp2_with fail
              go_meet
              obtain ⟨AG, cG, rfl, hleG, hvsG⟩ := Ov.slice G10.out
              rw [← List.map_append] at hvsG hleG ⊢
              exact ⟨_, _, _, _, rfl, by rw [List.length_map, List.length_append]; exact HE9.out, hvsG, B10.out⟩
          · go_simp
            have B11 := Lib.hid (Below.alloc B3.out B3.out.size (.cells #[.int .i64 t] 3))
            have O11 := Lib.hid (Owr.alloc O3.out (.cells #[.int .i64 t] 3))
            have b11 := Lib.hid (Blk.alloc b3.out (.cells #[.int .i64 t] 3))
            have c11 : Hid (Blk (World.alloc (World.alloc w2k (.cells #[.int .i64 x, .int .i64 y] 30)) (.cells #[.int .i64 t] 3)) ((World.heap w2k).size + 1) 3 ([t].map intV)) := by have h := Blk.new (World.alloc w2k (.cells #[.int .i64 x, .int .i64 y] 30)) ([t].map intV) 3; (try simp only [World.size_alloc] at h); exact h
            refine hK.out _ _ ?hs8ew0w2w4a (fun hHeld => ?_)
            case hs8ew0w2w4a => (try dsimp only); exact S3S.out _ B11.out
            clear hK K
            try simp only [Act.put, List.setIfInBounds_toArray, List.set_cons_zero, List.set_cons_succ, List.getElem_toArray, List.getElem_cons_succ, List.getElem_cons_zero]
            refine wpAnyH_ready (rs := [5]) (by kernel_rfl) (by simp) ?_
            refine AllReadyH.cons rfl (fun K hK => ?_) AllReadyH.nil
            refine step_appendS rfl _ _ rfl x3.heap.size _ m rfl O11.out _ _ _ [(x, y)] rfl b11.out.sps1 (by have := HN.out; omega) B11.out.size ?_
            intro v12k w12k hrow hgrow
            have B12 := Lib.hid (Below.grown B11.out hgrow B11.out.size (fun q hq => (World.ownsRow.lt O11.out q hq).1))
            rw [HMM.out] at hrow
            have O12 := Lib.hid hrow
            have c12 := Lib.hid (Blk.grow c11.out hgrow (Ne.symm (Blk.notRow c11.out O11.out (by decide))))
            obtain ⟨AE, cE, hvE, _, hsE⟩ := Owr.sps O12.out
            rw [HML.out] at hvE hsE
            subst hvE
            have SE := Lib.hid hsE
            clear hsE
            clear hrow hgrow
            refine hK.out _ _ ?hs5ew0w2w4w8a (fun hHeld => ?_)
            case hs5ew0w2w4w8a => (try dsimp only); exact S3S.out _ B12.out
            clear hK K
            try simp only [Act.put, List.setIfInBounds_toArray, List.set_cons_zero, List.set_cons_succ, List.getElem_toArray, List.getElem_cons_succ, List.getElem_cons_zero]
            refine wpAnyH_ready (rs := [6]) (by kernel_rfl) (by simp) ?_
            refine AllReadyH.cons rfl (fun K hK => ?_) AllReadyH.nil
            go_simp
            refine (rfEdges AE _ cE mm w12k SE.out M641.out (by omega)).mono ?_
            rintro e w13k ⟨vF, EE, rfl, hoF, he, hel, hy⟩
            have B13 := Lib.hid (bstep B12.out hy B12.out.size)
            have v13 := Lib.hid (Ov.mono hoF B12.out.size)
            have HEL : Hid (EE.length ≤ 300) := by have := HML.out; have := HN.out; unfold Hid; omega
            have HE9 : Hid (EE.length + [t].length ≤ 1000) := by have := HEL.out; unfold Hid; rw [List.length_singleton]; omega
            have c13 := Lib.hid (Blk.below c12.out hy)
            clear hoF he hel hy
            go_wp2_with fail
            refine hK.out _ _ ?hs6ew0w2w4w8a (fun hHeld => ?_)
            case hs6ew0w2w4w8a => (try dsimp only); exact S3S.out _ B13.out
            clear hK K
            try simp only [Act.put, List.setIfInBounds_toArray, List.set_cons_zero, List.set_cons_succ, List.getElem_toArray, List.getElem_cons_succ, List.getElem_cons_zero]
            refine wpAnyH_ready (rs := [9]) (by kernel_rfl) (by simp) ?_
            refine AllReadyH.cons rfl (fun K hK => ?_) AllReadyH.nil
            refine step_appendV rfl _ _ 22 rfl x3.heap.size 3 i1 (.int .i64 0) Try.underlying22 hi1 hz0 hz1 (by omega) rfl _ (EE.map intV) rfl v13.out _ 1 1 ([t].map intV) rfl c13.out.vs1 (ints_one _) (by have := HEL.out; rw [List.length_map]; omega) B13.out.size ?_
            intro vG w14k hov hgr _ _
            have B14 := Lib.hid (Below.grown B13.out hgr B13.out.size (fun q hq => (Ov.lt v13.out q hq).1))
            have G14 := Lib.hid hov
            clear hov hgr
            refine hK.out _ _ ?hs9ew0w2w4w8a (fun hHeld => ?_)
            case hs9ew0w2w4w8a => (try dsimp only); exact S3S.out _ B14.out
            clear hK K
            try simp only [Act.put, List.setIfInBounds_toArray, List.set_cons_zero, List.set_cons_succ, List.getElem_toArray, List.getElem_cons_succ, List.getElem_cons_zero]
            refine wpAnyH_take (i := 10) (v := ?qv10ew0w2w4w8) rfl (by kernel_rfl) (by kernel_rfl) (by kernel_rfl) (fun _ _ _ h => h) (Or.inl ⟨by kernel_rfl, ?qy10ew0w2w4w8⟩) (by assumption) ?_
            case qy10ew0w2w4w8 => (intro w hSw; (try dsimp only at hSw); go_simp) <;> (try with_reducible rfl)
            try simp only [Act.put, List.setIfInBounds_toArray, List.set_cons_zero, List.set_cons_succ, List.getElem_toArray, List.getElem_cons_succ, List.getElem_cons_zero]
            refine wpAnyH_done (by kernel_rfl) ?_ _
            clear hHeld
            go_wp2_with fail
            go_meet
            obtain ⟨AG, cG, rfl, hleG, hvsG⟩ := Ov.slice G14.out
            rw [← List.map_append] at hvsG hleG ⊢
            exact ⟨_, _, _, _, rfl, by rw [List.length_map, List.length_append]; exact HE9.out, hvsG, B14.out⟩
        · go_simp
          have B15 := Lib.hid (Below.alloc B2.out B2.out.size (.cells #[.int .i64 t] 3))
          have O15 := Lib.hid (Owr.alloc O2.out (.cells #[.int .i64 t] 3))
          have c15 : Hid (Blk (World.alloc w2k (.cells #[.int .i64 t] 3)) ((World.heap w2k).size) 3 ([t].map intV)) := by have h := Blk.new w2k ([t].map intV) 3; (try simp only [World.size_alloc] at h); exact h
          refine hK.out _ _ ?hs8ew0w2a (fun hHeld => ?_)
          case hs8ew0w2a => (try dsimp only); exact S3S.out _ B15.out
          clear hK K
          try simp only [Act.put, List.setIfInBounds_toArray, List.set_cons_zero, List.set_cons_succ, List.getElem_toArray, List.getElem_cons_succ, List.getElem_cons_zero]
          refine wpAnyH_ready (rs := [4]) (by kernel_rfl) (by simp) ?_
          refine AllReadyH.cons rfl (fun K hK => ?_) AllReadyH.nil
          go_simp
          have B16 := Lib.hid (Below.alloc B15.out B15.out.size (.cells #[.int .i64 x, .int .i64 y] 30))
          have O16 := Lib.hid (Owr.alloc O15.out (.cells #[.int .i64 x, .int .i64 y] 30))
          have c16 := Lib.hid (Blk.alloc c15.out (.cells #[.int .i64 x, .int .i64 y] 30))
          have b16 : Hid (Blk (World.alloc (World.alloc w2k (.cells #[.int .i64 t] 3)) (.cells #[.int .i64 x, .int .i64 y] 30)) ((World.heap w2k).size + 1) 30 (spCs [(x, y)])) := by have h := Blk.new (World.alloc w2k (.cells #[.int .i64 t] 3)) (spCs [(x, y)]) 30; (try simp only [World.size_alloc] at h); exact h
          refine hK.out _ _ ?hs4ew0w2w8a (fun hHeld => ?_)
          case hs4ew0w2w8a => (try dsimp only); exact S3S.out _ B16.out
          clear hK K
          try simp only [Act.put, List.setIfInBounds_toArray, List.set_cons_zero, List.set_cons_succ, List.getElem_toArray, List.getElem_cons_succ, List.getElem_cons_zero]
          refine wpAnyH_ready (rs := [5]) (by kernel_rfl) (by simp) ?_
          refine AllReadyH.cons rfl (fun K hK => ?_) AllReadyH.nil
          refine step_appendS rfl _ _ rfl x3.heap.size _ m rfl O16.out _ _ _ [(x, y)] rfl b16.out.sps1 (by have := HN.out; omega) B16.out.size ?_
          intro v17k w17k hrow hgrow
          have B17 := Lib.hid (Below.grown B16.out hgrow B16.out.size (fun q hq => (World.ownsRow.lt O16.out q hq).1))
          rw [HMM.out] at hrow
          have O17 := Lib.hid hrow
          have c17 := Lib.hid (Blk.grow c16.out hgrow (Ne.symm (Blk.notRow c16.out O16.out (by decide))))
          obtain ⟨AE, cE, hvE, _, hsE⟩ := Owr.sps O17.out
          rw [HML.out] at hvE hsE
          subst hvE
          have SE := Lib.hid hsE
          clear hsE
          clear hrow hgrow
          refine hK.out _ _ ?hs5ew0w2w8a (fun hHeld => ?_)
          case hs5ew0w2w8a => (try dsimp only); exact S3S.out _ B17.out
          clear hK K
          try simp only [Act.put, List.setIfInBounds_toArray, List.set_cons_zero, List.set_cons_succ, List.getElem_toArray, List.getElem_cons_succ, List.getElem_cons_zero]
          refine wpAnyH_ready (rs := [6]) (by kernel_rfl) (by simp) ?_
          refine AllReadyH.cons rfl (fun K hK => ?_) AllReadyH.nil
          go_simp
          refine (rfEdges AE _ cE mm w17k SE.out M641.out (by omega)).mono ?_
          rintro e w18k ⟨vF, EE, rfl, hoF, he, hel, hy⟩
          have B18 := Lib.hid (bstep B17.out hy B17.out.size)
          have v18 := Lib.hid (Ov.mono hoF B17.out.size)
          have HEL : Hid (EE.length ≤ 300) := by have := HML.out; have := HN.out; unfold Hid; omega
          have HE9 : Hid (EE.length + [t].length ≤ 1000) := by have := HEL.out; unfold Hid; rw [List.length_singleton]; omega
          have c18 := Lib.hid (Blk.below c17.out hy)
          clear hoF he hel hy
          go_wp2_with fail
          refine hK.out _ _ ?hs6ew0w2w8a (fun hHeld => ?_)
          case hs6ew0w2w8a => (try dsimp only); exact S3S.out _ B18.out
          clear hK K
          try simp only [Act.put, List.setIfInBounds_toArray, List.set_cons_zero, List.set_cons_succ, List.getElem_toArray, List.getElem_cons_succ, List.getElem_cons_zero]
          refine wpAnyH_ready (rs := [9]) (by kernel_rfl) (by simp) ?_
          refine AllReadyH.cons rfl (fun K hK => ?_) AllReadyH.nil
          refine step_appendV rfl _ _ 22 rfl x3.heap.size 3 i1 (.int .i64 0) Try.underlying22 hi1 hz0 hz1 (by omega) rfl _ (EE.map intV) rfl v18.out _ 1 1 ([t].map intV) rfl c18.out.vs1 (ints_one _) (by have := HEL.out; rw [List.length_map]; omega) B18.out.size ?_
          intro vG w19k hov hgr _ _
          have B19 := Lib.hid (Below.grown B18.out hgr B18.out.size (fun q hq => (Ov.lt v18.out q hq).1))
          have G19 := Lib.hid hov
          clear hov hgr
          refine hK.out _ _ ?hs9ew0w2w8a (fun hHeld => ?_)
          case hs9ew0w2w8a => (try dsimp only); exact S3S.out _ B19.out
          clear hK K
          try simp only [Act.put, List.setIfInBounds_toArray, List.set_cons_zero, List.set_cons_succ, List.getElem_toArray, List.getElem_cons_succ, List.getElem_cons_zero]
          refine wpAnyH_take (i := 10) (v := ?qv10ew0w2w8) rfl (by kernel_rfl) (by kernel_rfl) (by kernel_rfl) (fun _ _ _ h => h) (Or.inl ⟨by kernel_rfl, ?qy10ew0w2w8⟩) (by assumption) ?_
          case qy10ew0w2w8 => (intro w hSw; (try dsimp only at hSw); go_simp) <;> (try with_reducible rfl)
          try simp only [Act.put, List.setIfInBounds_toArray, List.set_cons_zero, List.set_cons_succ, List.getElem_toArray, List.getElem_cons_succ, List.getElem_cons_zero]
          refine wpAnyH_done (by kernel_rfl) ?_ _
          clear hHeld
          go_wp2_with fail
          go_meet
          obtain ⟨AG, cG, rfl, hleG, hvsG⟩ := Ov.slice G19.out
          rw [← List.map_append] at hvsG hleG ⊢
          exact ⟨_, _, _, _, rfl, by rw [List.length_map, List.length_append]; exact HE9.out, hvsG, B19.out⟩
      · go_simp
        have B20 := Lib.hid (Below.alloc B1.out B1.out.size (.cells #[.int .i64 x, .int .i64 y] 30))
        have O20 := Lib.hid (Owr.alloc O1.out (.cells #[.int .i64 x, .int .i64 y] 30))
        have b20 : Hid (Blk (World.alloc (World.alloc (World.drew x6) (.cells #[] 30)) (.cells #[.int .i64 x, .int .i64 y] 30)) ((World.heap (World.drew x6)).size + 1) 30 (spCs [(x, y)])) := by have h := Blk.new (World.alloc (World.drew x6) (.cells #[] 30)) (spCs [(x, y)]) 30; (try simp only [World.size_alloc] at h); exact h
        have ne20 : Hid ((World.heap (World.drew x6)).size + 1 ≠ (World.heap (World.drew x6)).size) := by have h := Nat.ne_of_gt (World.ownsRow.lt O1.out _ rfl).2; (try simp only [World.size_alloc] at h); exact h
        refine hK.out _ _ ?hs4ew0a (fun hHeld => ?_)
        case hs4ew0a => (try dsimp only); exact S3S.out _ B20.out
        clear hK K
        try simp only [Act.put, List.setIfInBounds_toArray, List.set_cons_zero, List.set_cons_succ, List.getElem_toArray, List.getElem_cons_succ, List.getElem_cons_zero]
        refine wpAnyH_ready (rs := [2, 8]) (by kernel_rfl) (by simp) ?_
        refine AllReadyH.cons rfl (fun K hK => ?_) (AllReadyH.cons rfl (fun K hK => ?_) (AllReadyH.nil))
        · refine step_appendS rfl _ _ rfl x3.heap.size _ [] rfl O20.out _ _ _ m rfl (SW3.out _ B20.out) (by simp; omega) B20.out.size ?_
          intro v21k w21k hrow hgrow
          have B21 := Lib.hid (Below.grown B20.out hgrow B20.out.size (fun q hq => (World.ownsRow.lt O20.out q hq).1))
          rw [List.nil_append] at hrow
          have O21 := Lib.hid hrow
          have b21 := Lib.hid (Blk.grow b20.out hgrow (fun e => ne20.out (Option.some.inj e)))
          clear hrow hgrow
          refine hK.out _ _ ?hs2ew0w4a (fun hHeld => ?_)
          case hs2ew0w4a => (try dsimp only); exact S3S.out _ B21.out
          clear hK K
          try simp only [Act.put, List.setIfInBounds_toArray, List.set_cons_zero, List.set_cons_succ, List.getElem_toArray, List.getElem_cons_succ, List.getElem_cons_zero]
          refine wpAnyH_ready (rs := [5, 8]) (by kernel_rfl) (by simp) ?_
          refine AllReadyH.cons rfl (fun K hK => ?_) (AllReadyH.cons rfl (fun K hK => ?_) (AllReadyH.nil))
          · refine step_appendS rfl _ _ rfl x3.heap.size _ m rfl O21.out _ _ _ [(x, y)] rfl b21.out.sps1 (by have := HN.out; omega) B21.out.size ?_
            intro v22k w22k hrow hgrow
            have B22 := Lib.hid (Below.grown B21.out hgrow B21.out.size (fun q hq => (World.ownsRow.lt O21.out q hq).1))
            rw [HMM.out] at hrow
            have O22 := Lib.hid hrow
            obtain ⟨AE, cE, hvE, _, hsE⟩ := Owr.sps O22.out
            rw [HML.out] at hvE hsE
            subst hvE
            have SE := Lib.hid hsE
            clear hsE
            clear hrow hgrow
            refine hK.out _ _ ?hs5ew0w4w2a (fun hHeld => ?_)
            case hs5ew0w4w2a => (try dsimp only); exact S3S.out _ B22.out
            clear hK K
            try simp only [Act.put, List.setIfInBounds_toArray, List.set_cons_zero, List.set_cons_succ, List.getElem_toArray, List.getElem_cons_succ, List.getElem_cons_zero]
            refine wpAnyH_ready (rs := [6, 8]) (by kernel_rfl) (by simp) ?_
            refine AllReadyH.cons rfl (fun K hK => ?_) (AllReadyH.cons rfl (fun K hK => ?_) (AllReadyH.nil))
            · go_simp
              refine (rfEdges AE _ cE mm w22k SE.out M641.out (by omega)).mono ?_
              rintro e w23k ⟨vF, EE, rfl, hoF, he, hel, hy⟩
              have B23 := Lib.hid (bstep B22.out hy B22.out.size)
              have v23 := Lib.hid (Ov.mono hoF B22.out.size)
              have HEL : Hid (EE.length ≤ 300) := by have := HML.out; have := HN.out; unfold Hid; omega
              have HE9 : Hid (EE.length + [t].length ≤ 1000) := by have := HEL.out; unfold Hid; rw [List.length_singleton]; omega
              clear hoF he hel hy
              go_wp2_with fail
              refine hK.out _ _ ?hs6ew0w4w2w5a (fun hHeld => ?_)
              case hs6ew0w4w2w5a => (try dsimp only); exact S3S.out _ B23.out
              clear hK K
              try simp only [Act.put, List.setIfInBounds_toArray, List.set_cons_zero, List.set_cons_succ, List.getElem_toArray, List.getElem_cons_succ, List.getElem_cons_zero]
              refine wpAnyH_ready (rs := [8]) (by kernel_rfl) (by simp) ?_
              refine AllReadyH.cons rfl (fun K hK => ?_) AllReadyH.nil
              go_simp
              have B24 := Lib.hid (Below.alloc B23.out B23.out.size (.cells #[.int .i64 t] 3))
              have v24 := Lib.hid (Ov.alloc v23.out (.cells #[.int .i64 t] 3))
              have c24 : Hid (Blk (World.alloc w23k (.cells #[.int .i64 t] 3)) ((World.heap w23k).size) 3 ([t].map intV)) := by have h := Blk.new w23k ([t].map intV) 3; (try simp only [World.size_alloc] at h); exact h
              refine hK.out _ _ ?hs8ew0w4w2w5w6a (fun hHeld => ?_)
              case hs8ew0w4w2w5w6a => (try dsimp only); exact S3S.out _ B24.out
              clear hK K
              try simp only [Act.put, List.setIfInBounds_toArray, List.set_cons_zero, List.set_cons_succ, List.getElem_toArray, List.getElem_cons_succ, List.getElem_cons_zero]
              refine wpAnyH_ready (rs := [9]) (by kernel_rfl) (by simp) ?_
              refine AllReadyH.cons rfl (fun K hK => ?_) AllReadyH.nil
              refine step_appendV rfl _ _ 22 rfl x3.heap.size 3 i1 (.int .i64 0) Try.underlying22 hi1 hz0 hz1 (by omega) rfl _ (EE.map intV) rfl v24.out _ 1 1 ([t].map intV) rfl c24.out.vs1 (ints_one _) (by have := HEL.out; rw [List.length_map]; omega) B24.out.size ?_
              intro vG w25k hov hgr _ _
              have B25 := Lib.hid (Below.grown B24.out hgr B24.out.size (fun q hq => (Ov.lt v24.out q hq).1))
              have G25 := Lib.hid hov
              clear hov hgr
              refine hK.out _ _ ?hs9ew0w4w2w5w6a (fun hHeld => ?_)
              case hs9ew0w4w2w5w6a => (try dsimp only); exact S3S.out _ B25.out
              clear hK K
              try simp only [Act.put, List.setIfInBounds_toArray, List.set_cons_zero, List.set_cons_succ, List.getElem_toArray, List.getElem_cons_succ, List.getElem_cons_zero]
              refine wpAnyH_take (i := 10) (v := ?qv10ew0w4w2w5w6) rfl (by kernel_rfl) (by kernel_rfl) (by kernel_rfl) (fun _ _ _ h => h) (Or.inl ⟨by kernel_rfl, ?qy10ew0w4w2w5w6⟩) (by assumption) ?_
              case qy10ew0w4w2w5w6 => (intro w hSw; (try dsimp only at hSw); go_simp) <;> (try with_reducible rfl)
              try simp only [Act.put, List.setIfInBounds_toArray, List.set_cons_zero, List.set_cons_succ, List.getElem_toArray, List.getElem_cons_succ, List.getElem_cons_zero]
              refine wpAnyH_done (by kernel_rfl) ?_ _
              clear hHeld
              go_wp2_with fail
              go_meet
              obtain ⟨AG, cG, rfl, hleG, hvsG⟩ := Ov.slice G25.out
              rw [← List.map_append] at hvsG hleG ⊢
              exact ⟨_, _, _, _, rfl, by rw [List.length_map, List.length_append]; exact HE9.out, hvsG, B25.out⟩
            · go_simp
              have B26 := Lib.hid (Below.alloc B22.out B22.out.size (.cells #[.int .i64 t] 3))
              have O26 := Lib.hid (Owr.alloc O22.out (.cells #[.int .i64 t] 3))
              have c26 : Hid (Blk (World.alloc w22k (.cells #[.int .i64 t] 3)) ((World.heap w22k).size) 3 ([t].map intV)) := by have h := Blk.new w22k ([t].map intV) 3; (try simp only [World.size_alloc] at h); exact h
              refine hK.out _ _ ?hs8ew0w4w2w5a (fun hHeld => ?_)
              case hs8ew0w4w2w5a => (try dsimp only); exact S3S.out _ B26.out
              clear hK K
              try simp only [Act.put, List.setIfInBounds_toArray, List.set_cons_zero, List.set_cons_succ, List.getElem_toArray, List.getElem_cons_succ, List.getElem_cons_zero]
              refine wpAnyH_ready (rs := [6]) (by kernel_rfl) (by simp) ?_
              refine AllReadyH.cons rfl (fun K hK => ?_) AllReadyH.nil
              go_simp
              refine (rfEdges AE _ cE mm (World.alloc w22k (.cells #[.int .i64 t] 3)) (Sps.below SE.out (below_alloc1 _ _)) M641.out (by omega)).mono ?_
              rintro e w27k ⟨vF, EE, rfl, hoF, he, hel, hy⟩
              have B27 := Lib.hid (bstep B26.out hy B26.out.size)
              have v27 := Lib.hid (Ov.mono hoF B26.out.size)
              have HEL : Hid (EE.length ≤ 300) := by have := HML.out; have := HN.out; unfold Hid; omega
              have HE9 : Hid (EE.length + [t].length ≤ 1000) := by have := HEL.out; unfold Hid; rw [List.length_singleton]; omega
              have c27 := Lib.hid (Blk.below c26.out hy)
              clear hoF he hel hy
              go_wp2_with fail
              refine hK.out _ _ ?hs6ew0w4w2w5w8a (fun hHeld => ?_)
              case hs6ew0w4w2w5w8a => (try dsimp only); exact S3S.out _ B27.out
              clear hK K
              try simp only [Act.put, List.setIfInBounds_toArray, List.set_cons_zero, List.set_cons_succ, List.getElem_toArray, List.getElem_cons_succ, List.getElem_cons_zero]
              refine wpAnyH_ready (rs := [9]) (by kernel_rfl) (by simp) ?_
              refine AllReadyH.cons rfl (fun K hK => ?_) AllReadyH.nil
              refine step_appendV rfl _ _ 22 rfl x3.heap.size 3 i1 (.int .i64 0) Try.underlying22 hi1 hz0 hz1 (by omega) rfl _ (EE.map intV) rfl v27.out _ 1 1 ([t].map intV) rfl c27.out.vs1 (ints_one _) (by have := HEL.out; rw [List.length_map]; omega) B27.out.size ?_
              intro vG w28k hov hgr _ _
              have B28 := Lib.hid (Below.grown B27.out hgr B27.out.size (fun q hq => (Ov.lt v27.out q hq).1))
              have G28 := Lib.hid hov
              clear hov hgr
              refine hK.out _ _ ?hs9ew0w4w2w5w8a (fun hHeld => ?_)
              case hs9ew0w4w2w5w8a => (try dsimp only); exact S3S.out _ B28.out
              clear hK K
              try simp only [Act.put, List.setIfInBounds_toArray, List.set_cons_zero, List.set_cons_succ, List.getElem_toArray, List.getElem_cons_succ, List.getElem_cons_zero]
              refine wpAnyH_take (i := 10) (v := ?qv10ew0w4w2w5w8) rfl (by kernel_rfl) (by kernel_rfl) (by kernel_rfl) (fun _ _ _ h => h) (Or.inl ⟨by kernel_rfl, ?qy10ew0w4w2w5w8⟩) (by assumption) ?_
              case qy10ew0w4w2w5w8 => (intro w hSw; (try dsimp only at hSw); go_simp) <;> (try with_reducible rfl)
              try simp only [Act.put, List.setIfInBounds_toArray, List.set_cons_zero, List.set_cons_succ, List.getElem_toArray, List.getElem_cons_succ, List.getElem_cons_zero]
              refine wpAnyH_done (by kernel_rfl) ?_ _
              clear hHeld
              go_wp2_with fail
              go_meet
              obtain ⟨AG, cG, rfl, hleG, hvsG⟩ := Ov.slice G28.out
              rw [← List.map_append] at hvsG hleG ⊢
              exact ⟨_, _, _, _, rfl, by rw [List.length_map, List.length_append]; exact HE9.out, hvsG, B28.out⟩
          · go_simp
            have B29 := Lib.hid (Below.alloc B21.out B21.out.size (.cells #[.int .i64 t] 3))
            have O29 := Lib.hid (Owr.alloc O21.out (.cells #[.int .i64 t] 3))
            have b29 := Lib.hid (Blk.alloc b21.out (.cells #[.int .i64 t] 3))
            have c29 : Hid (Blk (World.alloc w21k (.cells #[.int .i64 t] 3)) ((World.heap w21k).size) 3 ([t].map intV)) := by have h := Blk.new w21k ([t].map intV) 3; (try simp only [World.size_alloc] at h); exact h
            refine hK.out _ _ ?hs8ew0w4w2a (fun hHeld => ?_)
            case hs8ew0w4w2a => (try dsimp only); exact S3S.out _ B29.out
            clear hK K
            try simp only [Act.put, List.setIfInBounds_toArray, List.set_cons_zero, List.set_cons_succ, List.getElem_toArray, List.getElem_cons_succ, List.getElem_cons_zero]
            refine wpAnyH_ready (rs := [5]) (by kernel_rfl) (by simp) ?_
            refine AllReadyH.cons rfl (fun K hK => ?_) AllReadyH.nil
            refine step_appendS rfl _ _ rfl x3.heap.size _ m rfl O29.out _ _ _ [(x, y)] rfl b29.out.sps1 (by have := HN.out; omega) B29.out.size ?_
            intro v30k w30k hrow hgrow
            have B30 := Lib.hid (Below.grown B29.out hgrow B29.out.size (fun q hq => (World.ownsRow.lt O29.out q hq).1))
            rw [HMM.out] at hrow
            have O30 := Lib.hid hrow
            have c30 := Lib.hid (Blk.grow c29.out hgrow (Ne.symm (Blk.notRow c29.out O29.out (by decide))))
            obtain ⟨AE, cE, hvE, _, hsE⟩ := Owr.sps O30.out
            rw [HML.out] at hvE hsE
            subst hvE
            have SE := Lib.hid hsE
            clear hsE
            clear hrow hgrow
            refine hK.out _ _ ?hs5ew0w4w2w8a (fun hHeld => ?_)
            case hs5ew0w4w2w8a => (try dsimp only); exact S3S.out _ B30.out
            clear hK K
            try simp only [Act.put, List.setIfInBounds_toArray, List.set_cons_zero, List.set_cons_succ, List.getElem_toArray, List.getElem_cons_succ, List.getElem_cons_zero]
            refine wpAnyH_ready (rs := [6]) (by kernel_rfl) (by simp) ?_
            refine AllReadyH.cons rfl (fun K hK => ?_) AllReadyH.nil
            go_simp
            refine (rfEdges AE _ cE mm w30k SE.out M641.out (by omega)).mono ?_
            rintro e w31k ⟨vF, EE, rfl, hoF, he, hel, hy⟩
            have B31 := Lib.hid (bstep B30.out hy B30.out.size)
            have v31 := Lib.hid (Ov.mono hoF B30.out.size)
            have HEL : Hid (EE.length ≤ 300) := by have := HML.out; have := HN.out; unfold Hid; omega
            have HE9 : Hid (EE.length + [t].length ≤ 1000) := by have := HEL.out; unfold Hid; rw [List.length_singleton]; omega
            have c31 := Lib.hid (Blk.below c30.out hy)
            clear hoF he hel hy
            go_wp2_with fail
            refine hK.out _ _ ?hs6ew0w4w2w8a (fun hHeld => ?_)
            case hs6ew0w4w2w8a => (try dsimp only); exact S3S.out _ B31.out
            clear hK K
            try simp only [Act.put, List.setIfInBounds_toArray, List.set_cons_zero, List.set_cons_succ, List.getElem_toArray, List.getElem_cons_succ, List.getElem_cons_zero]
            refine wpAnyH_ready (rs := [9]) (by kernel_rfl) (by simp) ?_
            refine AllReadyH.cons rfl (fun K hK => ?_) AllReadyH.nil
            refine step_appendV rfl _ _ 22 rfl x3.heap.size 3 i1 (.int .i64 0) Try.underlying22 hi1 hz0 hz1 (by omega) rfl _ (EE.map intV) rfl v31.out _ 1 1 ([t].map intV) rfl c31.out.vs1 (ints_one _) (by have := HEL.out; rw [List.length_map]; omega) B31.out.size ?_
            intro vG w32k hov hgr _ _
            have B32 := Lib.hid (Below.grown B31.out hgr B31.out.size (fun q hq => (Ov.lt v31.out q hq).1))
            have G32 := Lib.hid hov
            clear hov hgr
            refine hK.out _ _ ?hs9ew0w4w2w8a (fun hHeld => ?_)
            case hs9ew0w4w2w8a => (try dsimp only); exact S3S.out _ B32.out
            clear hK K
            try simp only [Act.put, List.setIfInBounds_toArray, List.set_cons_zero, List.set_cons_succ, List.getElem_toArray, List.getElem_cons_succ, List.getElem_cons_zero]
            refine wpAnyH_take (i := 10) (v := ?qv10ew0w4w2w8) rfl (by kernel_rfl) (by kernel_rfl) (by kernel_rfl) (fun _ _ _ h => h) (Or.inl ⟨by kernel_rfl, ?qy10ew0w4w2w8⟩) (by assumption) ?_
            case qy10ew0w4w2w8 => (intro w hSw; (try dsimp only at hSw); go_simp) <;> (try with_reducible rfl)
            try simp only [Act.put, List.setIfInBounds_toArray, List.set_cons_zero, List.set_cons_succ, List.getElem_toArray, List.getElem_cons_succ, List.getElem_cons_zero]
            refine wpAnyH_done (by kernel_rfl) ?_ _
            clear hHeld
            go_wp2_with fail
            go_meet
            obtain ⟨AG, cG, rfl, hleG, hvsG⟩ := Ov.slice G32.out
            rw [← List.map_append] at hvsG hleG ⊢
            exact ⟨_, _, _, _, rfl, by rw [List.length_map, List.length_append]; exact HE9.out, hvsG, B32.out⟩
        · go_simp
          have B33 := Lib.hid (Below.alloc B20.out B20.out.size (.cells #[.int .i64 t] 3))
          have O33 := Lib.hid (Owr.alloc O20.out (.cells #[.int .i64 t] 3))
          have b33 := Lib.hid (Blk.alloc b20.out (.cells #[.int .i64 t] 3))
          have c33 : Hid (Blk (World.alloc (World.alloc (World.alloc (World.drew x6) (.cells #[] 30)) (.cells #[.int .i64 x, .int .i64 y] 30)) (.cells #[.int .i64 t] 3)) ((World.heap (World.drew x6)).size + 1 + 1) 3 ([t].map intV)) := by have h := Blk.new (World.alloc (World.alloc (World.drew x6) (.cells #[] 30)) (.cells #[.int .i64 x, .int .i64 y] 30)) ([t].map intV) 3; (try simp only [World.size_alloc] at h); exact h
          refine hK.out _ _ ?hs8ew0w4a (fun hHeld => ?_)
          case hs8ew0w4a => (try dsimp only); exact S3S.out _ B33.out
          clear hK K
          try simp only [Act.put, List.setIfInBounds_toArray, List.set_cons_zero, List.set_cons_succ, List.getElem_toArray, List.getElem_cons_succ, List.getElem_cons_zero]
          refine wpAnyH_ready (rs := [2]) (by kernel_rfl) (by simp) ?_
          refine AllReadyH.cons rfl (fun K hK => ?_) AllReadyH.nil
          refine step_appendS rfl _ _ rfl x3.heap.size _ [] rfl O33.out _ _ _ m rfl (SW3.out _ B33.out) (by simp; omega) B33.out.size ?_
          intro v34k w34k hrow hgrow
          have B34 := Lib.hid (Below.grown B33.out hgrow B33.out.size (fun q hq => (World.ownsRow.lt O33.out q hq).1))
          rw [List.nil_append] at hrow
          have O34 := Lib.hid hrow
          have b34 := Lib.hid (Blk.grow b33.out hgrow (fun e => ne20.out (Option.some.inj e)))
          have c34 := Lib.hid (Blk.grow c33.out hgrow (Ne.symm (Blk.notRow c33.out O33.out (by decide))))
          clear hrow hgrow
          refine hK.out _ _ ?hs2ew0w4w8a (fun hHeld => ?_)
          case hs2ew0w4w8a => (try dsimp only); exact S3S.out _ B34.out
          clear hK K
          try simp only [Act.put, List.setIfInBounds_toArray, List.set_cons_zero, List.set_cons_succ, List.getElem_toArray, List.getElem_cons_succ, List.getElem_cons_zero]
          refine wpAnyH_ready (rs := [5]) (by kernel_rfl) (by simp) ?_
          refine AllReadyH.cons rfl (fun K hK => ?_) AllReadyH.nil
          refine step_appendS rfl _ _ rfl x3.heap.size _ m rfl O34.out _ _ _ [(x, y)] rfl b34.out.sps1 (by have := HN.out; omega) B34.out.size ?_
          intro v35k w35k hrow hgrow
          have B35 := Lib.hid (Below.grown B34.out hgrow B34.out.size (fun q hq => (World.ownsRow.lt O34.out q hq).1))
          rw [HMM.out] at hrow
          have O35 := Lib.hid hrow
          have c35 := Lib.hid (Blk.grow c34.out hgrow (Ne.symm (Blk.notRow c34.out O34.out (by decide))))
          obtain ⟨AE, cE, hvE, _, hsE⟩ := Owr.sps O35.out
          rw [HML.out] at hvE hsE
          subst hvE
          have SE := Lib.hid hsE
          clear hsE
          clear hrow hgrow
          refine hK.out _ _ ?hs5ew0w4w8a (fun hHeld => ?_)
          case hs5ew0w4w8a => (try dsimp only); exact S3S.out _ B35.out
          clear hK K
          try simp only [Act.put, List.setIfInBounds_toArray, List.set_cons_zero, List.set_cons_succ, List.getElem_toArray, List.getElem_cons_succ, List.getElem_cons_zero]
          refine wpAnyH_ready (rs := [6]) (by kernel_rfl) (by simp) ?_
          refine AllReadyH.cons rfl (fun K hK => ?_) AllReadyH.nil
          go_simp
          refine (rfEdges AE _ cE mm w35k SE.out M641.out (by omega)).mono ?_
          rintro e w36k ⟨vF, EE, rfl, hoF, he, hel, hy⟩
          have B36 := Lib.hid (bstep B35.out hy B35.out.size)
          have v36 := Lib.hid (Ov.mono hoF B35.out.size)
          have HEL : Hid (EE.length ≤ 300) := by have := HML.out; have := HN.out; unfold Hid; omega
          have HE9 : Hid (EE.length + [t].length ≤ 1000) := by have := HEL.out; unfold Hid; rw [List.length_singleton]; omega
          have c36 := Lib.hid (Blk.below c35.out hy)
          clear hoF he hel hy
          go_wp2_with fail
          refine hK.out _ _ ?hs6ew0w4w8a (fun hHeld => ?_)
          case hs6ew0w4w8a => (try dsimp only); exact S3S.out _ B36.out
          clear hK K
          try simp only [Act.put, List.setIfInBounds_toArray, List.set_cons_zero, List.set_cons_succ, List.getElem_toArray, List.getElem_cons_succ, List.getElem_cons_zero]
          refine wpAnyH_ready (rs := [9]) (by kernel_rfl) (by simp) ?_
          refine AllReadyH.cons rfl (fun K hK => ?_) AllReadyH.nil
          refine step_appendV rfl _ _ 22 rfl x3.heap.size 3 i1 (.int .i64 0) Try.underlying22 hi1 hz0 hz1 (by omega) rfl _ (EE.map intV) rfl v36.out _ 1 1 ([t].map intV) rfl c36.out.vs1 (ints_one _) (by have := HEL.out; rw [List.length_map]; omega) B36.out.size ?_
          intro vG w37k hov hgr _ _
          have B37 := Lib.hid (Below.grown B36.out hgr B36.out.size (fun q hq => (Ov.lt v36.out q hq).1))
          have G37 := Lib.hid hov
          clear hov hgr
          refine hK.out _ _ ?hs9ew0w4w8a (fun hHeld => ?_)
          case hs9ew0w4w8a => (try dsimp only); exact S3S.out _ B37.out
          clear hK K
          try simp only [Act.put, List.setIfInBounds_toArray, List.set_cons_zero, List.set_cons_succ, List.getElem_toArray, List.getElem_cons_succ, List.getElem_cons_zero]
          refine wpAnyH_take (i := 10) (v := ?qv10ew0w4w8) rfl (by kernel_rfl) (by kernel_rfl) (by kernel_rfl) (fun _ _ _ h => h) (Or.inl ⟨by kernel_rfl, ?qy10ew0w4w8⟩) (by assumption) ?_
          case qy10ew0w4w8 => (intro w hSw; (try dsimp only at hSw); go_simp) <;> (try with_reducible rfl)
          try simp only [Act.put, List.setIfInBounds_toArray, List.set_cons_zero, List.set_cons_succ, List.getElem_toArray, List.getElem_cons_succ, List.getElem_cons_zero]
          refine wpAnyH_done (by kernel_rfl) ?_ _
          clear hHeld
          go_wp2_with fail
          go_meet
          obtain ⟨AG, cG, rfl, hleG, hvsG⟩ := Ov.slice G37.out
          rw [← List.map_append] at hvsG hleG ⊢
          exact ⟨_, _, _, _, rfl, by rw [List.length_map, List.length_append]; exact HE9.out, hvsG, B37.out⟩
      · go_simp
        have B38 := Lib.hid (Below.alloc B1.out B1.out.size (.cells #[.int .i64 t] 3))
        have O38 := Lib.hid (Owr.alloc O1.out (.cells #[.int .i64 t] 3))
        have c38 : Hid (Blk (World.alloc (World.alloc (World.drew x6) (.cells #[] 30)) (.cells #[.int .i64 t] 3)) ((World.heap (World.drew x6)).size + 1) 3 ([t].map intV)) := by have h := Blk.new (World.alloc (World.drew x6) (.cells #[] 30)) ([t].map intV) 3; (try simp only [World.size_alloc] at h); exact h
        refine hK.out _ _ ?hs8ew0a (fun hHeld => ?_)
        case hs8ew0a => (try dsimp only); exact S3S.out _ B38.out
        clear hK K
        try simp only [Act.put, List.setIfInBounds_toArray, List.set_cons_zero, List.set_cons_succ, List.getElem_toArray, List.getElem_cons_succ, List.getElem_cons_zero]
        refine wpAnyH_ready (rs := [2, 4]) (by kernel_rfl) (by simp) ?_
        refine AllReadyH.cons rfl (fun K hK => ?_) (AllReadyH.cons rfl (fun K hK => ?_) (AllReadyH.nil))
        · refine step_appendS rfl _ _ rfl x3.heap.size _ [] rfl O38.out _ _ _ m rfl (SW3.out _ B38.out) (by simp; omega) B38.out.size ?_
          intro v39k w39k hrow hgrow
          have B39 := Lib.hid (Below.grown B38.out hgrow B38.out.size (fun q hq => (World.ownsRow.lt O38.out q hq).1))
          rw [List.nil_append] at hrow
          have O39 := Lib.hid hrow
          have c39 := Lib.hid (Blk.grow c38.out hgrow (Ne.symm (Blk.notRow c38.out O38.out (by decide))))
          clear hrow hgrow
          refine hK.out _ _ ?hs2ew0w8a (fun hHeld => ?_)
          case hs2ew0w8a => (try dsimp only); exact S3S.out _ B39.out
          clear hK K
          try simp only [Act.put, List.setIfInBounds_toArray, List.set_cons_zero, List.set_cons_succ, List.getElem_toArray, List.getElem_cons_succ, List.getElem_cons_zero]
          refine wpAnyH_ready (rs := [4]) (by kernel_rfl) (by simp) ?_
          refine AllReadyH.cons rfl (fun K hK => ?_) AllReadyH.nil
          go_simp
          have B40 := Lib.hid (Below.alloc B39.out B39.out.size (.cells #[.int .i64 x, .int .i64 y] 30))
          have O40 := Lib.hid (Owr.alloc O39.out (.cells #[.int .i64 x, .int .i64 y] 30))
          have c40 := Lib.hid (Blk.alloc c39.out (.cells #[.int .i64 x, .int .i64 y] 30))
          have b40 : Hid (Blk (World.alloc w39k (.cells #[.int .i64 x, .int .i64 y] 30)) ((World.heap w39k).size) 30 (spCs [(x, y)])) := by have h := Blk.new w39k (spCs [(x, y)]) 30; (try simp only [World.size_alloc] at h); exact h
          refine hK.out _ _ ?hs4ew0w8w2a (fun hHeld => ?_)
          case hs4ew0w8w2a => (try dsimp only); exact S3S.out _ B40.out
          clear hK K
          try simp only [Act.put, List.setIfInBounds_toArray, List.set_cons_zero, List.set_cons_succ, List.getElem_toArray, List.getElem_cons_succ, List.getElem_cons_zero]
          refine wpAnyH_ready (rs := [5]) (by kernel_rfl) (by simp) ?_
          refine AllReadyH.cons rfl (fun K hK => ?_) AllReadyH.nil
          refine step_appendS rfl _ _ rfl x3.heap.size _ m rfl O40.out _ _ _ [(x, y)] rfl b40.out.sps1 (by have := HN.out; omega) B40.out.size ?_
          intro v41k w41k hrow hgrow
          have B41 := Lib.hid (Below.grown B40.out hgrow B40.out.size (fun q hq => (World.ownsRow.lt O40.out q hq).1))
          rw [HMM.out] at hrow
          have O41 := Lib.hid hrow
          have c41 := Lib.hid (Blk.grow c40.out hgrow (Ne.symm (Blk.notRow c40.out O40.out (by decide))))
          obtain ⟨AE, cE, hvE, _, hsE⟩ := Owr.sps O41.out
          rw [HML.out] at hvE hsE
          subst hvE
          have SE := Lib.hid hsE
          clear hsE
          clear hrow hgrow
          refine hK.out _ _ ?hs5ew0w8w2a (fun hHeld => ?_)
          case hs5ew0w8w2a => (try dsimp only); exact S3S.out _ B41.out
          clear hK K
          try simp only [Act.put, List.setIfInBounds_toArray, List.set_cons_zero, List.set_cons_succ, List.getElem_toArray, List.getElem_cons_succ, List.getElem_cons_zero]
          refine wpAnyH_ready (rs := [6]) (by kernel_rfl) (by simp) ?_
          refine AllReadyH.cons rfl (fun K hK => ?_) AllReadyH.nil
          go_simp
          refine (rfEdges AE _ cE mm w41k SE.out M641.out (by omega)).mono ?_
          rintro e w42k ⟨vF, EE, rfl, hoF, he, hel, hy⟩
          have B42 := Lib.hid (bstep B41.out hy B41.out.size)
          have v42 := Lib.hid (Ov.mono hoF B41.out.size)
          have HEL : Hid (EE.length ≤ 300) := by have := HML.out; have := HN.out; unfold Hid; omega
          have HE9 : Hid (EE.length + [t].length ≤ 1000) := by have := HEL.out; unfold Hid; rw [List.length_singleton]; omega
          have c42 := Lib.hid (Blk.below c41.out hy)
          clear hoF he hel hy
          go_wp2_with fail
          refine hK.out _ _ ?hs6ew0w8w2a (fun hHeld => ?_)
          case hs6ew0w8w2a => (try dsimp only); exact S3S.out _ B42.out
          clear hK K
          try simp only [Act.put, List.setIfInBounds_toArray, List.set_cons_zero, List.set_cons_succ, List.getElem_toArray, List.getElem_cons_succ, List.getElem_cons_zero]
          refine wpAnyH_ready (rs := [9]) (by kernel_rfl) (by simp) ?_
          refine AllReadyH.cons rfl (fun K hK => ?_) AllReadyH.nil
          refine step_appendV rfl _ _ 22 rfl x3.heap.size 3 i1 (.int .i64 0) Try.underlying22 hi1 hz0 hz1 (by omega) rfl _ (EE.map intV) rfl v42.out _ 1 1 ([t].map intV) rfl c42.out.vs1 (ints_one _) (by have := HEL.out; rw [List.length_map]; omega) B42.out.size ?_
          intro vG w43k hov hgr _ _
          have B43 := Lib.hid (Below.grown B42.out hgr B42.out.size (fun q hq => (Ov.lt v42.out q hq).1))
          have G43 := Lib.hid hov
          clear hov hgr
          refine hK.out _ _ ?hs9ew0w8w2a (fun hHeld => ?_)
          case hs9ew0w8w2a => (try dsimp only); exact S3S.out _ B43.out
          clear hK K
          try simp only [Act.put, List.setIfInBounds_toArray, List.set_cons_zero, List.set_cons_succ, List.getElem_toArray, List.getElem_cons_succ, List.getElem_cons_zero]
          refine wpAnyH_take (i := 10) (v := ?qv10ew0w8w2) rfl (by kernel_rfl) (by kernel_rfl) (by kernel_rfl) (fun _ _ _ h => h) (Or.inl ⟨by kernel_rfl, ?qy10ew0w8w2⟩) (by assumption) ?_
          case qy10ew0w8w2 => (intro w hSw; (try dsimp only at hSw); go_simp) <;> (try with_reducible rfl)
          try simp only [Act.put, List.setIfInBounds_toArray, List.set_cons_zero, List.set_cons_succ, List.getElem_toArray, List.getElem_cons_succ, List.getElem_cons_zero]
          refine wpAnyH_done (by kernel_rfl) ?_ _
          clear hHeld
          go_wp2_with fail
          go_meet
          obtain ⟨AG, cG, rfl, hleG, hvsG⟩ := Ov.slice G43.out
          rw [← List.map_append] at hvsG hleG ⊢
          exact ⟨_, _, _, _, rfl, by rw [List.length_map, List.length_append]; exact HE9.out, hvsG, B43.out⟩
        · go_simp
          have B44 := Lib.hid (Below.alloc B38.out B38.out.size (.cells #[.int .i64 x, .int .i64 y] 30))
          have O44 := Lib.hid (Owr.alloc O38.out (.cells #[.int .i64 x, .int .i64 y] 30))
          have c44 := Lib.hid (Blk.alloc c38.out (.cells #[.int .i64 x, .int .i64 y] 30))
          have b44 : Hid (Blk (World.alloc (World.alloc (World.alloc (World.drew x6) (.cells #[] 30)) (.cells #[.int .i64 t] 3)) (.cells #[.int .i64 x, .int .i64 y] 30)) ((World.heap (World.drew x6)).size + 1 + 1) 30 (spCs [(x, y)])) := by have h := Blk.new (World.alloc (World.alloc (World.drew x6) (.cells #[] 30)) (.cells #[.int .i64 t] 3)) (spCs [(x, y)]) 30; (try simp only [World.size_alloc] at h); exact h
          have ne44 : Hid ((World.heap (World.drew x6)).size + 1 + 1 ≠ (World.heap (World.drew x6)).size) := by have h := Nat.ne_of_gt (World.ownsRow.lt O38.out _ rfl).2; (try simp only [World.size_alloc] at h); exact h
          refine hK.out _ _ ?hs4ew0w8a (fun hHeld => ?_)
          case hs4ew0w8a => (try dsimp only); exact S3S.out _ B44.out
          clear hK K
          try simp only [Act.put, List.setIfInBounds_toArray, List.set_cons_zero, List.set_cons_succ, List.getElem_toArray, List.getElem_cons_succ, List.getElem_cons_zero]
          refine wpAnyH_ready (rs := [2]) (by kernel_rfl) (by simp) ?_
          refine AllReadyH.cons rfl (fun K hK => ?_) AllReadyH.nil
          refine step_appendS rfl _ _ rfl x3.heap.size _ [] rfl O44.out _ _ _ m rfl (SW3.out _ B44.out) (by simp; omega) B44.out.size ?_
          intro v45k w45k hrow hgrow
          have B45 := Lib.hid (Below.grown B44.out hgrow B44.out.size (fun q hq => (World.ownsRow.lt O44.out q hq).1))
          rw [List.nil_append] at hrow
          have O45 := Lib.hid hrow
          have b45 := Lib.hid (Blk.grow b44.out hgrow (fun e => ne44.out (Option.some.inj e)))
          have c45 := Lib.hid (Blk.grow c44.out hgrow (Ne.symm (Blk.notRow c44.out O44.out (by decide))))
          clear hrow hgrow
          refine hK.out _ _ ?hs2ew0w8w4a (fun hHeld => ?_)
          case hs2ew0w8w4a => (try dsimp only); exact S3S.out _ B45.out
          clear hK K
          try simp only [Act.put, List.setIfInBounds_toArray, List.set_cons_zero, List.set_cons_succ, List.getElem_toArray, List.getElem_cons_succ, List.getElem_cons_zero]
          refine wpAnyH_ready (rs := [5]) (by kernel_rfl) (by simp) ?_
          refine AllReadyH.cons rfl (fun K hK => ?_) AllReadyH.nil
          refine step_appendS rfl _ _ rfl x3.heap.size _ m rfl O45.out _ _ _ [(x, y)] rfl b45.out.sps1 (by have := HN.out; omega) B45.out.size ?_
          intro v46k w46k hrow hgrow
          have B46 := Lib.hid (Below.grown B45.out hgrow B45.out.size (fun q hq => (World.ownsRow.lt O45.out q hq).1))
          rw [HMM.out] at hrow
          have O46 := Lib.hid hrow
          have c46 := Lib.hid (Blk.grow c45.out hgrow (Ne.symm (Blk.notRow c45.out O45.out (by decide))))
          obtain ⟨AE, cE, hvE, _, hsE⟩ := Owr.sps O46.out
          rw [HML.out] at hvE hsE
          subst hvE
          have SE := Lib.hid hsE
          clear hsE
          clear hrow hgrow
          refine hK.out _ _ ?hs5ew0w8w4a (fun hHeld => ?_)
          case hs5ew0w8w4a => (try dsimp only); exact S3S.out _ B46.out
          clear hK K
          try simp only [Act.put, List.setIfInBounds_toArray, List.set_cons_zero, List.set_cons_succ, List.getElem_toArray, List.getElem_cons_succ, List.getElem_cons_zero]
          refine wpAnyH_ready (rs := [6]) (by kernel_rfl) (by simp) ?_
          refine AllReadyH.cons rfl (fun K hK => ?_) AllReadyH.nil
          go_simp
          refine (rfEdges AE _ cE mm w46k SE.out M641.out (by omega)).mono ?_
          rintro e w47k ⟨vF, EE, rfl, hoF, he, hel, hy⟩
          have B47 := Lib.hid (bstep B46.out hy B46.out.size)
          have v47 := Lib.hid (Ov.mono hoF B46.out.size)
          have HEL : Hid (EE.length ≤ 300) := by have := HML.out; have := HN.out; unfold Hid; omega
          have HE9 : Hid (EE.length + [t].length ≤ 1000) := by have := HEL.out; unfold Hid; rw [List.length_singleton]; omega
          have c47 := Lib.hid (Blk.below c46.out hy)
          clear hoF he hel hy
          go_wp2_with fail
          refine hK.out _ _ ?hs6ew0w8w4a (fun hHeld => ?_)
          case hs6ew0w8w4a => (try dsimp only); exact S3S.out _ B47.out
          clear hK K
          try simp only [Act.put, List.setIfInBounds_toArray, List.set_cons_zero, List.set_cons_succ, List.getElem_toArray, List.getElem_cons_succ, List.getElem_cons_zero]
          refine wpAnyH_ready (rs := [9]) (by kernel_rfl) (by simp) ?_
          refine AllReadyH.cons rfl (fun K hK => ?_) AllReadyH.nil
          refine step_appendV rfl _ _ 22 rfl x3.heap.size 3 i1 (.int .i64 0) Try.underlying22 hi1 hz0 hz1 (by omega) rfl _ (EE.map intV) rfl v47.out _ 1 1 ([t].map intV) rfl c47.out.vs1 (ints_one _) (by have := HEL.out; rw [List.length_map]; omega) B47.out.size ?_
          intro vG w48k hov hgr _ _
          have B48 := Lib.hid (Below.grown B47.out hgr B47.out.size (fun q hq => (Ov.lt v47.out q hq).1))
          have G48 := Lib.hid hov
          clear hov hgr
          refine hK.out _ _ ?hs9ew0w8w4a (fun hHeld => ?_)
          case hs9ew0w8w4a => (try dsimp only); exact S3S.out _ B48.out
          clear hK K
          try simp only [Act.put, List.setIfInBounds_toArray, List.set_cons_zero, List.set_cons_succ, List.getElem_toArray, List.getElem_cons_succ, List.getElem_cons_zero]
          refine wpAnyH_take (i := 10) (v := ?qv10ew0w8w4) rfl (by kernel_rfl) (by kernel_rfl) (by kernel_rfl) (fun _ _ _ h => h) (Or.inl ⟨by kernel_rfl, ?qy10ew0w8w4⟩) (by assumption) ?_
          case qy10ew0w8w4 => (intro w hSw; (try dsimp only at hSw); go_simp) <;> (try with_reducible rfl)
          try simp only [Act.put, List.setIfInBounds_toArray, List.set_cons_zero, List.set_cons_succ, List.getElem_toArray, List.getElem_cons_succ, List.getElem_cons_zero]
          refine wpAnyH_done (by kernel_rfl) ?_ _
          clear hHeld
          go_wp2_with fail
          go_meet
          obtain ⟨AG, cG, rfl, hleG, hvsG⟩ := Ov.slice G48.out
          rw [← List.map_append] at hvsG hleG ⊢
          exact ⟨_, _, _, _, rfl, by rw [List.length_map, List.length_append]; exact HE9.out, hvsG, B48.out⟩
    · go_simp
      have B49 := Lib.hid (Below.alloc B7.out B7.out.size (.cells #[.int .i64 x, .int .i64 y] 30))
      have b49 : Hid (Blk (World.alloc (World.drew x6) (.cells #[.int .i64 x, .int .i64 y] 30)) ((World.heap (World.drew x6)).size) 30 (spCs [(x, y)])) := by have h := Blk.new (World.drew x6) (spCs [(x, y)]) 30; (try simp only [World.size_alloc] at h); exact h
      refine hK.out _ _ ?hs4ea (fun hHeld => ?_)
      case hs4ea => (try dsimp only); exact S3S.out _ B49.out
      clear hK K
      try simp only [Act.put, List.setIfInBounds_toArray, List.set_cons_zero, List.set_cons_succ, List.getElem_toArray, List.getElem_cons_succ, List.getElem_cons_zero]
      refine wpAnyH_ready (rs := [0, 8]) (by kernel_rfl) (by simp) ?_
      refine AllReadyH.cons rfl (fun K hK => ?_) (AllReadyH.cons rfl (fun K hK => ?_) (AllReadyH.nil))
      · go_simp
        have B50 := Lib.hid (Below.alloc B49.out B49.out.size (.cells #[] 30))
        have b50 := Lib.hid (Blk.alloc b49.out (.cells #[] 30))
        have O50 : Hid (Owr (World.alloc (World.alloc (World.drew x6) (.cells #[.int .i64 x, .int .i64 y] 30)) (.cells #[] 30)) x3.heap.size (.slice (some ⟨(World.heap (World.drew x6)).size + 1, 0, none⟩) 0 0) []) := by have h := Owr.made (World.alloc (World.drew x6) (.cells #[.int .i64 x, .int .i64 y] 30)) B49.out.size; (try simp only [World.size_alloc] at h); exact h
        have ne50 : Hid (((World.heap (World.drew x6)).size) ≠ (World.heap (World.drew x6)).size + 1) := by have h := Nat.ne_of_lt b49.out.lt; (try simp only [World.size_alloc] at h); exact h
        refine hK.out _ _ ?hs0ew4a (fun hHeld => ?_)
        case hs0ew4a => (try dsimp only); exact S3S.out _ B50.out
        clear hK K
        try simp only [Act.put, List.setIfInBounds_toArray, List.set_cons_zero, List.set_cons_succ, List.getElem_toArray, List.getElem_cons_succ, List.getElem_cons_zero]
        refine wpAnyH_ready (rs := [2, 8]) (by kernel_rfl) (by simp) ?_
        refine AllReadyH.cons rfl (fun K hK => ?_) (AllReadyH.cons rfl (fun K hK => ?_) (AllReadyH.nil))
        · refine step_appendS rfl _ _ rfl x3.heap.size _ [] rfl O50.out _ _ _ m rfl (SW3.out _ B50.out) (by simp; omega) B50.out.size ?_
          intro v51k w51k hrow hgrow
          have B51 := Lib.hid (Below.grown B50.out hgrow B50.out.size (fun q hq => (World.ownsRow.lt O50.out q hq).1))
          rw [List.nil_append] at hrow
          have O51 := Lib.hid hrow
          have b51 := Lib.hid (Blk.grow b50.out hgrow (fun e => ne50.out (Option.some.inj e)))
          clear hrow hgrow
          refine hK.out _ _ ?hs2ew4w0a (fun hHeld => ?_)
          case hs2ew4w0a => (try dsimp only); exact S3S.out _ B51.out
          clear hK K
          try simp only [Act.put, List.setIfInBounds_toArray, List.set_cons_zero, List.set_cons_succ, List.getElem_toArray, List.getElem_cons_succ, List.getElem_cons_zero]
          refine wpAnyH_ready (rs := [5, 8]) (by kernel_rfl) (by simp) ?_
          refine AllReadyH.cons rfl (fun K hK => ?_) (AllReadyH.cons rfl (fun K hK => ?_) (AllReadyH.nil))
          · refine step_appendS rfl _ _ rfl x3.heap.size _ m rfl O51.out _ _ _ [(x, y)] rfl b51.out.sps1 (by have := HN.out; omega) B51.out.size ?_
            intro v52k w52k hrow hgrow
            have B52 := Lib.hid (Below.grown B51.out hgrow B51.out.size (fun q hq => (World.ownsRow.lt O51.out q hq).1))
            rw [HMM.out] at hrow
            have O52 := Lib.hid hrow
            obtain ⟨AE, cE, hvE, _, hsE⟩ := Owr.sps O52.out
            rw [HML.out] at hvE hsE
            subst hvE
            have SE := Lib.hid hsE
            clear hsE
            clear hrow hgrow
            refine hK.out _ _ ?hs5ew4w0w2a (fun hHeld => ?_)
            case hs5ew4w0w2a => (try dsimp only); exact S3S.out _ B52.out
            clear hK K
            try simp only [Act.put, List.setIfInBounds_toArray, List.set_cons_zero, List.set_cons_succ, List.getElem_toArray, List.getElem_cons_succ, List.getElem_cons_zero]
            refine wpAnyH_ready (rs := [6, 8]) (by kernel_rfl) (by simp) ?_
            refine AllReadyH.cons rfl (fun K hK => ?_) (AllReadyH.cons rfl (fun K hK => ?_) (AllReadyH.nil))
            · go_simp
              refine (rfEdges AE _ cE mm w52k SE.out M641.out (by omega)).mono ?_
              rintro e w53k ⟨vF, EE, rfl, hoF, he, hel, hy⟩
              have B53 := Lib.hid (bstep B52.out hy B52.out.size)
              have v53 := Lib.hid (Ov.mono hoF B52.out.size)
              have HEL : Hid (EE.length ≤ 300) := by have := HML.out; have := HN.out; unfold Hid; omega
              have HE9 : Hid (EE.length + [t].length ≤ 1000) := by have := HEL.out; unfold Hid; rw [List.length_singleton]; omega
              clear hoF he hel hy
              go_wp2_with fail
              refine hK.out _ _ ?hs6ew4w0w2w5a (fun hHeld => ?_)
              case hs6ew4w0w2w5a => (try dsimp only); exact S3S.out _ B53.out
              clear hK K
              try simp only [Act.put, List.setIfInBounds_toArray, List.set_cons_zero, List.set_cons_succ, List.getElem_toArray, List.getElem_cons_succ, List.getElem_cons_zero]
              refine wpAnyH_ready (rs := [8]) (by kernel_rfl) (by simp) ?_
              refine AllReadyH.cons rfl (fun K hK => ?_) AllReadyH.nil
              go_simp
              have B54 := Lib.hid (Below.alloc B53.out B53.out.size (.cells #[.int .i64 t] 3))
              have v54 := Lib.hid (Ov.alloc v53.out (.cells #[.int .i64 t] 3))
              have c54 : Hid (Blk (World.alloc w53k (.cells #[.int .i64 t] 3)) ((World.heap w53k).size) 3 ([t].map intV)) := by have h := Blk.new w53k ([t].map intV) 3; (try simp only [World.size_alloc] at h); exact h
              refine hK.out _ _ ?hs8ew4w0w2w5w6a (fun hHeld => ?_)
              case hs8ew4w0w2w5w6a => (try dsimp only); exact S3S.out _ B54.out
              clear hK K
              try simp only [Act.put, List.setIfInBounds_toArray, List.set_cons_zero, List.set_cons_succ, List.getElem_toArray, List.getElem_cons_succ, List.getElem_cons_zero]
              refine wpAnyH_ready (rs := [9]) (by kernel_rfl) (by simp) ?_
              refine AllReadyH.cons rfl (fun K hK => ?_) AllReadyH.nil
              refine step_appendV rfl _ _ 22 rfl x3.heap.size 3 i1 (.int .i64 0) Try.underlying22 hi1 hz0 hz1 (by omega) rfl _ (EE.map intV) rfl v54.out _ 1 1 ([t].map intV) rfl c54.out.vs1 (ints_one _) (by have := HEL.out; rw [List.length_map]; omega) B54.out.size ?_
              intro vG w55k hov hgr _ _
              have B55 := Lib.hid (Below.grown B54.out hgr B54.out.size (fun q hq => (Ov.lt v54.out q hq).1))
              have G55 := Lib.hid hov
              clear hov hgr
              refine hK.out _ _ ?hs9ew4w0w2w5w6a (fun hHeld => ?_)
              case hs9ew4w0w2w5w6a => (try dsimp only); exact S3S.out _ B55.out
              clear hK K
              try simp only [Act.put, List.setIfInBounds_toArray, List.set_cons_zero, List.set_cons_succ, List.getElem_toArray, List.getElem_cons_succ, List.getElem_cons_zero]
              refine wpAnyH_take (i := 10) (v := ?qv10ew4w0w2w5w6) rfl (by kernel_rfl) (by kernel_rfl) (by kernel_rfl) (fun _ _ _ h => h) (Or.inl ⟨by kernel_rfl, ?qy10ew4w0w2w5w6⟩) (by assumption) ?_
              case qy10ew4w0w2w5w6 => (intro w hSw; (try dsimp only at hSw); go_simp) <;> (try with_reducible rfl)
              try simp only [Act.put, List.setIfInBounds_toArray, List.set_cons_zero, List.set_cons_succ, List.getElem_toArray, List.getElem_cons_succ, List.getElem_cons_zero]
              refine wpAnyH_done (by kernel_rfl) ?_ _
              clear hHeld
              go_wp2_with fail
              go_meet
              obtain ⟨AG, cG, rfl, hleG, hvsG⟩ := Ov.slice G55.out
              rw [← List.map_append] at hvsG hleG ⊢
              exact ⟨_, _, _, _, rfl, by rw [List.length_map, List.length_append]; exact HE9.out, hvsG, B55.out⟩
            · go_simp
              have B56 := Lib.hid (Below.alloc B52.out B52.out.size (.cells #[.int .i64 t] 3))
              have O56 := Lib.hid (Owr.alloc O52.out (.cells #[.int .i64 t] 3))
              have c56 : Hid (Blk (World.alloc w52k (.cells #[.int .i64 t] 3)) ((World.heap w52k).size) 3 ([t].map intV)) := by have h := Blk.new w52k ([t].map intV) 3; (try simp only [World.size_alloc] at h); exact h
              refine hK.out _ _ ?hs8ew4w0w2w5a (fun hHeld => ?_)
              case hs8ew4w0w2w5a => (try dsimp only); exact S3S.out _ B56.out
              clear hK K
              try simp only [Act.put, List.setIfInBounds_toArray, List.set_cons_zero, List.set_cons_succ, List.getElem_toArray, List.getElem_cons_succ, List.getElem_cons_zero]
              refine wpAnyH_ready (rs := [6]) (by kernel_rfl) (by simp) ?_
              refine AllReadyH.cons rfl (fun K hK => ?_) AllReadyH.nil
              go_simp
              refine (rfEdges AE _ cE mm (World.alloc w52k (.cells #[.int .i64 t] 3)) (Sps.below SE.out (below_alloc1 _ _)) M641.out (by omega)).mono ?_
              rintro e w57k ⟨vF, EE, rfl, hoF, he, hel, hy⟩
              have B57 := Lib.hid (bstep B56.out hy B56.out.size)
              have v57 := Lib.hid (Ov.mono hoF B56.out.size)
              have HEL : Hid (EE.length ≤ 300) := by have := HML.out; have := HN.out; unfold Hid; omega
              have HE9 : Hid (EE.length + [t].length ≤ 1000) := by have := HEL.out; unfold Hid; rw [List.length_singleton]; omega
              have c57 := Lib.hid (Blk.below c56.out hy)
              clear hoF he hel hy
              go_wp2_with fail
              refine hK.out _ _ ?hs6ew4w0w2w5w8a (fun hHeld => ?_)
              case hs6ew4w0w2w5w8a => (try dsimp only); exact S3S.out _ B57.out
              clear hK K
              try simp only [Act.put, List.setIfInBounds_toArray, List.set_cons_zero, List.set_cons_succ, List.getElem_toArray, List.getElem_cons_succ, List.getElem_cons_zero]
              refine wpAnyH_ready (rs := [9]) (by kernel_rfl) (by simp) ?_
              refine AllReadyH.cons rfl (fun K hK => ?_) AllReadyH.nil
              refine step_appendV rfl _ _ 22 rfl x3.heap.size 3 i1 (.int .i64 0) Try.underlying22 hi1 hz0 hz1 (by omega) rfl _ (EE.map intV) rfl v57.out _ 1 1 ([t].map intV) rfl c57.out.vs1 (ints_one _) (by have := HEL.out; rw [List.length_map]; omega) B57.out.size ?_
              intro vG w58k hov hgr _ _
              have B58 := Lib.hid (Below.grown B57.out hgr B57.out.size (fun q hq => (Ov.lt v57.out q hq).1))
              have G58 := Lib.hid hov
              clear hov hgr
              refine hK.out _ _ ?hs9ew4w0w2w5w8a (fun hHeld => ?_)
              case hs9ew4w0w2w5w8a => (try dsimp only); exact S3S.out _ B58.out
              clear hK K
              try simp only [Act.put, List.setIfInBounds_toArray, List.set_cons_zero, List.set_cons_succ, List.getElem_toArray, List.getElem_cons_succ, List.getElem_cons_zero]
              refine wpAnyH_take (i := 10) (v := ?qv10ew4w0w2w5w8) rfl (by kernel_rfl) (by kernel_rfl) (by kernel_rfl) (fun _ _ _ h => h) (Or.inl ⟨by kernel_rfl, ?qy10ew4w0w2w5w8⟩) (by assumption) ?_
              case qy10ew4w0w2w5w8 => (intro w hSw; (try dsimp only at hSw); go_simp) <;> (try with_reducible rfl)
              try simp only [Act.put, List.setIfInBounds_toArray, List.set_cons_zero, List.set_cons_succ, List.getElem_toArray, List.getElem_cons_succ, List.getElem_cons_zero]
              refine wpAnyH_done (by kernel_rfl) ?_ _
              clear hHeld
              go_wp2_with fail
              go_meet
              obtain ⟨AG, cG, rfl, hleG, hvsG⟩ := Ov.slice G58.out
              rw [← List.map_append] at hvsG hleG ⊢
              exact ⟨_, _, _, _, rfl, by rw [List.length_map, List.length_append]; exact HE9.out, hvsG, B58.out⟩
          · go_simp
            have B59 := Lib.hid (Below.alloc B51.out B51.out.size (.cells #[.int .i64 t] 3))
            have O59 := Lib.hid (Owr.alloc O51.out (.cells #[.int .i64 t] 3))
            have b59 := Lib.hid (Blk.alloc b51.out (.cells #[.int .i64 t] 3))
            have c59 : Hid (Blk (World.alloc w51k (.cells #[.int .i64 t] 3)) ((World.heap w51k).size) 3 ([t].map intV)) := by have h := Blk.new w51k ([t].map intV) 3; (try simp only [World.size_alloc] at h); exact h
            refine hK.out _ _ ?hs8ew4w0w2a (fun hHeld => ?_)
            case hs8ew4w0w2a => (try dsimp only); exact S3S.out _ B59.out
            clear hK K
            try simp only [Act.put, List.setIfInBounds_toArray, List.set_cons_zero, List.set_cons_succ, List.getElem_toArray, List.getElem_cons_succ, List.getElem_cons_zero]
            refine wpAnyH_ready (rs := [5]) (by kernel_rfl) (by simp) ?_
            refine AllReadyH.cons rfl (fun K hK => ?_) AllReadyH.nil
            refine step_appendS rfl _ _ rfl x3.heap.size _ m rfl O59.out _ _ _ [(x, y)] rfl b59.out.sps1 (by have := HN.out; omega) B59.out.size ?_
            intro v60k w60k hrow hgrow
            have B60 := Lib.hid (Below.grown B59.out hgrow B59.out.size (fun q hq => (World.ownsRow.lt O59.out q hq).1))
            rw [HMM.out] at hrow
            have O60 := Lib.hid hrow
            have c60 := Lib.hid (Blk.grow c59.out hgrow (Ne.symm (Blk.notRow c59.out O59.out (by decide))))
            obtain ⟨AE, cE, hvE, _, hsE⟩ := Owr.sps O60.out
            rw [HML.out] at hvE hsE
            subst hvE
            have SE := Lib.hid hsE
            clear hsE
            clear hrow hgrow
            refine hK.out _ _ ?hs5ew4w0w2w8a (fun hHeld => ?_)
            case hs5ew4w0w2w8a => (try dsimp only); exact S3S.out _ B60.out
            clear hK K
            try simp only [Act.put, List.setIfInBounds_toArray, List.set_cons_zero, List.set_cons_succ, List.getElem_toArray, List.getElem_cons_succ, List.getElem_cons_zero]
            refine wpAnyH_ready (rs := [6]) (by kernel_rfl) (by simp) ?_
            refine AllReadyH.cons rfl (fun K hK => ?_) AllReadyH.nil
            go_simp
            refine (rfEdges AE _ cE mm w60k SE.out M641.out (by omega)).mono ?_
            rintro e w61k ⟨vF, EE, rfl, hoF, he, hel, hy⟩
            have B61 := Lib.hid (bstep B60.out hy B60.out.size)
            have v61 := Lib.hid (Ov.mono hoF B60.out.size)
            have HEL : Hid (EE.length ≤ 300) := by have := HML.out; have := HN.out; unfold Hid; omega
            have HE9 : Hid (EE.length + [t].length ≤ 1000) := by have := HEL.out; unfold Hid; rw [List.length_singleton]; omega
            have c61 := Lib.hid (Blk.below c60.out hy)
            clear hoF he hel hy
            go_wp2_with fail
            refine hK.out _ _ ?hs6ew4w0w2w8a (fun hHeld => ?_)
            case hs6ew4w0w2w8a => (try dsimp only); exact S3S.out _ B61.out
            clear hK K
            try simp only [Act.put, List.setIfInBounds_toArray, List.set_cons_zero, List.set_cons_succ, List.getElem_toArray, List.getElem_cons_succ, List.getElem_cons_zero]
            refine wpAnyH_ready (rs := [9]) (by kernel_rfl) (by simp) ?_
            refine AllReadyH.cons rfl (fun K hK => ?_) AllReadyH.nil
            refine step_appendV rfl _ _ 22 rfl x3.heap.size 3 i1 (.int .i64 0) Try.underlying22 hi1 hz0 hz1 (by omega) rfl _ (EE.map intV) rfl v61.out _ 1 1 ([t].map intV) rfl c61.out.vs1 (ints_one _) (by have := HEL.out; rw [List.length_map]; omega) B61.out.size ?_
            intro vG w62k hov hgr _ _
            have B62 := Lib.hid (Below.grown B61.out hgr B61.out.size (fun q hq => (Ov.lt v61.out q hq).1))
            have G62 := Lib.hid hov
            clear hov hgr
            refine hK.out _ _ ?hs9ew4w0w2w8a (fun hHeld => ?_)
            case hs9ew4w0w2w8a => (try dsimp only); exact S3S.out _ B62.out
            clear hK K
            try simp only [Act.put, List.setIfInBounds_toArray, List.set_cons_zero, List.set_cons_succ, List.getElem_toArray, List.getElem_cons_succ, List.getElem_cons_zero]
            refine wpAnyH_take (i := 10) (v := ?qv10ew4w0w2w8) rfl (by kernel_rfl) (by kernel_rfl) (by kernel_rfl) (fun _ _ _ h => h) (Or.inl ⟨by kernel_rfl, ?qy10ew4w0w2w8⟩) (by assumption) ?_
            case qy10ew4w0w2w8 => (intro w hSw; (try dsimp only at hSw); go_simp) <;> (try with_reducible rfl)
            try simp only [Act.put, List.setIfInBounds_toArray, List.set_cons_zero, List.set_cons_succ, List.getElem_toArray, List.getElem_cons_succ, List.getElem_cons_zero]
            refine wpAnyH_done (by kernel_rfl) ?_ _
            clear hHeld
            go_wp2_with fail
            go_meet
            obtain ⟨AG, cG, rfl, hleG, hvsG⟩ := Ov.slice G62.out
            rw [← List.map_append] at hvsG hleG ⊢
            exact ⟨_, _, _, _, rfl, by rw [List.length_map, List.length_append]; exact HE9.out, hvsG, B62.out⟩
        · go_simp
          have B63 := Lib.hid (Below.alloc B50.out B50.out.size (.cells #[.int .i64 t] 3))
          have O63 := Lib.hid (Owr.alloc O50.out (.cells #[.int .i64 t] 3))
          have b63 := Lib.hid (Blk.alloc b50.out (.cells #[.int .i64 t] 3))
          have c63 : Hid (Blk (World.alloc (World.alloc (World.alloc (World.drew x6) (.cells #[.int .i64 x, .int .i64 y] 30)) (.cells #[] 30)) (.cells #[.int .i64 t] 3)) ((World.heap (World.drew x6)).size + 1 + 1) 3 ([t].map intV)) := by have h := Blk.new (World.alloc (World.alloc (World.drew x6) (.cells #[.int .i64 x, .int .i64 y] 30)) (.cells #[] 30)) ([t].map intV) 3; (try simp only [World.size_alloc] at h); exact h
          refine hK.out _ _ ?hs8ew4w0a (fun hHeld => ?_)
          case hs8ew4w0a => (try dsimp only); exact S3S.out _ B63.out
          clear hK K
          try simp only [Act.put, List.setIfInBounds_toArray, List.set_cons_zero, List.set_cons_succ, List.getElem_toArray, List.getElem_cons_succ, List.getElem_cons_zero]
          refine wpAnyH_ready (rs := [2]) (by kernel_rfl) (by simp) ?_
          refine AllReadyH.cons rfl (fun K hK => ?_) AllReadyH.nil
          refine step_appendS rfl _ _ rfl x3.heap.size _ [] rfl O63.out _ _ _ m rfl (SW3.out _ B63.out) (by simp; omega) B63.out.size ?_
          intro v64k w64k hrow hgrow
          have B64 := Lib.hid (Below.grown B63.out hgrow B63.out.size (fun q hq => (World.ownsRow.lt O63.out q hq).1))
          rw [List.nil_append] at hrow
          have O64 := Lib.hid hrow
          have b64 := Lib.hid (Blk.grow b63.out hgrow (fun e => ne50.out (Option.some.inj e)))
          have c64 := Lib.hid (Blk.grow c63.out hgrow (Ne.symm (Blk.notRow c63.out O63.out (by decide))))
          clear hrow hgrow
          refine hK.out _ _ ?hs2ew4w0w8a (fun hHeld => ?_)
          case hs2ew4w0w8a => (try dsimp only); exact S3S.out _ B64.out
          clear hK K
          try simp only [Act.put, List.setIfInBounds_toArray, List.set_cons_zero, List.set_cons_succ, List.getElem_toArray, List.getElem_cons_succ, List.getElem_cons_zero]
          refine wpAnyH_ready (rs := [5]) (by kernel_rfl) (by simp) ?_
          refine AllReadyH.cons rfl (fun K hK => ?_) AllReadyH.nil
          refine step_appendS rfl _ _ rfl x3.heap.size _ m rfl O64.out _ _ _ [(x, y)] rfl b64.out.sps1 (by have := HN.out; omega) B64.out.size ?_
          intro v65k w65k hrow hgrow
          have B65 := Lib.hid (Below.grown B64.out hgrow B64.out.size (fun q hq => (World.ownsRow.lt O64.out q hq).1))
          rw [HMM.out] at hrow
          have O65 := Lib.hid hrow
          have c65 := Lib.hid (Blk.grow c64.out hgrow (Ne.symm (Blk.notRow c64.out O64.out (by decide))))
          obtain ⟨AE, cE, hvE, _, hsE⟩ := Owr.sps O65.out
          rw [HML.out] at hvE hsE
          subst hvE
          have SE := Lib.hid hsE
          clear hsE
          clear hrow hgrow
          refine hK.out _ _ ?hs5ew4w0w8a (fun hHeld => ?_)
          case hs5ew4w0w8a => (try dsimp only); exact S3S.out _ B65.out
          clear hK K
          try simp only [Act.put, List.setIfInBounds_toArray, List.set_cons_zero, List.set_cons_succ, List.getElem_toArray, List.getElem_cons_succ, List.getElem_cons_zero]
          refine wpAnyH_ready (rs := [6]) (by kernel_rfl) (by simp) ?_
          refine AllReadyH.cons rfl (fun K hK => ?_) AllReadyH.nil
          go_simp
          refine (rfEdges AE _ cE mm w65k SE.out M641.out (by omega)).mono ?_
          rintro e w66k ⟨vF, EE, rfl, hoF, he, hel, hy⟩
          have B66 := Lib.hid (bstep B65.out hy B65.out.size)
          have v66 := Lib.hid (Ov.mono hoF B65.out.size)
          have HEL : Hid (EE.length ≤ 300) := by have := HML.out; have := HN.out; unfold Hid; omega
          have HE9 : Hid (EE.length + [t].length ≤ 1000) := by have := HEL.out; unfold Hid; rw [List.length_singleton]; omega
          have c66 := Lib.hid (Blk.below c65.out hy)
          clear hoF he hel hy
          go_wp2_with fail
          refine hK.out _ _ ?hs6ew4w0w8a (fun hHeld => ?_)
          case hs6ew4w0w8a => (try dsimp only); exact S3S.out _ B66.out
          clear hK K
          try simp only [Act.put, List.setIfInBounds_toArray, List.set_cons_zero, List.set_cons_succ, List.getElem_toArray, List.getElem_cons_succ, List.getElem_cons_zero]
          refine wpAnyH_ready (rs := [9]) (by kernel_rfl) (by simp) ?_
          refine AllReadyH.cons rfl (fun K hK => ?_) AllReadyH.nil
          refine step_appendV rfl _ _ 22 rfl x3.heap.size 3 i1 (.int .i64 0) Try.underlying22 hi1 hz0 hz1 (by omega) rfl _ (EE.map intV) rfl v66.out _ 1 1 ([t].map intV) rfl c66.out.vs1 (ints_one _) (by have := HEL.out; rw [List.length_map]; omega) B66.out.size ?_
          intro vG w67k hov hgr _ _
          have B67 := Lib.hid (Below.grown B66.out hgr B66.out.size (fun q hq => (Ov.lt v66.out q hq).1))
          have G67 := Lib.hid hov
          clear hov hgr
          refine hK.out _ _ ?hs9ew4w0w8a (fun hHeld => ?_)
          case hs9ew4w0w8a => (try dsimp only); exact S3S.out _ B67.out
          clear hK K
          try simp only [Act.put, List.setIfInBounds_toArray, List.set_cons_zero, List.set_cons_succ, List.getElem_toArray, List.getElem_cons_succ, List.getElem_cons_zero]
          refine wpAnyH_take (i := 10) (v := ?qv10ew4w0w8) rfl (by kernel_rfl) (by kernel_rfl) (by kernel_rfl) (fun _ _ _ h => h) (Or.inl ⟨by kernel_rfl, ?qy10ew4w0w8⟩) (by assumption) ?_
          case qy10ew4w0w8 => (intro w hSw; (try dsimp only at hSw); go_simp) <;> (try with_reducible rfl)
          try simp only [Act.put, List.setIfInBounds_toArray, List.set_cons_zero, List.set_cons_succ, List.getElem_toArray, List.getElem_cons_succ, List.getElem_cons_zero]
          refine wpAnyH_done (by kernel_rfl) ?_ _
          clear hHeld
          go_wp2_with fail
          go_meet
          obtain ⟨AG, cG, rfl, hleG, hvsG⟩ := Ov.slice G67.out
          rw [← List.map_append] at hvsG hleG ⊢
          exact ⟨_, _, _, _, rfl, by rw [List.length_map, List.length_append]; exact HE9.out, hvsG, B67.out⟩
      · go_simp
        have B68 := Lib.hid (Below.alloc B49.out B49.out.size (.cells #[.int .i64 t] 3))
        have b68 := Lib.hid (Blk.alloc b49.out (.cells #[.int .i64 t] 3))
        have c68 : Hid (Blk (World.alloc (World.alloc (World.drew x6) (.cells #[.int .i64 x, .int .i64 y] 30)) (.cells #[.int .i64 t] 3)) ((World.heap (World.drew x6)).size + 1) 3 ([t].map intV)) := by have h := Blk.new (World.alloc (World.drew x6) (.cells #[.int .i64 x, .int .i64 y] 30)) ([t].map intV) 3; (try simp only [World.size_alloc] at h); exact h
        refine hK.out _ _ ?hs8ew4a (fun hHeld => ?_)
        case hs8ew4a => (try dsimp only); exact S3S.out _ B68.out
        clear hK K
        try simp only [Act.put, List.setIfInBounds_toArray, List.set_cons_zero, List.set_cons_succ, List.getElem_toArray, List.getElem_cons_succ, List.getElem_cons_zero]
        refine wpAnyH_ready (rs := [0]) (by kernel_rfl) (by simp) ?_
        refine AllReadyH.cons rfl (fun K hK => ?_) AllReadyH.nil
        go_simp
        have B69 := Lib.hid (Below.alloc B68.out B68.out.size (.cells #[] 30))
        have b69 := Lib.hid (Blk.alloc b68.out (.cells #[] 30))
        have c69 := Lib.hid (Blk.alloc c68.out (.cells #[] 30))
        have O69 : Hid (Owr (World.alloc (World.alloc (World.alloc (World.drew x6) (.cells #[.int .i64 x, .int .i64 y] 30)) (.cells #[.int .i64 t] 3)) (.cells #[] 30)) x3.heap.size (.slice (some ⟨(World.heap (World.drew x6)).size + 1 + 1, 0, none⟩) 0 0) []) := by have h := Owr.made (World.alloc (World.alloc (World.drew x6) (.cells #[.int .i64 x, .int .i64 y] 30)) (.cells #[.int .i64 t] 3)) B68.out.size; (try simp only [World.size_alloc] at h); exact h
        have ne69 : Hid (((World.heap (World.drew x6)).size) ≠ (World.heap (World.drew x6)).size + 1 + 1) := by have h := Nat.ne_of_lt b68.out.lt; (try simp only [World.size_alloc] at h); exact h
        refine hK.out _ _ ?hs0ew4w8a (fun hHeld => ?_)
        case hs0ew4w8a => (try dsimp only); exact S3S.out _ B69.out
        clear hK K
        try simp only [Act.put, List.setIfInBounds_toArray, List.set_cons_zero, List.set_cons_succ, List.getElem_toArray, List.getElem_cons_succ, List.getElem_cons_zero]
        refine wpAnyH_ready (rs := [2]) (by kernel_rfl) (by simp) ?_
        refine AllReadyH.cons rfl (fun K hK => ?_) AllReadyH.nil
        refine step_appendS rfl _ _ rfl x3.heap.size _ [] rfl O69.out _ _ _ m rfl (SW3.out _ B69.out) (by simp; omega) B69.out.size ?_
        intro v70k w70k hrow hgrow
        have B70 := Lib.hid (Below.grown B69.out hgrow B69.out.size (fun q hq => (World.ownsRow.lt O69.out q hq).1))
        rw [List.nil_append] at hrow
        have O70 := Lib.hid hrow
        have b70 := Lib.hid (Blk.grow b69.out hgrow (fun e => ne69.out (Option.some.inj e)))
        have c70 := Lib.hid (Blk.grow c69.out hgrow (Ne.symm (Blk.notRow c69.out O69.out (by decide))))
        clear hrow hgrow
        refine hK.out _ _ ?hs2ew4w8a (fun hHeld => ?_)
        case hs2ew4w8a => (try dsimp only); exact S3S.out _ B70.out
        clear hK K
        try simp only [Act.put, List.setIfInBounds_toArray, List.set_cons_zero, List.set_cons_succ, List.getElem_toArray, List.getElem_cons_succ, List.getElem_cons_zero]
        refine wpAnyH_ready (rs := [5]) (by kernel_rfl) (by simp) ?_
        refine AllReadyH.cons rfl (fun K hK => ?_) AllReadyH.nil
        refine step_appendS rfl _ _ rfl x3.heap.size _ m rfl O70.out _ _ _ [(x, y)] rfl b70.out.sps1 (by have := HN.out; omega) B70.out.size ?_
        intro v71k w71k hrow hgrow
        have B71 := Lib.hid (Below.grown B70.out hgrow B70.out.size (fun q hq => (World.ownsRow.lt O70.out q hq).1))
        rw [HMM.out] at hrow
        have O71 := Lib.hid hrow
        have c71 := Lib.hid (Blk.grow c70.out hgrow (Ne.symm (Blk.notRow c70.out O70.out (by decide))))
        obtain ⟨AE, cE, hvE, _, hsE⟩ := Owr.sps O71.out
        rw [HML.out] at hvE hsE
        subst hvE
        have SE := Lib.hid hsE
        clear hsE
        clear hrow hgrow
        refine hK.out _ _ ?hs5ew4w8a (fun hHeld => ?_)
        case hs5ew4w8a => (try dsimp only); exact S3S.out _ B71.out
        clear hK K
        try simp only [Act.put, List.setIfInBounds_toArray, List.set_cons_zero, List.set_cons_succ, List.getElem_toArray, List.getElem_cons_succ, List.getElem_cons_zero]
        refine wpAnyH_ready (rs := [6]) (by kernel_rfl) (by simp) ?_
        refine AllReadyH.cons rfl (fun K hK => ?_) AllReadyH.nil
        go_simp
        refine (rfEdges AE _ cE mm w71k SE.out M641.out (by omega)).mono ?_
        rintro e w72k ⟨vF, EE, rfl, hoF, he, hel, hy⟩
        have B72 := Lib.hid (bstep B71.out hy B71.out.size)
        have v72 := Lib.hid (Ov.mono hoF B71.out.size)
        have HEL : Hid (EE.length ≤ 300) := by have := HML.out; have := HN.out; unfold Hid; omega
        have HE9 : Hid (EE.length + [t].length ≤ 1000) := by have := HEL.out; unfold Hid; rw [List.length_singleton]; omega
        have c72 := Lib.hid (Blk.below c71.out hy)
        clear hoF he hel hy
        go_wp2_with fail
        refine hK.out _ _ ?hs6ew4w8a (fun hHeld => ?_)
        case hs6ew4w8a => (try dsimp only); exact S3S.out _ B72.out
        clear hK K
        try simp only [Act.put, List.setIfInBounds_toArray, List.set_cons_zero, List.set_cons_succ, List.getElem_toArray, List.getElem_cons_succ, List.getElem_cons_zero]
        refine wpAnyH_ready (rs := [9]) (by kernel_rfl) (by simp) ?_
        refine AllReadyH.cons rfl (fun K hK => ?_) AllReadyH.nil
        refine step_appendV rfl _ _ 22 rfl x3.heap.size 3 i1 (.int .i64 0) Try.underlying22 hi1 hz0 hz1 (by omega) rfl _ (EE.map intV) rfl v72.out _ 1 1 ([t].map intV) rfl c72.out.vs1 (ints_one _) (by have := HEL.out; rw [List.length_map]; omega) B72.out.size ?_
        intro vG w73k hov hgr _ _
        have B73 := Lib.hid (Below.grown B72.out hgr B72.out.size (fun q hq => (Ov.lt v72.out q hq).1))
        have G73 := Lib.hid hov
        clear hov hgr
        refine hK.out _ _ ?hs9ew4w8a (fun hHeld => ?_)
        case hs9ew4w8a => (try dsimp only); exact S3S.out _ B73.out
        clear hK K
        try simp only [Act.put, List.setIfInBounds_toArray, List.set_cons_zero, List.set_cons_succ, List.getElem_toArray, List.getElem_cons_succ, List.getElem_cons_zero]
        refine wpAnyH_take (i := 10) (v := ?qv10ew4w8) rfl (by kernel_rfl) (by kernel_rfl) (by kernel_rfl) (fun _ _ _ h => h) (Or.inl ⟨by kernel_rfl, ?qy10ew4w8⟩) (by assumption) ?_
        case qy10ew4w8 => (intro w hSw; (try dsimp only at hSw); go_simp) <;> (try with_reducible rfl)
        try simp only [Act.put, List.setIfInBounds_toArray, List.set_cons_zero, List.set_cons_succ, List.getElem_toArray, List.getElem_cons_succ, List.getElem_cons_zero]
        refine wpAnyH_done (by kernel_rfl) ?_ _
        clear hHeld
        go_wp2_with fail
        go_meet
        obtain ⟨AG, cG, rfl, hleG, hvsG⟩ := Ov.slice G73.out
        rw [← List.map_append] at hvsG hleG ⊢
        exact ⟨_, _, _, _, rfl, by rw [List.length_map, List.length_append]; exact HE9.out, hvsG, B73.out⟩
    · go_simp
      have B74 := Lib.hid (Below.alloc B7.out B7.out.size (.cells #[.int .i64 t] 3))
      have c74 : Hid (Blk (World.alloc (World.drew x6) (.cells #[.int .i64 t] 3)) ((World.heap (World.drew x6)).size) 3 ([t].map intV)) := by have h := Blk.new (World.drew x6) ([t].map intV) 3; (try simp only [World.size_alloc] at h); exact h
      refine hK.out _ _ ?hs8ea (fun hHeld => ?_)
      case hs8ea => (try dsimp only); exact S3S.out _ B74.out
      clear hK K
      try simp only [Act.put, List.setIfInBounds_toArray, List.set_cons_zero, List.set_cons_succ, List.getElem_toArray, List.getElem_cons_succ, List.getElem_cons_zero]
      refine wpAnyH_ready (rs := [0, 4]) (by kernel_rfl) (by simp) ?_
      refine AllReadyH.cons rfl (fun K hK => ?_) (AllReadyH.cons rfl (fun K hK => ?_) (AllReadyH.nil))
      · go_simp
        have B75 := Lib.hid (Below.alloc B74.out B74.out.size (.cells #[] 30))
        have c75 := Lib.hid (Blk.alloc c74.out (.cells #[] 30))
        have O75 : Hid (Owr (World.alloc (World.alloc (World.drew x6) (.cells #[.int .i64 t] 3)) (.cells #[] 30)) x3.heap.size (.slice (some ⟨(World.heap (World.drew x6)).size + 1, 0, none⟩) 0 0) []) := by have h := Owr.made (World.alloc (World.drew x6) (.cells #[.int .i64 t] 3)) B74.out.size; (try simp only [World.size_alloc] at h); exact h
        refine hK.out _ _ ?hs0ew8a (fun hHeld => ?_)
        case hs0ew8a => (try dsimp only); exact S3S.out _ B75.out
        clear hK K
        try simp only [Act.put, List.setIfInBounds_toArray, List.set_cons_zero, List.set_cons_succ, List.getElem_toArray, List.getElem_cons_succ, List.getElem_cons_zero]
        refine wpAnyH_ready (rs := [2, 4]) (by kernel_rfl) (by simp) ?_
        refine AllReadyH.cons rfl (fun K hK => ?_) (AllReadyH.cons rfl (fun K hK => ?_) (AllReadyH.nil))
        · refine step_appendS rfl _ _ rfl x3.heap.size _ [] rfl O75.out _ _ _ m rfl (SW3.out _ B75.out) (by simp; omega) B75.out.size ?_
          intro v76k w76k hrow hgrow
          have B76 := Lib.hid (Below.grown B75.out hgrow B75.out.size (fun q hq => (World.ownsRow.lt O75.out q hq).1))
          rw [List.nil_append] at hrow
          have O76 := Lib.hid hrow
          have c76 := Lib.hid (Blk.grow c75.out hgrow (Ne.symm (Blk.notRow c75.out O75.out (by decide))))
          clear hrow hgrow
          refine hK.out _ _ ?hs2ew8w0a (fun hHeld => ?_)
          case hs2ew8w0a => (try dsimp only); exact S3S.out _ B76.out
          clear hK K
          try simp only [Act.put, List.setIfInBounds_toArray, List.set_cons_zero, List.set_cons_succ, List.getElem_toArray, List.getElem_cons_succ, List.getElem_cons_zero]
          refine wpAnyH_ready (rs := [4]) (by kernel_rfl) (by simp) ?_
          refine AllReadyH.cons rfl (fun K hK => ?_) AllReadyH.nil
          go_simp
          have B77 := Lib.hid (Below.alloc B76.out B76.out.size (.cells #[.int .i64 x, .int .i64 y] 30))
          have O77 := Lib.hid (Owr.alloc O76.out (.cells #[.int .i64 x, .int .i64 y] 30))
          have c77 := Lib.hid (Blk.alloc c76.out (.cells #[.int .i64 x, .int .i64 y] 30))
          have b77 : Hid (Blk (World.alloc w76k (.cells #[.int .i64 x, .int .i64 y] 30)) ((World.heap w76k).size) 30 (spCs [(x, y)])) := by have h := Blk.new w76k (spCs [(x, y)]) 30; (try simp only [World.size_alloc] at h); exact h
          refine hK.out _ _ ?hs4ew8w0w2a (fun hHeld => ?_)
          case hs4ew8w0w2a => (try dsimp only); exact S3S.out _ B77.out
          clear hK K
          try simp only [Act.put, List.setIfInBounds_toArray, List.set_cons_zero, List.set_cons_succ, List.getElem_toArray, List.getElem_cons_succ, List.getElem_cons_zero]
          refine wpAnyH_ready (rs := [5]) (by kernel_rfl) (by simp) ?_
          refine AllReadyH.cons rfl (fun K hK => ?_) AllReadyH.nil
          refine step_appendS rfl _ _ rfl x3.heap.size _ m rfl O77.out _ _ _ [(x, y)] rfl b77.out.sps1 (by have := HN.out; omega) B77.out.size ?_
          intro v78k w78k hrow hgrow
          have B78 := Lib.hid (Below.grown B77.out hgrow B77.out.size (fun q hq => (World.ownsRow.lt O77.out q hq).1))
          rw [HMM.out] at hrow
          have O78 := Lib.hid hrow
          have c78 := Lib.hid (Blk.grow c77.out hgrow (Ne.symm (Blk.notRow c77.out O77.out (by decide))))
          obtain ⟨AE, cE, hvE, _, hsE⟩ := Owr.sps O78.out
          rw [HML.out] at hvE hsE
          subst hvE
          have SE := Lib.hid hsE
          clear hsE
          clear hrow hgrow
          refine hK.out _ _ ?hs5ew8w0w2a (fun hHeld => ?_)
          case hs5ew8w0w2a => (try dsimp only); exact S3S.out _ B78.out
          clear hK K
          try simp only [Act.put, List.setIfInBounds_toArray, List.set_cons_zero, List.set_cons_succ, List.getElem_toArray, List.getElem_cons_succ, List.getElem_cons_zero]
          refine wpAnyH_ready (rs := [6]) (by kernel_rfl) (by simp) ?_
          refine AllReadyH.cons rfl (fun K hK => ?_) AllReadyH.nil
          go_simp
          refine (rfEdges AE _ cE mm w78k SE.out M641.out (by omega)).mono ?_
          rintro e w79k ⟨vF, EE, rfl, hoF, he, hel, hy⟩
          have B79 := Lib.hid (bstep B78.out hy B78.out.size)
          have v79 := Lib.hid (Ov.mono hoF B78.out.size)
          have HEL : Hid (EE.length ≤ 300) := by have := HML.out; have := HN.out; unfold Hid; omega
          have HE9 : Hid (EE.length + [t].length ≤ 1000) := by have := HEL.out; unfold Hid; rw [List.length_singleton]; omega
          have c79 := Lib.hid (Blk.below c78.out hy)
          clear hoF he hel hy
          go_wp2_with fail
          refine hK.out _ _ ?hs6ew8w0w2a (fun hHeld => ?_)
          case hs6ew8w0w2a => (try dsimp only); exact S3S.out _ B79.out
          clear hK K
          try simp only [Act.put, List.setIfInBounds_toArray, List.set_cons_zero, List.set_cons_succ, List.getElem_toArray, List.getElem_cons_succ, List.getElem_cons_zero]
          refine wpAnyH_ready (rs := [9]) (by kernel_rfl) (by simp) ?_
          refine AllReadyH.cons rfl (fun K hK => ?_) AllReadyH.nil
          refine step_appendV rfl _ _ 22 rfl x3.heap.size 3 i1 (.int .i64 0) Try.underlying22 hi1 hz0 hz1 (by omega) rfl _ (EE.map intV) rfl v79.out _ 1 1 ([t].map intV) rfl c79.out.vs1 (ints_one _) (by have := HEL.out; rw [List.length_map]; omega) B79.out.size ?_
          intro vG w80k hov hgr _ _
          have B80 := Lib.hid (Below.grown B79.out hgr B79.out.size (fun q hq => (Ov.lt v79.out q hq).1))
          have G80 := Lib.hid hov
          clear hov hgr
          refine hK.out _ _ ?hs9ew8w0w2a (fun hHeld => ?_)
          case hs9ew8w0w2a => (try dsimp only); exact S3S.out _ B80.out
          clear hK K
          try simp only [Act.put, List.setIfInBounds_toArray, List.set_cons_zero, List.set_cons_succ, List.getElem_toArray, List.getElem_cons_succ, List.getElem_cons_zero]
          refine wpAnyH_take (i := 10) (v := ?qv10ew8w0w2) rfl (by kernel_rfl) (by kernel_rfl) (by kernel_rfl) (fun _ _ _ h => h) (Or.inl ⟨by kernel_rfl, ?qy10ew8w0w2⟩) (by assumption) ?_
          case qy10ew8w0w2 => (intro w hSw; (try dsimp only at hSw); go_simp) <;> (try with_reducible rfl)
          try simp only [Act.put, List.setIfInBounds_toArray, List.set_cons_zero, List.set_cons_succ, List.getElem_toArray, List.getElem_cons_succ, List.getElem_cons_zero]
          refine wpAnyH_done (by kernel_rfl) ?_ _
          clear hHeld
          go_wp2_with fail
          go_meet
          obtain ⟨AG, cG, rfl, hleG, hvsG⟩ := Ov.slice G80.out
          rw [← List.map_append] at hvsG hleG ⊢
          exact ⟨_, _, _, _, rfl, by rw [List.length_map, List.length_append]; exact HE9.out, hvsG, B80.out⟩
        · go_simp
          have B81 := Lib.hid (Below.alloc B75.out B75.out.size (.cells #[.int .i64 x, .int .i64 y] 30))
          have O81 := Lib.hid (Owr.alloc O75.out (.cells #[.int .i64 x, .int .i64 y] 30))
          have c81 := Lib.hid (Blk.alloc c75.out (.cells #[.int .i64 x, .int .i64 y] 30))
          have b81 : Hid (Blk (World.alloc (World.alloc (World.alloc (World.drew x6) (.cells #[.int .i64 t] 3)) (.cells #[] 30)) (.cells #[.int .i64 x, .int .i64 y] 30)) ((World.heap (World.drew x6)).size + 1 + 1) 30 (spCs [(x, y)])) := by have h := Blk.new (World.alloc (World.alloc (World.drew x6) (.cells #[.int .i64 t] 3)) (.cells #[] 30)) (spCs [(x, y)]) 30; (try simp only [World.size_alloc] at h); exact h
          have ne81 : Hid ((World.heap (World.drew x6)).size + 1 + 1 ≠ (World.heap (World.drew x6)).size + 1) := by have h := Nat.ne_of_gt (World.ownsRow.lt O75.out _ rfl).2; (try simp only [World.size_alloc] at h); exact h
          refine hK.out _ _ ?hs4ew8w0a (fun hHeld => ?_)
          case hs4ew8w0a => (try dsimp only); exact S3S.out _ B81.out
          clear hK K
          try simp only [Act.put, List.setIfInBounds_toArray, List.set_cons_zero, List.set_cons_succ, List.getElem_toArray, List.getElem_cons_succ, List.getElem_cons_zero]
          refine wpAnyH_ready (rs := [2]) (by kernel_rfl) (by simp) ?_
          refine AllReadyH.cons rfl (fun K hK => ?_) AllReadyH.nil
          refine step_appendS rfl _ _ rfl x3.heap.size _ [] rfl O81.out _ _ _ m rfl (SW3.out _ B81.out) (by simp; omega) B81.out.size ?_
          intro v82k w82k hrow hgrow
          have B82 := Lib.hid (Below.grown B81.out hgrow B81.out.size (fun q hq => (World.ownsRow.lt O81.out q hq).1))
          rw [List.nil_append] at hrow
          have O82 := Lib.hid hrow
          have b82 := Lib.hid (Blk.grow b81.out hgrow (fun e => ne81.out (Option.some.inj e)))
          have c82 := Lib.hid (Blk.grow c81.out hgrow (Ne.symm (Blk.notRow c81.out O81.out (by decide))))
          clear hrow hgrow
          refine hK.out _ _ ?hs2ew8w0w4a (fun hHeld => ?_)
          case hs2ew8w0w4a => (try dsimp only); exact S3S.out _ B82.out
          clear hK K
          try simp only [Act.put, List.setIfInBounds_toArray, List.set_cons_zero, List.set_cons_succ, List.getElem_toArray, List.getElem_cons_succ, List.getElem_cons_zero]
          refine wpAnyH_ready (rs := [5]) (by kernel_rfl) (by simp) ?_
          refine AllReadyH.cons rfl (fun K hK => ?_) AllReadyH.nil
          refine step_appendS rfl _ _ rfl x3.heap.size _ m rfl O82.out _ _ _ [(x, y)] rfl b82.out.sps1 (by have := HN.out; omega) B82.out.size ?_
          intro v83k w83k hrow hgrow
          have B83 := Lib.hid (Below.grown B82.out hgrow B82.out.size (fun q hq => (World.ownsRow.lt O82.out q hq).1))
          rw [HMM.out] at hrow
          have O83 := Lib.hid hrow
          have c83 := Lib.hid (Blk.grow c82.out hgrow (Ne.symm (Blk.notRow c82.out O82.out (by decide))))
          obtain ⟨AE, cE, hvE, _, hsE⟩ := Owr.sps O83.out
          rw [HML.out] at hvE hsE
          subst hvE
          have SE := Lib.hid hsE
          clear hsE
          clear hrow hgrow
          refine hK.out _ _ ?hs5ew8w0w4a (fun hHeld => ?_)
          case hs5ew8w0w4a => (try dsimp only); exact S3S.out _ B83.out
          clear hK K
          try simp only [Act.put, List.setIfInBounds_toArray, List.set_cons_zero, List.set_cons_succ, List.getElem_toArray, List.getElem_cons_succ, List.getElem_cons_zero]
          refine wpAnyH_ready (rs := [6]) (by kernel_rfl) (by simp) ?_
          refine AllReadyH.cons rfl (fun K hK => ?_) AllReadyH.nil
          go_simp
          refine (rfEdges AE _ cE mm w83k SE.out M641.out (by omega)).mono ?_
          rintro e w84k ⟨vF, EE, rfl, hoF, he, hel, hy⟩
          have B84 := Lib.hid (bstep B83.out hy B83.out.size)
          have v84 := Lib.hid (Ov.mono hoF B83.out.size)
          have HEL : Hid (EE.length ≤ 300) := by have := HML.out; have := HN.out; unfold Hid; omega
          have HE9 : Hid (EE.length + [t].length ≤ 1000) := by have := HEL.out; unfold Hid; rw [List.length_singleton]; omega
          have c84 := Lib.hid (Blk.below c83.out hy)
          clear hoF he hel hy
          go_wp2_with fail
          refine hK.out _ _ ?hs6ew8w0w4a (fun hHeld => ?_)
          case hs6ew8w0w4a => (try dsimp only); exact S3S.out _ B84.out
          clear hK K
          try simp only [Act.put, List.setIfInBounds_toArray, List.set_cons_zero, List.set_cons_succ, List.getElem_toArray, List.getElem_cons_succ, List.getElem_cons_zero]
          refine wpAnyH_ready (rs := [9]) (by kernel_rfl) (by simp) ?_
          refine AllReadyH.cons rfl (fun K hK => ?_) AllReadyH.nil
          refine step_appendV rfl _ _ 22 rfl x3.heap.size 3 i1 (.int .i64 0) Try.underlying22 hi1 hz0 hz1 (by omega) rfl _ (EE.map intV) rfl v84.out _ 1 1 ([t].map intV) rfl c84.out.vs1 (ints_one _) (by have := HEL.out; rw [List.length_map]; omega) B84.out.size ?_
          intro vG w85k hov hgr _ _
          have B85 := Lib.hid (Below.grown B84.out hgr B84.out.size (fun q hq => (Ov.lt v84.out q hq).1))
          have G85 := Lib.hid hov
          clear hov hgr
          refine hK.out _ _ ?hs9ew8w0w4a (fun hHeld => ?_)
          case hs9ew8w0w4a => (try dsimp only); exact S3S.out _ B85.out
          clear hK K
          try simp only [Act.put, List.setIfInBounds_toArray, List.set_cons_zero, List.set_cons_succ, List.getElem_toArray, List.getElem_cons_succ, List.getElem_cons_zero]
          refine wpAnyH_take (i := 10) (v := ?qv10ew8w0w4) rfl (by kernel_rfl) (by kernel_rfl) (by kernel_rfl) (fun _ _ _ h => h) (Or.inl ⟨by kernel_rfl, ?qy10ew8w0w4⟩) (by assumption) ?_
          case qy10ew8w0w4 => (intro w hSw; (try dsimp only at hSw); go_simp) <;> (try with_reducible rfl)
          try simp only [Act.put, List.setIfInBounds_toArray, List.set_cons_zero, List.set_cons_succ, List.getElem_toArray, List.getElem_cons_succ, List.getElem_cons_zero]
          refine wpAnyH_done (by kernel_rfl) ?_ _
          clear hHeld
          go_wp2_with fail
          go_meet
          obtain ⟨AG, cG, rfl, hleG, hvsG⟩ := Ov.slice G85.out
          rw [← List.map_append] at hvsG hleG ⊢
          exact ⟨_, _, _, _, rfl, by rw [List.length_map, List.length_append]; exact HE9.out, hvsG, B85.out⟩
      · go_simp
        have B86 := Lib.hid (Below.alloc B74.out B74.out.size (.cells #[.int .i64 x, .int .i64 y] 30))
        have c86 := Lib.hid (Blk.alloc c74.out (.cells #[.int .i64 x, .int .i64 y] 30))
        have b86 : Hid (Blk (World.alloc (World.alloc (World.drew x6) (.cells #[.int .i64 t] 3)) (.cells #[.int .i64 x, .int .i64 y] 30)) ((World.heap (World.drew x6)).size + 1) 30 (spCs [(x, y)])) := by have h := Blk.new (World.alloc (World.drew x6) (.cells #[.int .i64 t] 3)) (spCs [(x, y)]) 30; (try simp only [World.size_alloc] at h); exact h
        refine hK.out _ _ ?hs4ew8a (fun hHeld => ?_)
        case hs4ew8a => (try dsimp only); exact S3S.out _ B86.out
        clear hK K
        try simp only [Act.put, List.setIfInBounds_toArray, List.set_cons_zero, List.set_cons_succ, List.getElem_toArray, List.getElem_cons_succ, List.getElem_cons_zero]
        refine wpAnyH_ready (rs := [0]) (by kernel_rfl) (by simp) ?_
        refine AllReadyH.cons rfl (fun K hK => ?_) AllReadyH.nil
        go_simp
        have B87 := Lib.hid (Below.alloc B86.out B86.out.size (.cells #[] 30))
        have b87 := Lib.hid (Blk.alloc b86.out (.cells #[] 30))
        have c87 := Lib.hid (Blk.alloc c86.out (.cells #[] 30))
        have O87 : Hid (Owr (World.alloc (World.alloc (World.alloc (World.drew x6) (.cells #[.int .i64 t] 3)) (.cells #[.int .i64 x, .int .i64 y] 30)) (.cells #[] 30)) x3.heap.size (.slice (some ⟨(World.heap (World.drew x6)).size + 1 + 1, 0, none⟩) 0 0) []) := by have h := Owr.made (World.alloc (World.alloc (World.drew x6) (.cells #[.int .i64 t] 3)) (.cells #[.int .i64 x, .int .i64 y] 30)) B86.out.size; (try simp only [World.size_alloc] at h); exact h
        have ne87 : Hid (((World.heap (World.drew x6)).size + 1) ≠ (World.heap (World.drew x6)).size + 1 + 1) := by have h := Nat.ne_of_lt b86.out.lt; (try simp only [World.size_alloc] at h); exact h
        refine hK.out _ _ ?hs0ew8w4a (fun hHeld => ?_)
        case hs0ew8w4a => (try dsimp only); exact S3S.out _ B87.out
        clear hK K
        try simp only [Act.put, List.setIfInBounds_toArray, List.set_cons_zero, List.set_cons_succ, List.getElem_toArray, List.getElem_cons_succ, List.getElem_cons_zero]
        refine wpAnyH_ready (rs := [2]) (by kernel_rfl) (by simp) ?_
        refine AllReadyH.cons rfl (fun K hK => ?_) AllReadyH.nil
        refine step_appendS rfl _ _ rfl x3.heap.size _ [] rfl O87.out _ _ _ m rfl (SW3.out _ B87.out) (by simp; omega) B87.out.size ?_
        intro v88k w88k hrow hgrow
        have B88 := Lib.hid (Below.grown B87.out hgrow B87.out.size (fun q hq => (World.ownsRow.lt O87.out q hq).1))
        rw [List.nil_append] at hrow
        have O88 := Lib.hid hrow
        have b88 := Lib.hid (Blk.grow b87.out hgrow (fun e => ne87.out (Option.some.inj e)))
        have c88 := Lib.hid (Blk.grow c87.out hgrow (Ne.symm (Blk.notRow c87.out O87.out (by decide))))
        clear hrow hgrow
        refine hK.out _ _ ?hs2ew8w4a (fun hHeld => ?_)
        case hs2ew8w4a => (try dsimp only); exact S3S.out _ B88.out
        clear hK K
        try simp only [Act.put, List.setIfInBounds_toArray, List.set_cons_zero, List.set_cons_succ, List.getElem_toArray, List.getElem_cons_succ, List.getElem_cons_zero]
        refine wpAnyH_ready (rs := [5]) (by kernel_rfl) (by simp) ?_
        refine AllReadyH.cons rfl (fun K hK => ?_) AllReadyH.nil
        refine step_appendS rfl _ _ rfl x3.heap.size _ m rfl O88.out _ _ _ [(x, y)] rfl b88.out.sps1 (by have := HN.out; omega) B88.out.size ?_
        intro v89k w89k hrow hgrow
        have B89 := Lib.hid (Below.grown B88.out hgrow B88.out.size (fun q hq => (World.ownsRow.lt O88.out q hq).1))
        rw [HMM.out] at hrow
        have O89 := Lib.hid hrow
        have c89 := Lib.hid (Blk.grow c88.out hgrow (Ne.symm (Blk.notRow c88.out O88.out (by decide))))
        obtain ⟨AE, cE, hvE, _, hsE⟩ := Owr.sps O89.out
        rw [HML.out] at hvE hsE
        subst hvE
        have SE := Lib.hid hsE
        clear hsE
        clear hrow hgrow
        refine hK.out _ _ ?hs5ew8w4a (fun hHeld => ?_)
        case hs5ew8w4a => (try dsimp only); exact S3S.out _ B89.out
        clear hK K
        try simp only [Act.put, List.setIfInBounds_toArray, List.set_cons_zero, List.set_cons_succ, List.getElem_toArray, List.getElem_cons_succ, List.getElem_cons_zero]
        refine wpAnyH_ready (rs := [6]) (by kernel_rfl) (by simp) ?_
        refine AllReadyH.cons rfl (fun K hK => ?_) AllReadyH.nil
        go_simp
        refine (rfEdges AE _ cE mm w89k SE.out M641.out (by omega)).mono ?_
        rintro e w90k ⟨vF, EE, rfl, hoF, he, hel, hy⟩
        have B90 := Lib.hid (bstep B89.out hy B89.out.size)
        have v90 := Lib.hid (Ov.mono hoF B89.out.size)
        have HEL : Hid (EE.length ≤ 300) := by have := HML.out; have := HN.out; unfold Hid; omega
        have HE9 : Hid (EE.length + [t].length ≤ 1000) := by have := HEL.out; unfold Hid; rw [List.length_singleton]; omega
        have c90 := Lib.hid (Blk.below c89.out hy)
        clear hoF he hel hy
        go_wp2_with fail
        refine hK.out _ _ ?hs6ew8w4a (fun hHeld => ?_)
        case hs6ew8w4a => (try dsimp only); exact S3S.out _ B90.out
        clear hK K
        try simp only [Act.put, List.setIfInBounds_toArray, List.set_cons_zero, List.set_cons_succ, List.getElem_toArray, List.getElem_cons_succ, List.getElem_cons_zero]
        refine wpAnyH_ready (rs := [9]) (by kernel_rfl) (by simp) ?_
        refine AllReadyH.cons rfl (fun K hK => ?_) AllReadyH.nil
        refine step_appendV rfl _ _ 22 rfl x3.heap.size 3 i1 (.int .i64 0) Try.underlying22 hi1 hz0 hz1 (by omega) rfl _ (EE.map intV) rfl v90.out _ 1 1 ([t].map intV) rfl c90.out.vs1 (ints_one _) (by have := HEL.out; rw [List.length_map]; omega) B90.out.size ?_
        intro vG w91k hov hgr _ _
        have B91 := Lib.hid (Below.grown B90.out hgr B90.out.size (fun q hq => (Ov.lt v90.out q hq).1))
        have G91 := Lib.hid hov
        clear hov hgr
        refine hK.out _ _ ?hs9ew8w4a (fun hHeld => ?_)
        case hs9ew8w4a => (try dsimp only); exact S3S.out _ B91.out
        clear hK K
        try simp only [Act.put, List.setIfInBounds_toArray, List.set_cons_zero, List.set_cons_succ, List.getElem_toArray, List.getElem_cons_succ, List.getElem_cons_zero]
        refine wpAnyH_take (i := 10) (v := ?qv10ew8w4) rfl (by kernel_rfl) (by kernel_rfl) (by kernel_rfl) (fun _ _ _ h => h) (Or.inl ⟨by kernel_rfl, ?qy10ew8w4⟩) (by assumption) ?_
        case qy10ew8w4 => (intro w hSw; (try dsimp only at hSw); go_simp) <;> (try with_reducible rfl)
        try simp only [Act.put, List.setIfInBounds_toArray, List.set_cons_zero, List.set_cons_succ, List.getElem_toArray, List.getElem_cons_succ, List.getElem_cons_zero]
        refine wpAnyH_done (by kernel_rfl) ?_ _
        clear hHeld
        go_wp2_with fail
        go_meet
        obtain ⟨AG, cG, rfl, hleG, hvsG⟩ := Ov.slice G91.out
        rw [← List.map_append] at hvsG hleG ⊢
        exact ⟨_, _, _, _, rfl, by rw [List.length_map, List.length_append]; exact HE9.out, hvsG, B91.out⟩
  case rest =>
    obtain ⟨A8, c8, T, G, rfl, hT1, hG, hb9⟩ := hcut
    have B10 := Lib.hid hb9
    have SG : Hid (∀ W, Below wc.heap.size wc W → Zs W A8 T G) := fun W hW => Zs.below hG hW
    have LB : Hid (∀ W, Below wc.heap.size wc W → Below x3.heap.size x3 W) := fun W hW => bstep B10.out hW B10.out.size
    have KI := Lib.hid (fun z W => rfIn x y z W)
    clear hG hb9 B7 B6
    go_wp2
    go_loopw [11] (fun i wr => ∃ k : Nat, k ≤ T ∧ i = .int .i64 (k : Int) ∧ Below wc.heap.size wc wr) (fun i _ => T - (intOf i).toNat)
    case atStart => exact ⟨0, Nat.zero_le _, rfl, Below.refl _ _⟩
    case round =>
      obtain ⟨k, hk, rfl, hb⟩ := hrel
      have KB := Lib.hid hb
      clear hb
      by_cases hlt : k < T
      · obtain ⟨b1, o1, rfl, hc⟩ := zs_all SG.out KB.out hlt
        have SC0 := Lib.hid hc
        have e1 : (k : Int) < (T : Int) := by omega
        have e0 : (0 : Int) ≤ (k : Int) := by omega
        clear hc
        obtain ⟨z, hz⟩ : ∃ z, zth G k = z := ⟨_, rfl⟩
        rw [hz] at SC0
        clear hz
        have SC : Hid (∀ W, Below wc.heap.size wc W → W.cell? ⟨b1, o1 + k, none⟩ = some (.int .i64 z) ∧ W.cell? ⟨w.heap.size, 0, none⟩ = some (.int .i64 x) ∧ W.cell? ⟨w.heap.size, 1, none⟩ = some (.int .i64 y)) := fun W hW => ⟨SC0.out W hW, S3S.out W (LB.out W hW)⟩
        have KA : Hid (∀ W, Below wc.heap.size wc W → Calls Try.prog 33 #[.slice A2 N c2, .int .i64 z] W fun e w' => e = .returned (.bool (decide (Anyp m z))) ∧ Below W.heap.size W w') := fun W hW => rfAny A2 N c2 m z W (SW3.out W (LB.out W hW)) (by omega)
        have KR : Hid (∀ A' c' W, Sps W A' R r → Calls Try.prog 33 #[.slice A' R c', .int .i64 z] W fun e w' => e = .returned (.bool (decide (Anyp m z) && !decide (Inn (x, y) z))) ∧ Below W.heap.size W w') := by
          intro A' c' W hW
          have h := rfAny A' R c' r z W hW (by omega)
          rw [FA.out z] at h
          exact h
        have KJ := Lib.hid (fun W => KI.out z W)
        clear KI SC0
        generalize decide (Anyp m z) = b at *
        generalize decide (Inn (x, y) z) = i at *
        have hb0 : (false == false) = true := rfl
        have hb1 : (true == true) = true := rfl
        cases b with
        | true =>
          rw [Bool.true_and] at KR
          obtain ⟨j, hj⟩ : ∃ j, (!i) = j := ⟨_, rfl⟩
          rw [hj] at KR
          have hjj : (j == j) = true := by simp
          go_upto_region 10 with (fail)
          refine wp_region_held_drew (S := fun W => W.cell? ⟨b1, o1 + k, none⟩ = some (.int .i64 z) ∧ W.cell? ⟨w.heap.size, 0, none⟩ = some (.int .i64 x) ∧ W.cell? ⟨w.heap.size, 1, none⟩ = some (.int .i64 y)) (by kernel_rfl) ?hb0 (fun hHeld => ?_)
          case hb0 => (try dsimp only); exact SC.out _ (Below.drew KB.out)
          refine wpAnyH_take (i := 0) (v := ?qv0g) rfl (by kernel_rfl) (by kernel_rfl) (by kernel_rfl) (fun _ _ _ h => h) (Or.inl ⟨by kernel_rfl, ?qy0g⟩) (by assumption) ?_
          case qy0g => (intro w hSw; (try dsimp only at hSw); go_simp) <;> (try with_reducible rfl)
          try simp only [Act.put, List.setIfInBounds_toArray, List.set_cons_zero, List.set_cons_succ, List.getElem_toArray, List.getElem_cons_succ, List.getElem_cons_zero]
          refine wpAnyH_take (i := 2) (v := ?qv2g) rfl (by kernel_rfl) (by kernel_rfl) (by kernel_rfl) (fun _ _ _ h => h) (Or.inl ⟨by kernel_rfl, ?qy2g⟩) (by assumption) ?_
          case qy2g => (intro w hSw; (try dsimp only at hSw); go_simp) <;> (try with_reducible rfl)
          try simp only [Act.put, List.setIfInBounds_toArray, List.set_cons_zero, List.set_cons_succ, List.getElem_toArray, List.getElem_cons_succ, List.getElem_cons_zero]
          refine wpAnyH_take (i := 3) (v := ?qv3g) rfl (by kernel_rfl) (by kernel_rfl) (by kernel_rfl) (fun _ _ _ h => h) (Or.inl ⟨by kernel_rfl, ?qy3g⟩) (by assumption) ?_
          case qy3g => (intro w hSw; (try dsimp only at hSw); go_simp) <;> (try with_reducible rfl)
          try simp only [Act.put, List.setIfInBounds_toArray, List.set_cons_zero, List.set_cons_succ, List.getElem_toArray, List.getElem_cons_succ, List.getElem_cons_zero]
          refine wpAnyH_take (i := 4) (v := ?qv4g) rfl (by kernel_rfl) (by kernel_rfl) (by kernel_rfl) (fun _ _ _ h => h) (Or.inl ⟨by kernel_rfl, ?qy4g⟩) (by assumption) ?_
          case qy4g => (intro w hSw; (try dsimp only at hSw); go_simp) <;> (try with_reducible rfl)
          try simp only [Act.put, List.setIfInBounds_toArray, List.set_cons_zero, List.set_cons_succ, List.getElem_toArray, List.getElem_cons_succ, List.getElem_cons_zero]
          refine wpAnyH_take (i := 5) (v := ?qv5g) rfl (by kernel_rfl) (by kernel_rfl) (by kernel_rfl) (fun _ _ _ h => h) (Or.inl ⟨by kernel_rfl, ?qy5g⟩) (by assumption) ?_
          case qy5g => (intro w hSw; (try dsimp only at hSw); go_simp) <;> (try with_reducible rfl)
          try simp only [Act.put, List.setIfInBounds_toArray, List.set_cons_zero, List.set_cons_succ, List.getElem_toArray, List.getElem_cons_succ, List.getElem_cons_zero]
          refine wpAnyH_take (i := 7) (v := ?qv7g) rfl (by kernel_rfl) (by kernel_rfl) (by kernel_rfl) (fun _ _ _ h => h) (Or.inl ⟨by kernel_rfl, ?qy7g⟩) (by assumption) ?_
          case qy7g => (intro w hSw; (try dsimp only at hSw); go_simp) <;> (try with_reducible rfl)
          try simp only [Act.put, List.setIfInBounds_toArray, List.set_cons_zero, List.set_cons_succ, List.getElem_toArray, List.getElem_cons_succ, List.getElem_cons_zero]
          refine wpAnyH_take (i := 8) (v := ?qv8g) rfl (by kernel_rfl) (by kernel_rfl) (by kernel_rfl) (fun _ _ _ h => h) (Or.inl ⟨by kernel_rfl, ?qy8g⟩) (by assumption) ?_
          case qy8g => (intro w hSw; (try dsimp only at hSw); go_simp) <;> (try with_reducible rfl)
          try simp only [Act.put, List.setIfInBounds_toArray, List.set_cons_zero, List.set_cons_succ, List.getElem_toArray, List.getElem_cons_succ, List.getElem_cons_zero]
          refine wpAnyH_take (i := 9) (v := ?qv9g) rfl (by kernel_rfl) (by kernel_rfl) (by kernel_rfl) (fun _ _ _ h => h) (Or.inl ⟨by kernel_rfl, ?qy9g⟩) (by assumption) ?_
          case qy9g => (intro w hSw; (try dsimp only at hSw); go_simp) <;> (try with_reducible rfl)
          try simp only [Act.put, List.setIfInBounds_toArray, List.set_cons_zero, List.set_cons_succ, List.getElem_toArray, List.getElem_cons_succ, List.getElem_cons_zero]
          refine wpAnyH_take (i := 10) (v := ?qv10g) rfl (by kernel_rfl) (by kernel_rfl) (by kernel_rfl) (fun _ _ _ h => h) (Or.inl ⟨by kernel_rfl, ?qy10g⟩) (by assumption) ?_
          case qy10g => (intro w hSw; (try dsimp only at hSw); go_simp) <;> (try with_reducible rfl)
          try simp only [Act.put, List.setIfInBounds_toArray, List.set_cons_zero, List.set_cons_succ, List.getElem_toArray, List.getElem_cons_succ, List.getElem_cons_zero]
          refine wpAnyH_take (i := 11) (v := ?qv11g) rfl (by kernel_rfl) (by kernel_rfl) (by kernel_rfl) (fun _ _ _ h => h) (Or.inl ⟨by kernel_rfl, ?qy11g⟩) (by assumption) ?_
          case qy11g => (intro w hSw; (try dsimp only at hSw); go_simp) <;> (try with_reducible rfl)
          try simp only [Act.put, List.setIfInBounds_toArray, List.set_cons_zero, List.set_cons_succ, List.getElem_toArray, List.getElem_cons_succ, List.getElem_cons_zero]
          refine wpAnyH_ready (rs := [1]) (by kernel_rfl) (by simp) ?_
          refine AllReadyH.cons rfl (fun K hK => ?_) AllReadyH.nil
          go_simp
          refine (ALN.out _ (LB.out _ (Below.drew KB.out))).mono ?_
          rintro e z1z ⟨Aq, cq, rfl, hs, hy⟩
          have S1s := Lib.hid hs
          have K1 := Lib.hid (bstep (Below.drew KB.out) hy (Below.size ((Below.drew KB.out))))
          clear hs hy
          go_wp2_with fail
          refine hK.out _ _ ?hs1ga (fun hHeld => ?_)
          case hs1ga => (try dsimp only); exact SC.out _ K1.out
          clear hK K
          try simp only [Act.put, List.setIfInBounds_toArray, List.set_cons_zero, List.set_cons_succ, List.getElem_toArray, List.getElem_cons_succ, List.getElem_cons_zero]
          refine wpAnyH_ready (rs := [6]) (by kernel_rfl) (by simp) ?_
          refine AllReadyH.cons rfl (fun K hK => ?_) AllReadyH.nil
          go_simp
          refine (KR.out _ _ _ S1s.out).mono ?_
          rintro e z2z ⟨rfl, hy⟩
          have K2 := Lib.hid (bstep K1.out hy (Below.size (K1.out)))
          clear hy
          go_wp2_with fail
          refine hK.out _ _ ?hs6ga (fun hHeld => ?_)
          case hs6ga => (try dsimp only); exact SC.out _ K2.out
          clear hK K
          try simp only [Act.put, List.setIfInBounds_toArray, List.set_cons_zero, List.set_cons_succ, List.getElem_toArray, List.getElem_cons_succ, List.getElem_cons_zero]
          refine wpAnyH_ready (rs := [12]) (by kernel_rfl) (by simp) ?_
          refine AllReadyH.cons rfl (fun K hK => ?_) AllReadyH.nil
          go_simp
          refine (KA.out _ (K2.out)).mono ?_
          rintro e z3z ⟨rfl, hy⟩
          have K3 := Lib.hid (bstep K2.out hy (Below.size (K2.out)))
          clear hy
          go_wp2_with fail
          refine hK.out _ _ ?hs12ga (fun hHeld => ?_)
          case hs12ga => (try dsimp only); exact SC.out _ K3.out
          clear hK K
          try simp only [Act.put, List.setIfInBounds_toArray, List.set_cons_zero, List.set_cons_succ, List.getElem_toArray, List.getElem_cons_succ, List.getElem_cons_zero]
          refine wpAnyH_take (i := 13) (v := ?qv13g) rfl (by kernel_rfl) (by kernel_rfl) (by kernel_rfl) (fun _ _ _ h => h) (Or.inl ⟨by kernel_rfl, ?qy13g⟩) (by assumption) ?_
          case qy13g => (intro w hSw; (try dsimp only at hSw); go_simp) <;> (try with_reducible rfl)
          try simp only [Act.put, List.setIfInBounds_toArray, List.set_cons_zero, List.set_cons_succ, List.getElem_toArray, List.getElem_cons_succ, List.getElem_cons_zero]
          refine wpAnyH_take (i := 14) (v := ?qv14g) rfl (by kernel_rfl) (by kernel_rfl) (by kernel_rfl) (fun _ _ _ h => h) (Or.inl ⟨by kernel_rfl, ?qy14g⟩) (by assumption) ?_
          case qy14g => (intro w hSw; (try dsimp only at hSw); go_simp) <;> (try with_reducible rfl)
          try simp only [Act.put, List.setIfInBounds_toArray, List.set_cons_zero, List.set_cons_succ, List.getElem_toArray, List.getElem_cons_succ, List.getElem_cons_zero]
          refine wpAnyH_take (i := 15) (v := ?qv15g) rfl (by kernel_rfl) (by kernel_rfl) (by kernel_rfl) (fun _ _ _ h => h) (Or.inl ⟨by kernel_rfl, ?qy15g⟩) (by assumption) ?_
          case qy15g => (intro w hSw; (try dsimp only at hSw); go_simp) <;> (try with_reducible rfl)
          try simp only [Act.put, List.setIfInBounds_toArray, List.set_cons_zero, List.set_cons_succ, List.getElem_toArray, List.getElem_cons_succ, List.getElem_cons_zero]
          refine wpAnyH_take (i := 16) (v := ?qv16g) rfl (by kernel_rfl) (by kernel_rfl) (by kernel_rfl) (fun _ _ _ h => h) (Or.inl ⟨by kernel_rfl, ?qy16g⟩) (by assumption) ?_
          case qy16g => (intro w hSw; (try dsimp only at hSw); go_simp) <;> (try with_reducible rfl)
          try simp only [Act.put, List.setIfInBounds_toArray, List.set_cons_zero, List.set_cons_succ, List.getElem_toArray, List.getElem_cons_succ, List.getElem_cons_zero]
          refine wpAnyH_take (i := 17) (v := ?qv17g) rfl (by kernel_rfl) (by kernel_rfl) (by kernel_rfl) (fun _ _ _ h => h) (Or.inl ⟨by kernel_rfl, ?qy17g⟩) (by assumption) ?_
          case qy17g => (intro w hSw; (try dsimp only at hSw); go_simp) <;> (try with_reducible rfl)
          try simp only [Act.put, List.setIfInBounds_toArray, List.set_cons_zero, List.set_cons_succ, List.getElem_toArray, List.getElem_cons_succ, List.getElem_cons_zero]
          refine wpAnyH_take (i := 18) (v := ?qv18g) rfl (by kernel_rfl) (by kernel_rfl) (by kernel_rfl) (fun _ _ _ h => h) (Or.inl ⟨by kernel_rfl, ?qy18g⟩) (by assumption) ?_
          case qy18g => (intro w hSw; (try dsimp only at hSw); go_simp) <;> (try with_reducible rfl)
          try simp only [Act.put, List.setIfInBounds_toArray, List.set_cons_zero, List.set_cons_succ, List.getElem_toArray, List.getElem_cons_succ, List.getElem_cons_zero]
          refine wpAnyH_ready (rs := [19]) (by kernel_rfl) (by simp) ?_
          refine AllReadyH.cons rfl (fun K hK => ?_) AllReadyH.nil
          go_simp
          refine (KJ.out _).mono ?_
          rintro e z4z ⟨rfl, hy⟩
          have K4 := Lib.hid (bstep K3.out hy (Below.size (K3.out)))
          clear hy
          try rw [hj]
          go_wp2_with fail
          refine hK.out _ _ ?hs19ga (fun hHeld => ?_)
          case hs19ga => (try dsimp only); exact SC.out _ K4.out
          clear hK K
          try simp only [Act.put, List.setIfInBounds_toArray, List.set_cons_zero, List.set_cons_succ, List.getElem_toArray, List.getElem_cons_succ, List.getElem_cons_zero]
          refine wpAnyH_take (i := 20) (v := ?qv20g) rfl (by kernel_rfl) (by kernel_rfl) (by kernel_rfl) (fun _ _ _ h => h) (Or.inl ⟨by kernel_rfl, ?qy20g⟩) (by assumption) ?_
          case qy20g => (intro w hSw; (try dsimp only at hSw); go_simp) <;> (try with_reducible rfl)
          try simp only [Act.put, List.setIfInBounds_toArray, List.set_cons_zero, List.set_cons_succ, List.getElem_toArray, List.getElem_cons_succ, List.getElem_cons_zero]
          refine wpAnyH_take (i := 21) (v := ?qv21g) rfl (by kernel_rfl) (by kernel_rfl) (by kernel_rfl) (fun _ _ _ h => h) (Or.inl ⟨by kernel_rfl, ?qy21g⟩) (by assumption) ?_
          case qy21g => (intro w hSw; (try dsimp only at hSw); go_simp) <;> (try with_reducible rfl)
          try simp only [Act.put, List.setIfInBounds_toArray, List.set_cons_zero, List.set_cons_succ, List.getElem_toArray, List.getElem_cons_succ, List.getElem_cons_zero]
          refine wpAnyH_take (i := 22) (v := ?qv22g) rfl (by kernel_rfl) (by kernel_rfl) (by kernel_rfl) (fun _ _ _ h => h) (Or.inl ⟨by kernel_rfl, ?qy22g⟩) (by assumption) ?_
          case qy22g => (intro w hSw; (try dsimp only at hSw); go_simp) <;> (try with_reducible rfl)
          try simp only [Act.put, List.setIfInBounds_toArray, List.set_cons_zero, List.set_cons_succ, List.getElem_toArray, List.getElem_cons_succ, List.getElem_cons_zero]
          refine wpAnyH_done (by kernel_rfl) ?_ _
          go_wp2
          go_roundw
          case rel => exact ⟨k + 1, by omega, by go_num, K4.out⟩
          case measure => simp [intOf]; omega
        | false =>
          rw [Bool.false_and] at KR
          go_upto_region 10 with (fail)
          refine wp_region_held_drew (S := fun W => W.cell? ⟨b1, o1 + k, none⟩ = some (.int .i64 z) ∧ W.cell? ⟨w.heap.size, 0, none⟩ = some (.int .i64 x) ∧ W.cell? ⟨w.heap.size, 1, none⟩ = some (.int .i64 y)) (by kernel_rfl) ?hb0 (fun hHeld => ?_)
          case hb0 => (try dsimp only); exact SC.out _ (Below.drew KB.out)
          refine wpAnyH_take (i := 0) (v := ?qv0h) rfl (by kernel_rfl) (by kernel_rfl) (by kernel_rfl) (fun _ _ _ h => h) (Or.inl ⟨by kernel_rfl, ?qy0h⟩) (by assumption) ?_
          case qy0h => (intro w hSw; (try dsimp only at hSw); go_simp) <;> (try with_reducible rfl)
          try simp only [Act.put, List.setIfInBounds_toArray, List.set_cons_zero, List.set_cons_succ, List.getElem_toArray, List.getElem_cons_succ, List.getElem_cons_zero]
          refine wpAnyH_take (i := 2) (v := ?qv2h) rfl (by kernel_rfl) (by kernel_rfl) (by kernel_rfl) (fun _ _ _ h => h) (Or.inl ⟨by kernel_rfl, ?qy2h⟩) (by assumption) ?_
          case qy2h => (intro w hSw; (try dsimp only at hSw); go_simp) <;> (try with_reducible rfl)
          try simp only [Act.put, List.setIfInBounds_toArray, List.set_cons_zero, List.set_cons_succ, List.getElem_toArray, List.getElem_cons_succ, List.getElem_cons_zero]
          refine wpAnyH_take (i := 3) (v := ?qv3h) rfl (by kernel_rfl) (by kernel_rfl) (by kernel_rfl) (fun _ _ _ h => h) (Or.inl ⟨by kernel_rfl, ?qy3h⟩) (by assumption) ?_
          case qy3h => (intro w hSw; (try dsimp only at hSw); go_simp) <;> (try with_reducible rfl)
          try simp only [Act.put, List.setIfInBounds_toArray, List.set_cons_zero, List.set_cons_succ, List.getElem_toArray, List.getElem_cons_succ, List.getElem_cons_zero]
          refine wpAnyH_take (i := 4) (v := ?qv4h) rfl (by kernel_rfl) (by kernel_rfl) (by kernel_rfl) (fun _ _ _ h => h) (Or.inl ⟨by kernel_rfl, ?qy4h⟩) (by assumption) ?_
          case qy4h => (intro w hSw; (try dsimp only at hSw); go_simp) <;> (try with_reducible rfl)
          try simp only [Act.put, List.setIfInBounds_toArray, List.set_cons_zero, List.set_cons_succ, List.getElem_toArray, List.getElem_cons_succ, List.getElem_cons_zero]
          refine wpAnyH_take (i := 5) (v := ?qv5h) rfl (by kernel_rfl) (by kernel_rfl) (by kernel_rfl) (fun _ _ _ h => h) (Or.inl ⟨by kernel_rfl, ?qy5h⟩) (by assumption) ?_
          case qy5h => (intro w hSw; (try dsimp only at hSw); go_simp) <;> (try with_reducible rfl)
          try simp only [Act.put, List.setIfInBounds_toArray, List.set_cons_zero, List.set_cons_succ, List.getElem_toArray, List.getElem_cons_succ, List.getElem_cons_zero]
          refine wpAnyH_take (i := 7) (v := ?qv7h) rfl (by kernel_rfl) (by kernel_rfl) (by kernel_rfl) (fun _ _ _ h => h) (Or.inl ⟨by kernel_rfl, ?qy7h⟩) (by assumption) ?_
          case qy7h => (intro w hSw; (try dsimp only at hSw); go_simp) <;> (try with_reducible rfl)
          try simp only [Act.put, List.setIfInBounds_toArray, List.set_cons_zero, List.set_cons_succ, List.getElem_toArray, List.getElem_cons_succ, List.getElem_cons_zero]
          refine wpAnyH_take (i := 8) (v := ?qv8h) rfl (by kernel_rfl) (by kernel_rfl) (by kernel_rfl) (fun _ _ _ h => h) (Or.inl ⟨by kernel_rfl, ?qy8h⟩) (by assumption) ?_
          case qy8h => (intro w hSw; (try dsimp only at hSw); go_simp) <;> (try with_reducible rfl)
          try simp only [Act.put, List.setIfInBounds_toArray, List.set_cons_zero, List.set_cons_succ, List.getElem_toArray, List.getElem_cons_succ, List.getElem_cons_zero]
          refine wpAnyH_take (i := 9) (v := ?qv9h) rfl (by kernel_rfl) (by kernel_rfl) (by kernel_rfl) (fun _ _ _ h => h) (Or.inl ⟨by kernel_rfl, ?qy9h⟩) (by assumption) ?_
          case qy9h => (intro w hSw; (try dsimp only at hSw); go_simp) <;> (try with_reducible rfl)
          try simp only [Act.put, List.setIfInBounds_toArray, List.set_cons_zero, List.set_cons_succ, List.getElem_toArray, List.getElem_cons_succ, List.getElem_cons_zero]
          refine wpAnyH_take (i := 10) (v := ?qv10h) rfl (by kernel_rfl) (by kernel_rfl) (by kernel_rfl) (fun _ _ _ h => h) (Or.inl ⟨by kernel_rfl, ?qy10h⟩) (by assumption) ?_
          case qy10h => (intro w hSw; (try dsimp only at hSw); go_simp) <;> (try with_reducible rfl)
          try simp only [Act.put, List.setIfInBounds_toArray, List.set_cons_zero, List.set_cons_succ, List.getElem_toArray, List.getElem_cons_succ, List.getElem_cons_zero]
          refine wpAnyH_take (i := 11) (v := ?qv11h) rfl (by kernel_rfl) (by kernel_rfl) (by kernel_rfl) (fun _ _ _ h => h) (Or.inl ⟨by kernel_rfl, ?qy11h⟩) (by assumption) ?_
          case qy11h => (intro w hSw; (try dsimp only at hSw); go_simp) <;> (try with_reducible rfl)
          try simp only [Act.put, List.setIfInBounds_toArray, List.set_cons_zero, List.set_cons_succ, List.getElem_toArray, List.getElem_cons_succ, List.getElem_cons_zero]
          refine wpAnyH_ready (rs := [1]) (by kernel_rfl) (by simp) ?_
          refine AllReadyH.cons rfl (fun K hK => ?_) AllReadyH.nil
          go_simp
          refine (ALN.out _ (LB.out _ (Below.drew KB.out))).mono ?_
          rintro e z5z ⟨Aq, cq, rfl, hs, hy⟩
          have S5s := Lib.hid hs
          have K5 := Lib.hid (bstep (Below.drew KB.out) hy (Below.size ((Below.drew KB.out))))
          clear hs hy
          go_wp2_with fail
          refine hK.out _ _ ?hs1ha (fun hHeld => ?_)
          case hs1ha => (try dsimp only); exact SC.out _ K5.out
          clear hK K
          try simp only [Act.put, List.setIfInBounds_toArray, List.set_cons_zero, List.set_cons_succ, List.getElem_toArray, List.getElem_cons_succ, List.getElem_cons_zero]
          refine wpAnyH_ready (rs := [6]) (by kernel_rfl) (by simp) ?_
          refine AllReadyH.cons rfl (fun K hK => ?_) AllReadyH.nil
          go_simp
          refine (KR.out _ _ _ S5s.out).mono ?_
          rintro e z6z ⟨rfl, hy⟩
          have K6 := Lib.hid (bstep K5.out hy (Below.size (K5.out)))
          clear hy
          go_wp2_with fail
          refine hK.out _ _ ?hs6ha (fun hHeld => ?_)
          case hs6ha => (try dsimp only); exact SC.out _ K6.out
          clear hK K
          try simp only [Act.put, List.setIfInBounds_toArray, List.set_cons_zero, List.set_cons_succ, List.getElem_toArray, List.getElem_cons_succ, List.getElem_cons_zero]
          refine wpAnyH_ready (rs := [12]) (by kernel_rfl) (by simp) ?_
          refine AllReadyH.cons rfl (fun K hK => ?_) AllReadyH.nil
          go_simp
          refine (KA.out _ (K6.out)).mono ?_
          rintro e z7z ⟨rfl, hy⟩
          have K7 := Lib.hid (bstep K6.out hy (Below.size (K6.out)))
          clear hy
          go_wp2_with fail
          refine hK.out _ _ ?hs12ha (fun hHeld => ?_)
          case hs12ha => (try dsimp only); exact SC.out _ K7.out
          clear hK K
          try simp only [Act.put, List.setIfInBounds_toArray, List.set_cons_zero, List.set_cons_succ, List.getElem_toArray, List.getElem_cons_succ, List.getElem_cons_zero]
          refine wpAnyH_take (i := 13) (v := ?qv13h) rfl (by kernel_rfl) (by kernel_rfl) (by kernel_rfl) (fun _ _ _ h => h) (Or.inl ⟨by kernel_rfl, ?qy13h⟩) (by assumption) ?_
          case qy13h => (intro w hSw; (try dsimp only at hSw); go_simp) <;> (try with_reducible rfl)
          try simp only [Act.put, List.setIfInBounds_toArray, List.set_cons_zero, List.set_cons_succ, List.getElem_toArray, List.getElem_cons_succ, List.getElem_cons_zero]
          refine wpAnyH_take (i := 14) (v := undef) rfl (by kernel_rfl) (by kernel_rfl) (by kernel_rfl) (fun _ _ _ h => h) (Or.inr ⟨by kernel_rfl, rfl⟩) (by assumption) ?_
          try simp only [Act.put, List.setIfInBounds_toArray, List.set_cons_zero, List.set_cons_succ, List.getElem_toArray, List.getElem_cons_succ, List.getElem_cons_zero]
          refine wpAnyH_take (i := 15) (v := undef) rfl (by kernel_rfl) (by kernel_rfl) (by kernel_rfl) (fun _ _ _ h => h) (Or.inr ⟨by kernel_rfl, rfl⟩) (by assumption) ?_
          try simp only [Act.put, List.setIfInBounds_toArray, List.set_cons_zero, List.set_cons_succ, List.getElem_toArray, List.getElem_cons_succ, List.getElem_cons_zero]
          refine wpAnyH_take (i := 16) (v := undef) rfl (by kernel_rfl) (by kernel_rfl) (by kernel_rfl) (fun _ _ _ h => h) (Or.inr ⟨by kernel_rfl, rfl⟩) (by assumption) ?_
          try simp only [Act.put, List.setIfInBounds_toArray, List.set_cons_zero, List.set_cons_succ, List.getElem_toArray, List.getElem_cons_succ, List.getElem_cons_zero]
          refine wpAnyH_take (i := 17) (v := undef) rfl (by kernel_rfl) (by kernel_rfl) (by kernel_rfl) (fun _ _ _ h => h) (Or.inr ⟨by kernel_rfl, rfl⟩) (by assumption) ?_
          try simp only [Act.put, List.setIfInBounds_toArray, List.set_cons_zero, List.set_cons_succ, List.getElem_toArray, List.getElem_cons_succ, List.getElem_cons_zero]
          refine wpAnyH_take (i := 18) (v := undef) rfl (by kernel_rfl) (by kernel_rfl) (by kernel_rfl) (fun _ _ _ h => h) (Or.inr ⟨by kernel_rfl, rfl⟩) (by assumption) ?_
          try simp only [Act.put, List.setIfInBounds_toArray, List.set_cons_zero, List.set_cons_succ, List.getElem_toArray, List.getElem_cons_succ, List.getElem_cons_zero]
          refine wpAnyH_take (i := 19) (v := undef) rfl (by kernel_rfl) (by kernel_rfl) (by kernel_rfl) (fun _ _ _ h => h) (Or.inr ⟨by kernel_rfl, rfl⟩) (by assumption) ?_
          try simp only [Act.put, List.setIfInBounds_toArray, List.set_cons_zero, List.set_cons_succ, List.getElem_toArray, List.getElem_cons_succ, List.getElem_cons_zero]
          refine wpAnyH_take (i := 20) (v := undef) rfl (by kernel_rfl) (by kernel_rfl) (by kernel_rfl) (fun _ _ _ h => h) (Or.inr ⟨by kernel_rfl, rfl⟩) (by assumption) ?_
          try simp only [Act.put, List.setIfInBounds_toArray, List.set_cons_zero, List.set_cons_succ, List.getElem_toArray, List.getElem_cons_succ, List.getElem_cons_zero]
          refine wpAnyH_take (i := 21) (v := ?qv21h) rfl (by kernel_rfl) (by kernel_rfl) (by kernel_rfl) (fun _ _ _ h => h) (Or.inl ⟨by kernel_rfl, ?qy21h⟩) (by assumption) ?_
          case qy21h => (intro w hSw; (try dsimp only at hSw); go_simp) <;> (try with_reducible rfl)
          try simp only [Act.put, List.setIfInBounds_toArray, List.set_cons_zero, List.set_cons_succ, List.getElem_toArray, List.getElem_cons_succ, List.getElem_cons_zero]
          refine wpAnyH_take (i := 22) (v := ?qv22h) rfl (by kernel_rfl) (by kernel_rfl) (by kernel_rfl) (fun _ _ _ h => h) (Or.inl ⟨by kernel_rfl, ?qy22h⟩) (by assumption) ?_
          case qy22h => (intro w hSw; (try dsimp only at hSw); go_simp) <;> (try with_reducible rfl)
          try simp only [Act.put, List.setIfInBounds_toArray, List.set_cons_zero, List.set_cons_succ, List.getElem_toArray, List.getElem_cons_succ, List.getElem_cons_zero]
          refine wpAnyH_done (by kernel_rfl) ?_ _
          go_wp2
          go_roundw
          case rel => exact ⟨k + 1, by omega, by go_num, K7.out⟩
          case measure => simp [intOf]; omega
      · have e1 : ¬ (k : Int) < (T : Int) := by omega
        have BY := Lib.hid (LB.out _ KB.out)
        have SMB : Hid (∀ W, Below wr.heap.size wr W → Sps W A1 N m) := fun W hW => SM3.out W (bstep BY.out hW BY.out.size)
        have SWB : Hid (∀ W, Below wr.heap.size wr W → Sps W A2 N m) := fun W hW => SW3.out W (bstep BY.out hW BY.out.size)
        have LBW : Hid (∀ W, Below wr.heap.size wr W → Below w.heap.size w W) := fun W hW => bstep B13.out (bstep BY.out hW BY.out.size) B13.out.size
        obtain ⟨y1, hy1⟩ : ∃ y1, wr = y1 := ⟨_, rfl⟩
        rw [hy1] at SMB SWB LBW KB ⊢
        clear hy1 BY
        go_wp2
        go_loopw [12] (fun i wr => ∃ k : Nat, k ≤ N ∧ i = .int .i64 (k : Int) ∧ Below y1.heap.size y1 wr) (fun i _ => N - (intOf i).toNat)
        case atStart => exact ⟨0, Nat.zero_le _, rfl, Below.refl _ _⟩
        case round =>
          obtain ⟨k, hk, rfl, hb⟩ := hrel
          have KB := Lib.hid hb
          clear hb
          by_cases hlt : k < N
          · have e1 : (k : Int) < (N : Int) := by omega
            have e0 : (0 : Int) ≤ (k : Int) := by omega
            obtain ⟨b1, o1, x, y, rfl, hx, hc⟩ := sps_all SMB.out KB.out hlt
            obtain ⟨b2, o2, x2, y2, rfl, hx2, hd⟩ := sps_all SWB.out KB.out hlt
            rw [hx] at hx2
            cases hx2
            have SC : Hid (∀ W, Below y1.heap.size y1 W → (W.cell? ⟨b1, o1 + k * 2, none⟩ = some (.int .i64 x) ∧ W.cell? ⟨b1, o1 + k * 2 + 1, none⟩ = some (.int .i64 y)) ∧ (W.cell? ⟨b2, o2 + k * 2, none⟩ = some (.int .i64 x) ∧ W.cell? ⟨b2, o2 + k * 2 + 1, none⟩ = some (.int .i64 y))) := fun W hW => ⟨hc W hW, hd W hW⟩
            clear hc hd hx
            have hq := HNR.out x y
            go_upto_region 15 with (fail)
            refine wp_region_held_drew (S := fun W => (W.cell? ⟨b1, o1 + k * 2, none⟩ = some (.int .i64 x) ∧ W.cell? ⟨b1, o1 + k * 2 + 1, none⟩ = some (.int .i64 y)) ∧ (W.cell? ⟨b2, o2 + k * 2, none⟩ = some (.int .i64 x) ∧ W.cell? ⟨b2, o2 + k * 2 + 1, none⟩ = some (.int .i64 y))) (by kernel_rfl) ?hb0 (fun hHeld => ?_)
            case hb0 => (try dsimp only); exact SC.out _ (Below.drew KB.out)
            refine wpAnyH_take (i := 0) (v := ?qv0l) rfl (by kernel_rfl) (by kernel_rfl) (by kernel_rfl) (fun _ _ _ h => h) (Or.inl ⟨by kernel_rfl, ?qy0l⟩) (by assumption) ?_
            case qy0l => (intro w hSw; (try dsimp only at hSw); go_simp) <;> (try with_reducible rfl)
            try simp only [Act.put, List.setIfInBounds_toArray, List.set_cons_zero, List.set_cons_succ, List.getElem_toArray, List.getElem_cons_succ, List.getElem_cons_zero]
            refine wpAnyH_take (i := 1) (v := ?qv1l) rfl (by kernel_rfl) (by kernel_rfl) (by kernel_rfl) (fun _ _ _ h => h) (Or.inl ⟨by kernel_rfl, ?qy1l⟩) (by assumption) ?_
            case qy1l => (intro w hSw; (try dsimp only at hSw); go_simp) <;> (try with_reducible rfl)
            try simp only [Act.put, List.setIfInBounds_toArray, List.set_cons_zero, List.set_cons_succ, List.getElem_toArray, List.getElem_cons_succ, List.getElem_cons_zero]
            refine wpAnyH_take (i := 2) (v := ?qv2l) rfl (by kernel_rfl) (by kernel_rfl) (by kernel_rfl) (fun _ _ _ h => h) (Or.inl ⟨by kernel_rfl, ?qy2l⟩) (by assumption) ?_
            case qy2l => (intro w hSw; (try dsimp only at hSw); go_simp) <;> (try with_reducible rfl)
            try simp only [Act.put, List.setIfInBounds_toArray, List.set_cons_zero, List.set_cons_succ, List.getElem_toArray, List.getElem_cons_succ, List.getElem_cons_zero]
            refine wpAnyH_take (i := 3) (v := ?qv3l) rfl (by kernel_rfl) (by kernel_rfl) (by kernel_rfl) (fun _ _ _ h => h) (Or.inl ⟨by kernel_rfl, ?qy3l⟩) (by assumption) ?_
            case qy3l => (intro w hSw; (try dsimp only at hSw); go_simp) <;> (try with_reducible rfl)
            try simp only [Act.put, List.setIfInBounds_toArray, List.set_cons_zero, List.set_cons_succ, List.getElem_toArray, List.getElem_cons_succ, List.getElem_cons_zero]
            refine wpAnyH_take (i := 5) (v := ?qv5l) rfl (by kernel_rfl) (by kernel_rfl) (by kernel_rfl) (fun _ _ _ h => h) (Or.inl ⟨by kernel_rfl, ?qy5l⟩) (by assumption) ?_
            case qy5l => (intro w hSw; (try dsimp only at hSw); go_simp) <;> (try with_reducible rfl)
            try simp only [Act.put, List.setIfInBounds_toArray, List.set_cons_zero, List.set_cons_succ, List.getElem_toArray, List.getElem_cons_succ, List.getElem_cons_zero]
            refine wpAnyH_take (i := 6) (v := ?qv6l) rfl (by kernel_rfl) (by kernel_rfl) (by kernel_rfl) (fun _ _ _ h => h) (Or.inl ⟨by kernel_rfl, ?qy6l⟩) (by assumption) ?_
            case qy6l => (intro w hSw; (try dsimp only at hSw); go_simp) <;> (try with_reducible rfl)
            try simp only [Act.put, List.setIfInBounds_toArray, List.set_cons_zero, List.set_cons_succ, List.getElem_toArray, List.getElem_cons_succ, List.getElem_cons_zero]
            refine wpAnyH_take (i := 7) (v := ?qv7l) rfl (by kernel_rfl) (by kernel_rfl) (by kernel_rfl) (fun _ _ _ h => h) (Or.inl ⟨by kernel_rfl, ?qy7l⟩) (by assumption) ?_
            case qy7l => (intro w hSw; (try dsimp only at hSw); go_simp) <;> (try with_reducible rfl)
            try simp only [Act.put, List.setIfInBounds_toArray, List.set_cons_zero, List.set_cons_succ, List.getElem_toArray, List.getElem_cons_succ, List.getElem_cons_zero]
            refine wpAnyH_take (i := 8) (v := ?qv8l) rfl (by kernel_rfl) (by kernel_rfl) (by kernel_rfl) (fun _ _ _ h => h) (Or.inl ⟨by kernel_rfl, ?qy8l⟩) (by assumption) ?_
            case qy8l => (intro w hSw; (try dsimp only at hSw); go_simp) <;> (try with_reducible rfl)
            try simp only [Act.put, List.setIfInBounds_toArray, List.set_cons_zero, List.set_cons_succ, List.getElem_toArray, List.getElem_cons_succ, List.getElem_cons_zero]
            refine wpAnyH_ready (rs := [4]) (by kernel_rfl) (by simp) ?_
            refine AllReadyH.cons rfl (fun K hK => ?_) AllReadyH.nil
            go_simp
            refine (KO.out _ _ _).mono ?_
            rintro e z1 ⟨rfl, hy⟩
            have K1 := Lib.hid (bstep (Below.drew KB.out) hy ((Below.drew KB.out)).size)
            clear hy
            go_wp2_with fail
            refine hK.out _ _ ?hs4la (fun hHeld => ?_)
            case hs4la => (try dsimp only); exact SC.out _ K1.out
            clear hK K
            try simp only [Act.put, List.setIfInBounds_toArray, List.set_cons_zero, List.set_cons_succ, List.getElem_toArray, List.getElem_cons_succ, List.getElem_cons_zero]
            refine wpAnyH_take (i := 9) (v := ?qv9l) rfl (by kernel_rfl) (by kernel_rfl) (by kernel_rfl) (fun _ _ _ h => h) (Or.inl ⟨by kernel_rfl, ?qy9l⟩) (by assumption) ?_
            case qy9l => (intro w hSw; (try dsimp only at hSw); go_simp) <;> (try with_reducible rfl)
            try simp only [Act.put, List.setIfInBounds_toArray, List.set_cons_zero, List.set_cons_succ, List.getElem_toArray, List.getElem_cons_succ, List.getElem_cons_zero]
            refine wpAnyH_done (by kernel_rfl) ?_ _
            go_wp2
            go_roundw
            case rel => exact ⟨k + 1, by omega, by go_num, K1.out⟩
            case measure => simp [intOf]; omega
          · have e1 : ¬ (k : Int) < (N : Int) := by omega
            go_wp2
            go_ret
            exact ⟨rfl, LBW.out _ KB.out⟩
end Go.Proofs.Ytlmmoinmlcpmnaa
