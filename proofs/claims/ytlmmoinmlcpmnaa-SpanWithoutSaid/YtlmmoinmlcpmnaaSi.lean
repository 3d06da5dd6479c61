/-
  The project's span: Norm, Holds.
-/
import Derived.Test.YtlmmoinmlcpmnaaSh
namespace Go.Proofs.Ytlmmoinmlcpmnaa
open Go.RowKit
set_option linter.unusedVariables false
set_option linter.unusedSimpArgs false
set_option maxRecDepth 4000

theorem enters54 : ∀ args w, (callFunc 54 args).run Try.prog w = .ok (.enter 54 args) w := enters_of Try.func54 (by kernel_rfl) rfl
theorem sps_new2 (w : World) (a b c d : Int) : Sps (w.alloc (.cells #[.int .i64 a, .int .i64 b, .int .i64 c, .int .i64 d] 31)) (some ⟨w.heap.size, 0, none⟩) 2 [(a, b), (c, d)] :=
  blk_sps (l := [(a, b), (c, d)]) (Blk.new w (spCs [(a, b), (c, d)]) _)

set_option maxHeartbeats 3200000 in
theorem spNormC (v : Value) (out : List Sp) (x y : Int) (w0 w : World) (hx : I64 x) (hout : ∀ q ∈ out, I64s q) (h : Ow w w0.heap.size v out) (hb0 : Below w0.heap.size w0 w) (hn : out.length ≤ 1099511627776) :
    Calls Try.prog 54 #[v, .agg #[.int .i64 x, .int .i64 y]] w fun e w' => ∃ v', e = .returned v' ∧ Ow w' w0.heap.size v' (nStep out (x, y)) ∧ Below w0.heap.size w0 w' := by
  have KB := Lib.hid (Late.fst w (.int .i64 x) (.int .i64 y) 31)
  have OA := Lib.hid (h.alloc (.cells #[.int .i64 x, .int .i64 y] 31))
  have BA := Lib.hid (hb0.alloc hb0.size (.cells #[.int .i64 x, .int .i64 y] 31))
  have HF := Lib.hid h.form
  obtain ⟨i1, hi1, hz0, hz1, hz2⟩ := info_parts sp_info
  have APP : Hid (∀ (W : World), Below (w.alloc (.cells #[.int .i64 x, .int .i64 y] 31)).heap.size (w.alloc (.cells #[.int .i64 x, .int .i64 y] 31)) W → Ow W w0.heap.size v out ∧ Below w0.heap.size w0 W ∧ Blk W w.heap.size 31 [.int .i64 x, .int .i64 y]) :=
    fun W hW => ⟨OA.out.below hW, bstep BA.out hW BA.out.size, KB.out.blk.below hW⟩
  obtain ⟨A, c, rfl, hle, _⟩ := h.sps
  clear h hb0
  rcases List.eq_nil_or_concat out with rfl | ⟨pre, q, rfl⟩
  · have ST : Hid (∀ W, Below (w.alloc (.cells #[.int .i64 x, .int .i64 y] 31)).heap.size (w.alloc (.cells #[.int .i64 x, .int .i64 y] 31)) W → W.cell? ⟨w.heap.size, 0, none⟩ = some (.int .i64 x)) := fun W hW => (KB.out.blk.below hW).two.1.1
    have hF : Hid (nStep [] (x, y) = [] ++ [(x, y)]) := rfl
    clear HF hout
    rw [hF.out]
    go_enter Try.func54, Try.ntmps54
    go_upto_region 2 with (fail)
    obtain ⟨W1, hW1⟩ : ∃ W1, w.alloc (.cells #[.int .i64 x, .int .i64 y] 31) = W1 := ⟨_, rfl⟩
    rw [hW1] at APP ST KB BA OA ⊢
    clear hW1
    refine wp_region_held_drew (S := fun W => W.cell? ⟨w.heap.size, 0, none⟩ = some (.int .i64 x)) (by kernel_rfl) ?_ (fun hHeld => ?_)
    · (try dsimp only); exact ST.out _ (Below.drew (Below.refl _ _))
    refine wpAnyH_take (i := 0) (v := ?_) rfl (by kernel_rfl) (by kernel_rfl) (by kernel_rfl) (fun _ _ _ h => h) (Or.inl ⟨by kernel_rfl, ?_⟩) (by assumption) ?_
    rotate_left 1
    · (intro w hSw; (try dsimp only at hSw); go_simp) <;> (try with_reducible rfl)
    try simp only [Act.put, List.setIfInBounds_toArray, List.set_cons_zero, List.set_cons_succ, List.getElem_toArray, List.getElem_cons_succ, List.getElem_cons_zero]
    refine wpAnyH_take (i := 1) (v := ?_) rfl (by kernel_rfl) (by kernel_rfl) (by kernel_rfl) (fun _ _ _ h => h) (Or.inl ⟨by kernel_rfl, ?_⟩) (by assumption) ?_
    rotate_left 1
    · (intro w hSw; (try dsimp only at hSw); go_simp) <;> (try with_reducible rfl)
    try simp only [Act.put, List.setIfInBounds_toArray, List.set_cons_zero, List.set_cons_succ, List.getElem_toArray, List.getElem_cons_succ, List.getElem_cons_zero]
    refine wpAnyH_take (i := 2) (v := ?_) rfl (by kernel_rfl) (by kernel_rfl) (by kernel_rfl) (fun _ _ _ h => h) (Or.inl ⟨by kernel_rfl, ?_⟩) (by assumption) ?_
    rotate_left 1
    · (intro w hSw; (try dsimp only at hSw); go_simp) <;> (try with_reducible rfl)
    try simp only [Act.put, List.setIfInBounds_toArray, List.set_cons_zero, List.set_cons_succ, List.getElem_toArray, List.getElem_cons_succ, List.getElem_cons_zero]
    refine wpAnyH_take (i := 3) (v := undef) rfl (by kernel_rfl) (by kernel_rfl) (by kernel_rfl) (fun _ _ _ h => h) (Or.inr ⟨by kernel_rfl, rfl⟩) (by assumption) ?_
    try simp only [Act.put, List.setIfInBounds_toArray, List.set_cons_zero, List.set_cons_succ, List.getElem_toArray, List.getElem_cons_succ, List.getElem_cons_zero]
    refine wpAnyH_take (i := 4) (v := undef) rfl (by kernel_rfl) (by kernel_rfl) (by kernel_rfl) (fun _ _ _ h => h) (Or.inr ⟨by kernel_rfl, rfl⟩) (by assumption) ?_
    try simp only [Act.put, List.setIfInBounds_toArray, List.set_cons_zero, List.set_cons_succ, List.getElem_toArray, List.getElem_cons_succ, List.getElem_cons_zero]
    refine wpAnyH_take (i := 5) (v := undef) rfl (by kernel_rfl) (by kernel_rfl) (by kernel_rfl) (fun _ _ _ h => h) (Or.inr ⟨by kernel_rfl, rfl⟩) (by assumption) ?_
    try simp only [Act.put, List.setIfInBounds_toArray, List.set_cons_zero, List.set_cons_succ, List.getElem_toArray, List.getElem_cons_succ, List.getElem_cons_zero]
    refine wpAnyH_take (i := 6) (v := undef) rfl (by kernel_rfl) (by kernel_rfl) (by kernel_rfl) (fun _ _ _ h => h) (Or.inr ⟨by kernel_rfl, rfl⟩) (by assumption) ?_
    try simp only [Act.put, List.setIfInBounds_toArray, List.set_cons_zero, List.set_cons_succ, List.getElem_toArray, List.getElem_cons_succ, List.getElem_cons_zero]
    refine wpAnyH_take (i := 7) (v := undef) rfl (by kernel_rfl) (by kernel_rfl) (by kernel_rfl) (fun _ _ _ h => h) (Or.inr ⟨by kernel_rfl, rfl⟩) (by assumption) ?_
    try simp only [Act.put, List.setIfInBounds_toArray, List.set_cons_zero, List.set_cons_succ, List.getElem_toArray, List.getElem_cons_succ, List.getElem_cons_zero]
    refine wpAnyH_take (i := 8) (v := undef) rfl (by kernel_rfl) (by kernel_rfl) (by kernel_rfl) (fun _ _ _ h => h) (Or.inr ⟨by kernel_rfl, rfl⟩) (by assumption) ?_
    try simp only [Act.put, List.setIfInBounds_toArray, List.set_cons_zero, List.set_cons_succ, List.getElem_toArray, List.getElem_cons_succ, List.getElem_cons_zero]
    refine wpAnyH_take (i := 9) (v := undef) rfl (by kernel_rfl) (by kernel_rfl) (by kernel_rfl) (fun _ _ _ h => h) (Or.inr ⟨by kernel_rfl, rfl⟩) (by assumption) ?_
    try simp only [Act.put, List.setIfInBounds_toArray, List.set_cons_zero, List.set_cons_succ, List.getElem_toArray, List.getElem_cons_succ, List.getElem_cons_zero]
    refine wpAnyH_take (i := 10) (v := undef) rfl (by kernel_rfl) (by kernel_rfl) (by kernel_rfl) (fun _ _ _ h => h) (Or.inr ⟨by kernel_rfl, rfl⟩) (by assumption) ?_
    try simp only [Act.put, List.setIfInBounds_toArray, List.set_cons_zero, List.set_cons_succ, List.getElem_toArray, List.getElem_cons_succ, List.getElem_cons_zero]
    refine wpAnyH_take (i := 11) (v := undef) rfl (by kernel_rfl) (by kernel_rfl) (by kernel_rfl) (fun _ _ _ h => h) (Or.inr ⟨by kernel_rfl, rfl⟩) (by assumption) ?_
    try simp only [Act.put, List.setIfInBounds_toArray, List.set_cons_zero, List.set_cons_succ, List.getElem_toArray, List.getElem_cons_succ, List.getElem_cons_zero]
    refine wpAnyH_take (i := 12) (v := undef) rfl (by kernel_rfl) (by kernel_rfl) (by kernel_rfl) (fun _ _ _ h => h) (Or.inr ⟨by kernel_rfl, rfl⟩) (by assumption) ?_
    try simp only [Act.put, List.setIfInBounds_toArray, List.set_cons_zero, List.set_cons_succ, List.getElem_toArray, List.getElem_cons_succ, List.getElem_cons_zero]
    refine wpAnyH_take (i := 13) (v := ?_) rfl (by kernel_rfl) (by kernel_rfl) (by kernel_rfl) (fun _ _ _ h => h) (Or.inl ⟨by kernel_rfl, ?_⟩) (by assumption) ?_
    rotate_left 1
    · (intro w hSw; (try dsimp only at hSw); go_simp) <;> (try with_reducible rfl)
    try simp only [Act.put, List.setIfInBounds_toArray, List.set_cons_zero, List.set_cons_succ, List.getElem_toArray, List.getElem_cons_succ, List.getElem_cons_zero]
    refine wpAnyH_done (by kernel_rfl) ?_ _
    obtain ⟨o1, b1, k1⟩ := APP.out _ (Below.drew (Below.refl W1.heap.size W1))
    generalize W1.drew = W2 at o1 b1 k1 hHeld ⊢
    have O1 := Lib.hid (o1.alloc (.cells #[.int .i64 x, .int .i64 y] 31))
    have B1 := Lib.hid (b1.alloc b1.size (.cells #[.int .i64 x, .int .i64 y] 31))
    have HNW : Hid (∀ j u, (spCs [(x, y)])[j]? = some u → (W2.alloc (.cells #[.int .i64 x, .int .i64 y] 31)).cell? ((⟨W2.heap.size, 0, none⟩ : Addr).add j) = some u) := by
      intro j u hu
      rw [Addr.add_none, Nat.zero_add, (Blk.new W2 [.int .i64 x, .int .i64 y] 31).cell]
      exact hu
    obtain ⟨⟨p0, p1⟩, _, _⟩ := k1.two
    clear hHeld o1 b1 k1
    go_wp2_with (at_builtin; refine wpList_appendF rfl _ _ 45 rfl w0.heap.size 31 i1 (.agg #[.int .i64 0, .int .i64 0]) 2 16 Try.underlying45 hi1 hz0 hz1 hz2 rfl (by omega) _ _ _ rfl O1.out ⟨W2.heap.size, 0, none⟩ 1 1 (spCs [(x, y)]) rfl rfl HNW.out (spC_one _) ?ab1 ?ab2 ?ab3 ?_)
    case ab1 => unfold maxLen; omega
    case ab2 => omega
    case ab3 => exact B1.out.size
    intro v' w3 hrow hgrow hvv
    have B3 := Lib.hid (B1.out.grown hgrow B1.out.size (fun k hk => (World.ownsRow.lt O1.out k hk).1))
    have O3 : Hid (Ow w3 w0.heap.size v' ([] ++ [(x, y)])) := by
      unfold Hid Ow
      rw [spCs_append, List.length_append]
      exact hrow
    clear hrow hgrow hvv
    go_wp2
    go_ret
    exact ⟨_, rfl, O3.out, B3.out⟩
  · rw [List.concat_eq_append] at *
    obtain ⟨p, r⟩ := q
    have hlen : (pre ++ [(p, r)]).length = pre.length + 1 := by simp
    obtain ⟨g, c', hv, _⟩ : ∃ g c', Value.slice A (pre ++ [(p, r)]).length c = .slice (some ⟨g, 0, none⟩) (pre ++ [(p, r)]).length c' ∧ True := by
      rcases HF.out with ⟨_, e⟩ | ⟨g, c', e, _⟩
      · simp at e
      · exact ⟨g, c', e, trivial⟩
    cases hv
    have hr64 : I64 r := (hout (p, r) (by simp)).2
    have hF : Hid (nStep (pre ++ [(p, r)]) (x, y) = if pls r 1 < x then pre ++ [(p, r)] ++ [(x, y)] else pre ++ [covL [(p, r), (x, y)]]) := by
      unfold Hid nStep
      rw [List.getLast?_concat]
      dsimp only
      rw [List.dropLast_concat]
    have hlast : (pre ++ [(p, r)])[pre.length]? = some (p, r) := by simp
    have KA := Lib.hid (fun R W => spAdd1 r 1 R W hr64 (i64_lit rfl))
    have KC := Lib.hid (fun A c W h => spCover A 2 c [(p, r), (x, y)] W h (by omega))
    have CEL : Hid (∀ W, Ow W w0.heap.size (.slice (some ⟨g, 0, none⟩) (pre ++ [(p, r)]).length c) (pre ++ [(p, r)]) → (W.cell? ⟨g, pre.length * 2, none⟩ = some (.int .i64 p) ∧ W.cell? ⟨g, pre.length * 2 + 1, none⟩ = some (.int .i64 r)) ∧ W.frozen? ⟨g, pre.length * 2, none⟩ = false ∧ W.frozen? ⟨g, pre.length * 2 + 1, none⟩ = false) :=
      fun W h => h.cells _ _ _ hlast
    have SET : Hid ((pre ++ [(p, r)]).set pre.length (covL [(p, r), (x, y)]) = pre ++ [covL [(p, r), (x, y)]]) := by
      unfold Hid
      rw [List.set_append_right _ _ (Nat.le_refl _)]
      simp
    have ST : Hid (∀ W, Below (w.alloc (.cells #[.int .i64 x, .int .i64 y] 31)).heap.size (w.alloc (.cells #[.int .i64 x, .int .i64 y] 31)) W → W.cell? ⟨w.heap.size, 0, none⟩ = some (.int .i64 x) ∧ W.cell? ⟨g, pre.length * 2 + 1, none⟩ = some (.int .i64 r)) :=
      fun W hW => ⟨(KB.out.blk.below hW).two.1.1, (CEL.out W (APP.out W hW).1).1.2⟩
    have HGN : Hid (g ≠ w.heap.size ∧ w0.heap.size ≤ g ∧ g < (w.alloc (.cells #[.int .i64 x, .int .i64 y] 31)).heap.size) := by
      rcases HF.out with ⟨_, e⟩ | ⟨g', c', e, _, e2, e3⟩
      · simp at e
      · cases e
        exact ⟨by omega, e2, by simp; omega⟩
    clear HF hout hlast hr64
    have hL : ((pre ++ [(p, r)]).length : Nat) = pre.length + 1 := hlen
    generalize hO : pre ++ [(p, r)] = OUT at *
    have HO := Lib.hid hO
    clear hO hlen
    obtain ⟨m, hm⟩ : ∃ m, pre.length = m := ⟨_, rfl⟩
    have HM := Lib.hid hm
    rw [hm] at hL CEL ST SET
    have HL := Lib.hid hL
    rw [hL] at APP CEL OA hn hle ⊢
    clear hm hL
    have hmb : m < 1099511627776 := by omega
    have hm1 : (m : Int) < (m : Int) + 1 := by omega
    have hm0 : (0 : Int) ≤ (m : Int) := by omega
    generalize pls r 1 = z at *
    generalize covL [(p, r), (x, y)] = cv at *
    go_enter Try.func54, Try.ntmps54
    go_upto_region 2 with (fail)
    obtain ⟨W1, hW1⟩ : ∃ W1, w.alloc (.cells #[.int .i64 x, .int .i64 y] 31) = W1 := ⟨_, rfl⟩
    rw [hW1] at APP ST KB BA OA HGN ⊢
    clear hW1
    refine wp_region_held_drew (S := fun W => W.cell? ⟨w.heap.size, 0, none⟩ = some (.int .i64 x) ∧ W.cell? ⟨g, m * 2 + 1, none⟩ = some (.int .i64 r)) (by kernel_rfl) ?_ (fun hHeld => ?_)
    · (try dsimp only); exact ST.out _ (Below.drew (Below.refl _ _))
    refine wpAnyH_take (i := 0) (v := ?_) rfl (by kernel_rfl) (by kernel_rfl) (by kernel_rfl) (fun _ _ _ h => h) (Or.inl ⟨by kernel_rfl, ?_⟩) (by assumption) ?_
    rotate_left 1
    · (intro w hSw; (try dsimp only at hSw); go_simp) <;> (try with_reducible rfl)
    try simp only [Act.put, List.setIfInBounds_toArray, List.set_cons_zero, List.set_cons_succ, List.getElem_toArray, List.getElem_cons_succ, List.getElem_cons_zero]
    refine wpAnyH_take (i := 1) (v := ?_) rfl (by kernel_rfl) (by kernel_rfl) (by kernel_rfl) (fun _ _ _ h => h) (Or.inl ⟨by kernel_rfl, ?_⟩) (by assumption) ?_
    rotate_left 1
    · (intro w hSw; (try dsimp only at hSw); go_simp) <;> (try with_reducible rfl)
    try simp only [Act.put, List.setIfInBounds_toArray, List.set_cons_zero, List.set_cons_succ, List.getElem_toArray, List.getElem_cons_succ, List.getElem_cons_zero]
    refine wpAnyH_take (i := 2) (v := ?_) rfl (by kernel_rfl) (by kernel_rfl) (by kernel_rfl) (fun _ _ _ h => h) (Or.inl ⟨by kernel_rfl, ?_⟩) (by assumption) ?_
    rotate_left 1
    · (intro w hSw; (try dsimp only at hSw); go_simp) <;> (try with_reducible rfl)
    try simp only [Act.put, List.setIfInBounds_toArray, List.set_cons_zero, List.set_cons_succ, List.getElem_toArray, List.getElem_cons_succ, List.getElem_cons_zero]
    refine wpAnyH_take (i := 3) (v := ?_) rfl (by kernel_rfl) (by kernel_rfl) (by kernel_rfl) (fun _ _ _ h => h) (Or.inl ⟨by kernel_rfl, ?_⟩) (by assumption) ?_
    rotate_left 1
    · (intro w hSw; (try dsimp only at hSw); go_simp) <;> (try with_reducible rfl)
    try simp only [Act.put, List.setIfInBounds_toArray, List.set_cons_zero, List.set_cons_succ, List.getElem_toArray, List.getElem_cons_succ, List.getElem_cons_zero]
    refine wpAnyH_take (i := 4) (v := ?_) rfl (by kernel_rfl) (by kernel_rfl) (by kernel_rfl) (fun _ _ _ h => h) (Or.inl ⟨by kernel_rfl, ?_⟩) (by assumption) ?_
    rotate_left 1
    · (intro w hSw; (try dsimp only at hSw); go_simp) <;> (try with_reducible rfl)
    try simp only [Act.put, List.setIfInBounds_toArray, List.set_cons_zero, List.set_cons_succ, List.getElem_toArray, List.getElem_cons_succ, List.getElem_cons_zero]
    refine wpAnyH_take (i := 5) (v := ?_) rfl (by kernel_rfl) (by kernel_rfl) (by kernel_rfl) (fun _ _ _ h => h) (Or.inl ⟨by kernel_rfl, ?_⟩) (by assumption) ?_
    rotate_left 1
    · (intro w hSw; (try dsimp only at hSw); go_simp) <;> (try with_reducible rfl)
    try simp only [Act.put, List.setIfInBounds_toArray, List.set_cons_zero, List.set_cons_succ, List.getElem_toArray, List.getElem_cons_succ, List.getElem_cons_zero]
    refine wpAnyH_take (i := 6) (v := ?_) rfl (by kernel_rfl) (by kernel_rfl) (by kernel_rfl) (fun _ _ _ h => h) (Or.inl ⟨by kernel_rfl, ?_⟩) (by assumption) ?_
    rotate_left 1
    · (intro w hSw; (try dsimp only at hSw); go_simp) <;> (try with_reducible rfl)
    try simp only [Act.put, List.setIfInBounds_toArray, List.set_cons_zero, List.set_cons_succ, List.getElem_toArray, List.getElem_cons_succ, List.getElem_cons_zero]
    refine wpAnyH_take (i := 7) (v := ?_) rfl (by kernel_rfl) (by kernel_rfl) (by kernel_rfl) (fun _ _ _ h => h) (Or.inl ⟨by kernel_rfl, ?_⟩) (by assumption) ?_
    rotate_left 1
    · (intro w hSw; (try dsimp only at hSw); go_simp) <;> (try with_reducible rfl)
    try simp only [Act.put, List.setIfInBounds_toArray, List.set_cons_zero, List.set_cons_succ, List.getElem_toArray, List.getElem_cons_succ, List.getElem_cons_zero]
    refine wpAnyH_take (i := 10) (v := ?_) rfl (by kernel_rfl) (by kernel_rfl) (by kernel_rfl) (fun _ _ _ h => h) (Or.inl ⟨by kernel_rfl, ?_⟩) (by assumption) ?_
    rotate_left 1
    · (intro w hSw; (try dsimp only at hSw); go_simp) <;> (try with_reducible rfl)
    try simp only [Act.put, List.setIfInBounds_toArray, List.set_cons_zero, List.set_cons_succ, List.getElem_toArray, List.getElem_cons_succ, List.getElem_cons_zero]
    refine wpAnyH_take (i := 11) (v := ?_) rfl (by kernel_rfl) (by kernel_rfl) (by kernel_rfl) (fun _ _ _ h => h) (Or.inl ⟨by kernel_rfl, ?_⟩) (by assumption) ?_
    rotate_left 1
    · (intro w hSw; (try dsimp only at hSw); go_simp) <;> (try with_reducible rfl)
    try simp only [Act.put, List.setIfInBounds_toArray, List.set_cons_zero, List.set_cons_succ, List.getElem_toArray, List.getElem_cons_succ, List.getElem_cons_zero]
    refine wpAnyH_ready (rs := [8]) (by kernel_rfl) (by simp) ?_
    refine AllReadyH.cons rfl (fun K hK => ?_) AllReadyH.nil
    go_simp
    refine hK.out _ _ ?_ (fun hHeld => ?_)
    · (try dsimp only); exact ST.out _ (Below.drew (below_alloc1 W1 (.cells #[.int .i64 1] 3)))
    clear hK K
    try simp only [Act.put, List.setIfInBounds_toArray, List.set_cons_zero, List.set_cons_succ, List.getElem_toArray, List.getElem_cons_succ, List.getElem_cons_zero]
    refine wpAnyH_ready (rs := [9]) (by kernel_rfl) (by simp) ?_
    refine AllReadyH.cons rfl (fun K hK => ?_) AllReadyH.nil
    go_simp
    refine (KA.out _ _ ((Blk.one W1 (.int .i64 1) 3).drew)).mono ?_
    rintro e w4 ⟨rfl, rfl⟩
    go_wp2_with fail
    refine hK.out _ _ ?_ (fun hHeld => ?_)
    · (try dsimp only); exact ST.out _ (Below.drew (below_alloc1 W1 (.cells #[.int .i64 1] 3)))
    clear hK K
    try simp only [Act.put, List.setIfInBounds_toArray, List.set_cons_zero, List.set_cons_succ, List.getElem_toArray, List.getElem_cons_succ, List.getElem_cons_zero]
    refine wpAnyH_take (i := 12) (v := ?_) rfl (by kernel_rfl) (by kernel_rfl) (by kernel_rfl) (fun _ _ _ h => h) (Or.inl ⟨by kernel_rfl, ?_⟩) (by assumption) ?_
    rotate_left 1
    · (intro w hSw; (try dsimp only at hSw); go_simp) <;> (try with_reducible rfl)
    try simp only [Act.put, List.setIfInBounds_toArray, List.set_cons_zero, List.set_cons_succ, List.getElem_toArray, List.getElem_cons_succ, List.getElem_cons_zero]
    refine wpAnyH_take (i := 13) (v := ?_) rfl (by kernel_rfl) (by kernel_rfl) (by kernel_rfl) (fun _ _ _ h => h) (Or.inl ⟨by kernel_rfl, ?_⟩) (by assumption) ?_
    rotate_left 1
    · (intro w hSw; (try dsimp only at hSw); go_simp) <;> (try with_reducible rfl)
    try simp only [Act.put, List.setIfInBounds_toArray, List.set_cons_zero, List.set_cons_succ, List.getElem_toArray, List.getElem_cons_succ, List.getElem_cons_zero]
    refine wpAnyH_done (by kernel_rfl) ?_ _
    by_cases gz : z < x
    · have gz' : decide (z < x) = true := by simpa using gz
      have GZ := Lib.hid gz
      clear KC SET CEL ST
      replace hF : Hid (nStep OUT (x, y) = OUT ++ [(x, y)]) := hF.out.trans (if_pos gz)
      obtain ⟨o1, b1, k1⟩ := APP.out _ (Below.drew (below_alloc1 W1 (.cells #[.int .i64 1] 3)))
      generalize (W1.alloc (.cells #[.int .i64 1] 3)).drew = W2 at o1 b1 k1 hHeld ⊢
      have O1 := Lib.hid (o1.alloc (.cells #[.int .i64 x, .int .i64 y] 31))
      have B1 := Lib.hid (b1.alloc b1.size (.cells #[.int .i64 x, .int .i64 y] 31))
      have HNW : Hid (∀ j u, (spCs [(x, y)])[j]? = some u → (W2.alloc (.cells #[.int .i64 x, .int .i64 y] 31)).cell? ((⟨W2.heap.size, 0, none⟩ : Addr).add j) = some u) := by
        intro j u hu
        rw [Addr.add_none, Nat.zero_add, (Blk.new W2 [.int .i64 x, .int .i64 y] 31).cell]
        exact hu
      obtain ⟨⟨p0, p1⟩, _, _⟩ := k1.two
      clear hHeld o1 b1 k1
      go_wp2_with (at_builtin; refine wpList_appendF rfl _ _ 45 rfl w0.heap.size 31 i1 (.agg #[.int .i64 0, .int .i64 0]) 2 16 Try.underlying45 hi1 hz0 hz1 hz2 rfl (by omega) _ _ _ rfl O1.out ⟨W2.heap.size, 0, none⟩ 1 1 (spCs [(x, y)]) rfl rfl HNW.out (spC_one _) ?ab1 ?ab2 ?ab3 ?_)
      case ab1 => unfold maxLen; have := HL.out; omega
      case ab2 => have := HL.out; omega
      case ab3 => exact B1.out.size
      intro v' w3 hrow hgrow hvv
      have B3 := Lib.hid (B1.out.grown hgrow B1.out.size (fun k hk => (World.ownsRow.lt O1.out k hk).1))
      have O3 : Hid (Ow w3 w0.heap.size v' (OUT ++ [(x, y)])) := by
        unfold Hid Ow
        rw [spCs_append, List.length_append]
        exact hrow
      clear hrow hgrow hvv
      go_wp2
      go_ret
      exact ⟨_, rfl, by rw [hF.out]; exact O3.out, B3.out⟩
    · have gz' : decide (z < x) = false := by simpa using gz
      have GZ := Lib.hid gz
      replace hF : Hid (nStep OUT (x, y) = OUT.set m cv) := (hF.out.trans (if_neg gz)).trans SET.out.symm
      obtain ⟨o1, b1, k1⟩ := APP.out _ (Below.drew (below_alloc1 W1 (.cells #[.int .i64 1] 3)))
      generalize (W1.alloc (.cells #[.int .i64 1] 3)).drew = W2 at o1 b1 k1 hHeld ⊢
      have O1 := Lib.hid o1
      have B1 := Lib.hid b1
      have K1 := Lib.hid k1
      obtain ⟨⟨c0, c1⟩, _, _⟩ := CEL.out _ o1
      have ST4 : Hid (∀ W, Below W2.heap.size W2 W → W.cell? ⟨w.heap.size, 0, none⟩ = some (.int .i64 x) ∧ W.cell? ⟨w.heap.size, 1, none⟩ = some (.int .i64 y)) := fun W hW => (K1.out.below hW).two.1
      have HH : g < W2.heap.size := by
        rcases O1.out.form with ⟨e, _⟩ | ⟨g', c', e, _, _, h⟩
        · cases e
        · simp only [Value.slice.injEq, Option.some.injEq, Addr.mk.injEq] at e
          obtain ⟨⟨rfl, _⟩, _⟩ := e
          exact h
      have HNE : g ≠ w.heap.size := HGN.out.1
      obtain ⟨v1, v2⟩ := cv
      dsimp only at KC
      clear hHeld o1 b1 k1 SET ST APP
      go_upto_region 4 with (fail)
      refine wp_region_held_drew (S := fun W => W.cell? ⟨w.heap.size, 0, none⟩ = some (.int .i64 x) ∧ W.cell? ⟨w.heap.size, 1, none⟩ = some (.int .i64 y)) (by kernel_rfl) ?_ (fun hHeld => ?_)
      · (try dsimp only); exact ST4.out _ (Below.drew (Below.refl _ _))
      refine wpAnyH_take (i := 0) (v := ?_) rfl (by kernel_rfl) (by kernel_rfl) (by kernel_rfl) (fun _ _ _ h => h) (Or.inl ⟨by kernel_rfl, ?_⟩) (by assumption) ?_
      rotate_left 1
      · (intro w hSw; (try dsimp only at hSw); go_simp) <;> (try with_reducible rfl)
      try simp only [Act.put, List.setIfInBounds_toArray, List.set_cons_zero, List.set_cons_succ, List.getElem_toArray, List.getElem_cons_succ, List.getElem_cons_zero]
      refine wpAnyH_take (i := 1) (v := ?_) rfl (by kernel_rfl) (by kernel_rfl) (by kernel_rfl) (fun _ _ _ h => h) (Or.inl ⟨by kernel_rfl, ?_⟩) (by assumption) ?_
      rotate_left 1
      · (intro w hSw; (try dsimp only at hSw); go_simp) <;> (try with_reducible rfl)
      try simp only [Act.put, List.setIfInBounds_toArray, List.set_cons_zero, List.set_cons_succ, List.getElem_toArray, List.getElem_cons_succ, List.getElem_cons_zero]
      refine wpAnyH_take (i := 2) (v := ?_) rfl (by kernel_rfl) (by kernel_rfl) (by kernel_rfl) (fun _ _ _ h => h) (Or.inl ⟨by kernel_rfl, ?_⟩) (by assumption) ?_
      rotate_left 1
      · (intro w hSw; (try dsimp only at hSw); go_simp) <;> (try with_reducible rfl)
      try simp only [Act.put, List.setIfInBounds_toArray, List.set_cons_zero, List.set_cons_succ, List.getElem_toArray, List.getElem_cons_succ, List.getElem_cons_zero]
      refine wpAnyH_take (i := 3) (v := ?_) rfl (by kernel_rfl) (by kernel_rfl) (by kernel_rfl) (fun _ _ _ h => h) (Or.inl ⟨by kernel_rfl, ?_⟩) (by assumption) ?_
      rotate_left 1
      · (intro w hSw; (try dsimp only at hSw); go_simp) <;> (try with_reducible rfl)
      try simp only [Act.put, List.setIfInBounds_toArray, List.set_cons_zero, List.set_cons_succ, List.getElem_toArray, List.getElem_cons_succ, List.getElem_cons_zero]
      refine wpAnyH_take (i := 4) (v := ?_) rfl (by kernel_rfl) (by kernel_rfl) (by kernel_rfl) (fun _ _ _ h => h) (Or.inl ⟨by kernel_rfl, ?_⟩) (by assumption) ?_
      rotate_left 1
      · (intro w hSw; (try dsimp only at hSw); go_simp) <;> (try with_reducible rfl)
      try simp only [Act.put, List.setIfInBounds_toArray, List.set_cons_zero, List.set_cons_succ, List.getElem_toArray, List.getElem_cons_succ, List.getElem_cons_zero]
      refine wpAnyH_take (i := 6) (v := ?_) rfl (by kernel_rfl) (by kernel_rfl) (by kernel_rfl) (fun _ _ _ h => h) (Or.inl ⟨by kernel_rfl, ?_⟩) (by assumption) ?_
      rotate_left 1
      · (intro w hSw; (try dsimp only at hSw); go_simp) <;> (try with_reducible rfl)
      try simp only [Act.put, List.setIfInBounds_toArray, List.set_cons_zero, List.set_cons_succ, List.getElem_toArray, List.getElem_cons_succ, List.getElem_cons_zero]
      refine wpAnyH_ready (rs := [5]) (by kernel_rfl) (by simp) ?_
      refine AllReadyH.cons rfl (fun K hK => ?_) AllReadyH.nil
      go_simp
      refine hK.out _ _ ?_ (fun hHeld => ?_)
      · (try dsimp only); exact ST4.out _ (Below.drew (Below.refl _ _))
      clear hK K
      try simp only [Act.put, List.setIfInBounds_toArray, List.set_cons_zero, List.set_cons_succ, List.getElem_toArray, List.getElem_cons_succ, List.getElem_cons_zero]
      refine wpAnyH_ready (rs := [7]) (by kernel_rfl) (by simp) ?_
      refine AllReadyH.cons rfl (fun K hK => ?_) AllReadyH.nil
      go_simp
      refine hK.out _ _ ?_ (fun hHeld => ?_)
      · (try dsimp only); exact ST4.out _ (Below.drew (below_alloc1 W2 (.cells #[.int .i64 p, .int .i64 r, .int .i64 x, .int .i64 y] 31)))
      clear hK K
      try simp only [Act.put, List.setIfInBounds_toArray, List.set_cons_zero, List.set_cons_succ, List.getElem_toArray, List.getElem_cons_succ, List.getElem_cons_zero]
      refine wpAnyH_ready (rs := [8]) (by kernel_rfl) (by simp) ?_
      refine AllReadyH.cons rfl (fun K hK => ?_) AllReadyH.nil
      go_simp
      refine (KC.out (some ⟨W2.heap.size, 0, none⟩) 2 (World.drew (W2.alloc (.cells #[.int .i64 p, .int .i64 r, .int .i64 x, .int .i64 y] 31))) (sps_new2 W2 p r x y)).mono ?_
      rintro e w5 ⟨rfl, hy⟩
      have Z5 := Lib.hid (bstep (Below.drew (below_alloc1 W2 (.cells #[.int .i64 p, .int .i64 r, .int .i64 x, .int .i64 y] 31))) hy (Below.size (Below.drew (below_alloc1 W2 (.cells #[.int .i64 p, .int .i64 r, .int .i64 x, .int .i64 y] 31)))))
      clear hy
      go_wp2_with fail
      refine hK.out _ _ ?_ (fun hHeld => ?_)
      · (try dsimp only); exact ST4.out _ Z5.out
      clear hK K
      try simp only [Act.put, List.setIfInBounds_toArray, List.set_cons_zero, List.set_cons_succ, List.getElem_toArray, List.getElem_cons_succ, List.getElem_cons_zero]
      refine wpAnyH_take (i := 9) (v := ?_) rfl (by kernel_rfl) (by kernel_rfl) (by kernel_rfl) (fun _ _ _ h => h) (Or.inl ⟨by kernel_rfl, ?_⟩) (by assumption) ?_
      rotate_left 1
      · (intro w hSw; (try dsimp only at hSw); go_simp) <;> (try with_reducible rfl)
      try simp only [Act.put, List.setIfInBounds_toArray, List.set_cons_zero, List.set_cons_succ, List.getElem_toArray, List.getElem_cons_succ, List.getElem_cons_zero]
      have O5 := Lib.hid (O1.out.below Z5.out)
      obtain ⟨⟨d0, d1⟩, d2, d3⟩ := CEL.out _ O5.out
      refine wpAnyH_ready (rs := [10]) (by kernel_rfl) (by simp) ?_
      refine AllReadyH.cons rfl (fun K hK => ?_) AllReadyH.nil
      go_simp
      
      refine hK.out _ _ ?_ (fun hHeld => ?_)
      · (try dsimp only); exact ⟨((K1.out.below Z5.out).setOther (Ne.symm HNE) _ _ |>.setOther (Ne.symm HNE) _ _).two.1.1, ((K1.out.below Z5.out).setOther (Ne.symm HNE) _ _ |>.setOther (Ne.symm HNE) _ _).two.1.2⟩
      clear hK K
      try simp only [Act.put, List.setIfInBounds_toArray, List.set_cons_zero, List.set_cons_succ, List.getElem_toArray, List.getElem_cons_succ, List.getElem_cons_zero]
      refine wpAnyH_done (by kernel_rfl) ?_ _
      obtain ⟨P1, P2⟩ := O5.out.put m v1 v2
      have PP1 := Lib.hid P1
      have PB : Hid (Below w0.heap.size w0 ((w5.setCell ⟨g, m * 2, none⟩ (.int .i64 v1)).setCell ⟨g, m * 2 + 1, none⟩ (.int .i64 v2))) := (bstep B1.out Z5.out B1.out.size).grown P2 (bstep B1.out Z5.out B1.out.size).size (by intro q hq; cases hq; exact HGN.out.2.1)
      clear P1 P2
      go_wp2
      go_ret
      exact ⟨_, rfl, by rw [hF.out]; exact PP1.out, PB.out⟩

theorem nStep_i64 {out : List Sp} {s : Sp} (h : ∀ q ∈ out, I64s q) (hs : I64s s) : ∀ q ∈ nStep out s, I64s q := by
  rcases List.eq_nil_or_concat out with rfl | ⟨pre, q, rfl⟩
  · simp [nStep]; exact hs
  · rw [List.concat_eq_append] at *
    unfold nStep
    rw [List.getLast?_concat]
    dsimp only
    split
    · intro x hx
      rcases List.mem_append.1 hx with k | k
      · exact h x k
      · simp at k; subst k; exact hs
    · rw [List.dropLast_concat]
      intro x hx
      rcases List.mem_append.1 hx with k | k
      · exact h x (by simp [k])
      · simp at k; subst k
        refine covL_i64 ?_
        intro z hz
        simp at hz
        rcases hz with rfl | rfl
        · exact h _ (by simp)
        · exact hs
theorem nFold_i64 : ∀ (l out : List Sp), (∀ q ∈ out, I64s q) → (∀ s ∈ l, I64s s) → ∀ q ∈ l.foldl nStep out, I64s q
  | [], out, h, _ => h
  | s :: l, out, h, hl => nFold_i64 l _ (nStep_i64 h (hl s (by simp))) (fun x hx => hl x (by simp [hx]))

set_option maxHeartbeats 1600000 in
theorem spNorm (A : Option Addr) (n c : Nat) (l : List Sp) (w : World) (h : Sps w A n l) (h64 : ∀ s ∈ l, I64s s) (hn : n ≤ 1099511627776) :
    Calls Try.prog 34 #[.slice A n c] w fun e w' => ∃ v r, e = .returned v ∧ IsNorm l r ∧ Ow w' w.heap.size v r ∧ Below w.heap.size w w' := by
  have HC := Lib.hid (spClone A n c l w h hn)
  have HL := Lib.hid h.len
  have H64 := Lib.hid h64
  clear h h64
  go_enter Try.func34, Try.ntmps34
  go_wp2_with fail
  refine HC.out.mono ?_
  rintro e w1 ⟨v1, rfl, ho, hb⟩
  have KD := Lib.hid (spDelete v1 l w w1 ho hb (by have := HL.out; omega))
  clear ho hb HC
  go_wp2_with fail
  refine KD.out.mono ?_
  rintro e w2 ⟨v2, rfl, ho, hb⟩
  have hln : (nonE l).length ≤ 1099511627776 := Nat.le_trans (List.length_filter_le _ _) (by have := HL.out; omega)
  obtain ⟨A2, c2, hv, hS⟩ := spSort v2 (nonE l) w w2 ho hb hln
  subst hv
  have KS := Lib.hid hS
  have HLN := Lib.hid hln
  clear ho hb KD hS hln
  generalize (nonE l).length = n2 at *
  go_wp2_with fail
  refine KS.out.mono ?_
  rintro e w3 ⟨rfl, ⟨T, hp, hs, hsp⟩, hb⟩
  have HI := Lib.hid (isNorm_of H64.out hp hs)
  have hT64 : ∀ s ∈ T, I64s s := fun s hs => H64.out s ((List.mem_filter.1 (hp.mem_iff.1 hs)).1)
  have hTl := hsp.len
  have KF := Lib.hid (spFoldL 54 #[] enters54 nStep A2 n2 c2 T w3 hsp HLN.out (fun k x W v out hx hout hB hO =>
    spNormC v out x.1 x.2 w3 W (hT64 x (List.mem_of_getElem? hx)).1 (by
      subst hout
      exact nFold_i64 _ _ (by simp) (fun s hs => hT64 s (List.mem_of_mem_take hs))) hO hB (by
      subst hout
      have h1 := nFold_len (T.take k) []
      have h2 : (T.take k).length ≤ T.length := by rw [List.length_take]; omega
      have h3 := HLN.out
      simp only [List.length_nil] at h1
      omega)))
  have HB := Lib.hid hb
  clear hp hs hsp hb hT64 hTl KS
  go_wp2_with fail
  refine KF.out.mono ?_
  rintro e w4 ⟨v4, rfl, ho, hb⟩
  have HO := Lib.hid (Ow.mono ho HB.out.size)
  have HB4 := Lib.hid (bstep HB.out hb HB.out.size)
  clear ho hb
  go_wp2
  go_ret
  exact ⟨_, _, rfl, HI.out, HO.out, HB4.out⟩

/-! ### Holds -/
theorem enters56 : ∀ args w, (callFunc 56 args).run Try.prog w = .ok (.enter 56 args) w := enters_of Try.func56 (by kernel_rfl) rfl
set_option maxHeartbeats 800000 in
theorem spHoldsC (x y t : Int) (R : Nat) (w : World) (h : Blk w R 3 [.int .i64 t]) :
    Calls Try.prog 56 #[.agg #[.int .i64 x, .int .i64 y], .pointer (some ⟨R, 0, none⟩)] w fun e w' => e = .returned (.bool (decide (Inn (x, y) t))) ∧ Below w.heap.size w w' := by
  have HI := Lib.hid (fun W => spIn x y t W)
  have KB := Lib.hid (Late.fst w (.int .i64 x) (.int .i64 y) 31)
  have hR := h.lt
  have hc := (h.alloc (.cells #[.int .i64 x, .int .i64 y] 31)).cell 0
  simp only [List.getElem?_cons_zero] at hc
  clear h
  go_enter Try.func56, Try.ntmps56
  go_wp2_with fail
  refine (HI.out _).mono ?_
  rintro e w1 ⟨rfl, hb⟩
  have K1 := Lib.hid (KB.out.call hb)
  clear hb
  go_wp2
  go_ret
  exact ⟨rfl, K1.out.bel⟩
theorem contains0 (A : Option Addr) (c : Nat) (fv : Value) (w : World) :
    Calls Try.prog 55 #[.slice A 0 c, fv] w fun e w' => e = .returned (.bool false) ∧ w' = w := by
  have HX := Lib.hid (idx0 A c fv w)
  go_enter Try.func55, Try.ntmps55
  go_wp2_with fail
  refine HX.out.mono ?_
  rintro e w1 ⟨rfl, rfl⟩
  go_wp2
  go_ret
  exact ⟨rfl, rfl⟩
set_option maxHeartbeats 800000 in
theorem spHolds (A : Option Addr) (n c : Nat) (l : List Sp) (t : Int) (w : World) (h : Sps w A n l) (hn : n ≤ 1099511627776) :
    Calls Try.prog 37 #[.slice A n c, .int .i64 t] w fun e w' => e = .returned (.bool (decide (Anyp l t))) ∧ Below w.heap.size w w' := by
  have K0 := Lib.hid (Blk.one w (.int .i64 t) 3)
  have B0 := Lib.hid (below_alloc1 w (.cells #[.int .i64 t] 3))
  have HK : Hid (Calls Try.prog 55 #[.slice A n c, .func (.func 56) #[] #[.pointer (some ⟨w.heap.size, 0, none⟩)]] (w.alloc (.cells #[.int .i64 t] 3)) fun e w' => e = .returned (.bool (decide (Anyp l t))) ∧ Below (w.alloc (.cells #[.int .i64 t] 3)).heap.size (w.alloc (.cells #[.int .i64 t] 3)) w') := by
    have h1 := h.below B0.out
    have hl := h.len
    rcases A with _ | a
    · have : l = [] := by
        rcases l with _ | ⟨x, l⟩
        · rfl
        · obtain ⟨_, _, e, _⟩ := h.2 0 x rfl; cases e
      subst this
      have : n = 0 := by simpa using hl.symm
      subst this
      refine (contains0 _ _ _ _).mono ?_
      rintro e w' ⟨rfl, rfl⟩
      exact ⟨by simp [Anyp], Below.refl _ _⟩
    · rcases Nat.eq_zero_or_pos n with h0 | h0
      · subst h0
        have : l = [] := List.eq_nil_of_length_eq_zero hl
        subst this
        refine (contains0 _ _ _ _).mono ?_
        rintro e w' ⟨rfl, rfl⟩
        exact ⟨by simp [Anyp], Below.refl _ _⟩
      · obtain ⟨b, o, x0, y0, e, _, hc0, _⟩ := h1.at_ h0
        cases e
        have hbl := World.block_lt_of_cell? _ _ hc0
        have hK := Try.containsK_all (α := Sp) spC (fun _ => rfl) (fun x : Sp => decide (Inn x t)) 56 #[.pointer (some ⟨w.heap.size, 0, none⟩)] enters56 b o n c l (w.alloc (.cells #[.int .i64 t] 3))
          (fun W x hb => (spHoldsC x.1 x.2 t w.heap.size W (K0.out.below hb)).mono fun e w' ⟨he, hw⟩ => ⟨he, bstep hb hw hb.size⟩)
          (by omega) (by omega) hbl (fun j hj i v hi => by
            obtain ⟨b', o', e, k0, k1⟩ := h1.2 j l[j]! (by rw [getElem!_pos l j hj]; exact List.getElem?_eq_getElem hj)
            cases e
            generalize l[j]! = z at hi k0 k1
            match i, hi with
            | 0, hi => simp [spC] at hi; rw [← hi]; exact k0
            | 1, hi => simp [spC] at hi; rw [← hi]; exact k1
            | i + 2, hi => simp [spC] at hi)
        refine hK.mono ?_
        rintro e w' ⟨rfl, hb⟩
        refine ⟨?_, hb⟩
        congr 2
        rw [← hl, List.take_length]
        by_cases ha : Anyp l t
        · obtain ⟨s, hs, hi⟩ := ha
          rw [List.any_eq_true.2 ⟨s, hs, by simpa using hi⟩]
          exact (decide_eq_true ⟨s, hs, hi⟩).symm
        · have hx : l.any (fun x => decide (Inn x t)) = false := by
            rw [List.any_eq_false]
            intro s hs hi
            exact ha ⟨s, hs, by simpa using hi⟩
          rw [hx]
          exact (decide_eq_false ha).symm
  clear h K0
  go_enter Try.func37, Try.ntmps37
  go_wp2_with fail
  refine HK.out.mono ?_
  rintro e w1 ⟨rfl, hb⟩
  have B1 := Lib.hid (bstep B0.out hb B0.out.size)
  clear hb
  go_wp2
  go_ret
  exact ⟨rfl, B1.out⟩
end Go.Proofs.Ytlmmoinmlcpmnaa
