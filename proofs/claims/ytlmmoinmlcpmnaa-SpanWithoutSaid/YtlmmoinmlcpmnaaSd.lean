/-
  The project's span: Add, Sub, Neg, Length, Move, Grow, Within.
-/
import Derived.Test.YtlmmoinmlcpmnaaSc
import Derived.Deep.RegionHeld3
import Derived.Deep.Cut
namespace Go.Proofs.Ytlmmoinmlcpmnaa
open Go.RowKit
set_option linter.unusedVariables false
set_option linter.unusedSimpArgs false
set_option maxRecDepth 4000

theorem Blk.setOther {w : World} {g r : Nat} {t : TypeId} {cs : List Value} (h : Blk w g t cs) (hne : g ≠ r) (i : Nat) (v : Value) : Blk (w.setCell ⟨r, i, none⟩ v) g t cs := (Below.heap_setCell w _ _ g hne).trans h
theorem Blk.keep2 {w : World} {g r : Nat} {t : TypeId} {a b : Value} (h : Blk w g t [a, b]) (hne : g ≠ r) (x y : Value) : ((w.setCell ⟨r, 0, none⟩ x).setCell ⟨r, 1, none⟩ y).cell? ⟨g, 0, none⟩ = some a ∧ ((w.setCell ⟨r, 0, none⟩ x).setCell ⟨r, 1, none⟩ y).cell? ⟨g, 1, none⟩ = some b :=
  ((h.setOther hne 0 x).setOther hne 1 y).two.1
theorem blk_zs {W : World} {R : Nat} {t : TypeId} {l : List Int} (h : Blk W R t (l.map intV)) : Zs W (some ⟨R, 0, none⟩) l.length l := by
  refine ⟨by simp, fun i x hx => ⟨R, 0, rfl, ?_⟩⟩
  rw [Nat.zero_add, h.cell]; exact hx

set_option maxHeartbeats 800000 in
theorem spAdd (a : Int) (A : Option Addr) (n c : Nat) (l : List Int) (w : World) (ha : I64 a) (h : Zs w A n l) (hl : ∀ z ∈ l, I64 z) (hn : n ≤ 1099511627776) :
    Calls Try.prog 11 #[.int .i64 a, .slice A n c] w fun e w' => e = .returned (.int .i64 (l.foldl pls a)) ∧ w' = w := by
  have HF := Lib.hid (spFoldI a A n c l w ha h hl hn)
  clear h ha hl
  go_enter Try.func11, Try.ntmps11
  go_wp2_with fail
  refine HF.out.mono ?_
  rintro e w' ⟨rfl, rfl⟩
  go_wp2
  go_ret
  exact ⟨rfl, rfl⟩
theorem spAdd1 (a x : Int) (R : Nat) (w : World) (ha : I64 a) (hx : I64 x) (h : Blk w R 3 [.int .i64 x]) :
    Calls Try.prog 11 #[.int .i64 a, .slice (some ⟨R, 0, none⟩) 1 1] w fun e w' => e = .returned (.int .i64 (pls a x)) ∧ w' = w :=
  spAdd a _ 1 1 [x] w ha (blk_zs (l := [x]) h) (by simpa using hx) (by omega)
theorem spAdd2 (a x y : Int) (R : Nat) (w : World) (ha : I64 a) (hx : I64 x) (hy : I64 y) (h : Blk w R 3 [.int .i64 x, .int .i64 y]) :
    Calls Try.prog 11 #[.int .i64 a, .slice (some ⟨R, 0, none⟩) 2 2] w fun e w' => e = .returned (.int .i64 (pls (pls a x) y)) ∧ w' = w :=
  spAdd a _ 2 2 [x, y] w ha (blk_zs (l := [x, y]) h) (by simp; exact ⟨hx, hy⟩) (by omega)
theorem Blk.one (w : World) (x : Value) (t : TypeId) : Blk (w.alloc (.cells #[x] t)) w.heap.size t [x] := Blk.new w [x] t
theorem i64_lit {z : Int} (h : decide (-9223372036854775808 ≤ z ∧ z ≤ 9223372036854775807) = true) : I64 z := by simpa [I64] using h

set_option maxHeartbeats 800000 in
theorem spSub (a b : Int) (w : World) (ha : I64 a) (hb : I64 b) :
    Calls Try.prog 12 #[.int .i64 a, .int .i64 b] w fun e w' => e = .returned (.int .i64 (mns a b)) ∧ Below w.heap.size w w' := by
  have H1 := Lib.hid (fun x W => spAdd1 a x w.heap.size W ha)
  have H2 := Lib.hid (fun W => spAdd2 a 9223372036854775807 1 w.heap.size W ha)
  have fin : Hid (∀ q : Int, q = mns a b → Ending.returned (.int .i64 q) = .returned (.int .i64 (mns a b))) := by rintro q rfl; rfl
  go_enter Try.func12, Try.ntmps12
  by_cases g : b = -9223372036854775808
  · have hF : Hid (pls (pls a 9223372036854775807) 1 = mns a b) := by rw [g]; exact mns_low ha
    have g' : (b == -9223372036854775808) = true := by simpa using g
    clear ha hb g
    go_wp2_with fail
    refine (H2.out _ (i64_lit rfl) (i64_lit rfl) (Blk.fst _ _ _ _)).mono ?_
    rintro e w' ⟨rfl, rfl⟩
    go_wp2
    go_ret
    exact ⟨fin.out _ hF.out, below_alloc1 _ _⟩
  · have hF : Hid (pls a (-b) = mns a b) := mns_neg a b
    have g' : (b == -9223372036854775808) = false := by simpa using g
    obtain ⟨b1, b2⟩ := hb
    have b3 : -9223372036854775807 ≤ b := by omega
    have hN : Hid (I64 (-b)) := ⟨by omega, by omega⟩
    clear ha g b1
    go_wp2_with fail
    refine (H1.out _ _ hN.out (Blk.one _ _ _)).mono ?_
    rintro e w' ⟨rfl, rfl⟩
    go_wp2
    go_ret
    exact ⟨fin.out _ hF.out, below_alloc1 _ _⟩

set_option maxHeartbeats 800000 in
theorem spNeg (a : Int) (w : World) (ha : I64 a) :
    Calls Try.prog 14 #[.int .i64 a] w fun e w' => e = .returned (.int .i64 (mns 0 a)) ∧ Below w.heap.size w w' := by
  have H1 := Lib.hid (spSub 0 a w (i64_lit rfl) ha)
  clear ha
  go_enter Try.func14, Try.ntmps14
  go_wp2_with fail
  refine H1.out.mono ?_
  rintro e w' ⟨rfl, hb⟩
  have HB := Lib.hid hb
  clear hb
  go_wp2
  go_ret
  exact ⟨rfl, HB.out⟩

theorem late1 {w w1 : World} {t : TypeId} {a b : Value} (h : Below (w.alloc (.cells #[a, b] t)).heap.size (w.alloc (.cells #[a, b] t)) w1) : Blk w1 w.heap.size t [a, b] ∧ Below w.heap.size w w1 :=
  ⟨(two_late h).1, (two_late h).2.1⟩
def lenS (x : Sp) : Int := if x.2 < x.1 then 0 else pls (mns x.2 x.1) 1

set_option maxHeartbeats 800000 in
theorem spLength (a b : Int) (w : World) (ha : I64 a) (hb : I64 b) :
    Calls Try.prog 22 #[.agg #[.int .i64 a, .int .i64 b]] w fun e w' => e = .returned (.int .i64 (lenS (a, b))) ∧ Below w.heap.size w w' := by
  have HE := Lib.hid (fun W => spEmpty a b W)
  have HS := Lib.hid (fun W => spSub b a W hb ha)
  have HA := Lib.hid (fun R W => spAdd1 (mns b a) 1 R W (mns_i64 _ _) (i64_lit rfl))
  have fin : Hid (∀ q : Int, q = lenS (a, b) → Ending.returned (.int .i64 q) = .returned (.int .i64 (lenS (a, b)))) := by rintro q rfl; rfl
  clear ha hb
  go_enter Try.func22, Try.ntmps22
  go_wp2_with fail
  refine (HE.out _).mono ?_
  rintro e w1 ⟨rfl, hb⟩
  obtain ⟨h1, h3⟩ := late1 hb
  have H3 := Lib.hid h3
  obtain ⟨⟨p0, p1⟩, _, _⟩ := h1.two
  clear hb h1 h3
  by_cases g : b < a
  · have hF : Hid (0 = lenS (a, b)) := by unfold Hid lenS; rw [if_pos g]
    go_wp2
    go_ret
    exact ⟨fin.out _ hF.out, H3.out⟩
  · have hF : Hid (pls (mns b a) 1 = lenS (a, b)) := by unfold Hid lenS; rw [if_neg g]
    have g' : decide (b < a) = false := by simpa using g
    go_wp2_with fail
    refine (HS.out _).mono ?_
    rintro e w2 ⟨rfl, hb⟩
    have H4 := Lib.hid (bstep H3.out hb H3.out.size)
    clear hb
    go_wp2_with fail
    refine (HA.out _ _ (Blk.one _ _ _)).mono ?_
    rintro e w3 ⟨rfl, rfl⟩
    go_wp2
    go_ret
    exact ⟨fin.out _ hF.out, H4.out.alloc H4.out.size _⟩

def moveS (x : Sp) (by_ : Int) : Sp := if x.2 < x.1 then (1, 0) else (pls x.1 by_, pls x.2 by_)
def growS (x : Sp) (n m : Int) : Sp := if x.2 < x.1 then (1, 0) else canon (mns x.1 n, pls x.2 m)

set_option maxHeartbeats 1600000 in
theorem spMove (a b n : Int) (w : World) (ha : I64 a) (hb : I64 b) (hn : I64 n) :
    Calls Try.prog 24 #[.agg #[.int .i64 a, .int .i64 b], .int .i64 n] w fun e w' => e = .returned (.agg #[.int .i64 (moveS (a, b) n).1, .int .i64 (moveS (a, b) n).2]) ∧ Below w.heap.size w w' := by
  have HE := Lib.hid (fun W => spEmpty a b W)
  have HN := Lib.hid (fun W => spNone W)
  have fin : Hid (∀ x y : Int, moveS (a, b) n = (x, y) → Ending.returned (.agg #[.int .i64 x, .int .i64 y]) = .returned (.agg #[.int .i64 (moveS (a, b) n).1, .int .i64 (moveS (a, b) n).2])) := by
    rintro x y h; rw [h]
  have KA := Lib.hid (fun R W => spAdd1 a n R W ha hn)
  have KB := Lib.hid (fun R W => spAdd1 b n R W hb hn)
  clear ha hb hn
  go_enter Try.func24, Try.ntmps24
  go_wp2_with fail
  refine (HE.out _).mono ?_
  rintro e w1 ⟨rfl, hb⟩
  obtain ⟨h1, h2, h3, h4⟩ := late2 hb
  have H1 := Lib.hid h1
  have H2 := Lib.hid h2
  have H3 := Lib.hid h3
  have H4 := Lib.hid h4
  clear hb h1 h2 h3 h4
  by_cases g : b < a
  · have hF : Hid (moveS (a, b) n = (1, 0)) := by unfold Hid moveS; rw [if_pos g]
    go_wp2_with fail
    refine (HN.out _).mono ?_
    rintro e w2 ⟨rfl, hb⟩
    have H5 := Lib.hid (H2.out.below hb)
    have H6 := Lib.hid (bstep H3.out hb H3.out.size)
    have H7 : Hid (w1.heap.size ≤ w2.heap.size) := hb.size
    obtain ⟨⟨q0, q1⟩, q2, q3⟩ := H5.out.two
    clear hb
    go_wp2
    refine ret2 Try.results24 (loadS _ _ _) rfl rfl (H5.out.put _ _) ?_
    refine ⟨fin.out _ _ hF.out, below_set (below_set H6.out ?_ (Nat.le_succ _) _ _) ?_ (Nat.le_succ _) _ _⟩
    all_goals have := H4.out; have := H7.out; simp [World.setCell]; try omega
  · have hF : Hid (moveS (a, b) n = (pls a n, pls b n)) := by unfold Hid moveS; rw [if_neg g]
    have g' : decide (b < a) = false := by simpa using g
    have ST : Hid (∀ W, Below w1.heap.size w1 W → (W.cell? ⟨w.heap.size, 0, none⟩ = some (.int .i64 a) ∧ W.cell? ⟨w.heap.size, 1, none⟩ = some (.int .i64 b)) ∧ Below w1.heap.size w1 W) :=
      fun W hW => ⟨(H1.out.below hW).two.1, hW⟩
    have END : Hid (∀ W, Below w1.heap.size w1 W → Blk W w.heap.size 31 [.int .i64 a, .int .i64 b] ∧ Blk W (w.heap.size + 1) 31 [.int .i64 0, .int .i64 0] ∧ Below w.heap.size w W ∧ w.heap.size + 2 ≤ W.heap.size) :=
      fun W hW => ⟨H1.out.below hW, H2.out.below hW, bstep H3.out hW H3.out.size, by have := H4.out; have := hW.size; omega⟩
    clear H1 H2 H3 H4 HE HN
    generalize pls a n = x at *
    generalize pls b n = y at *
    dsimp only
    go_upto_region 3 with (fail)
    refine wp_region_held_drew (S := fun W => (W.cell? ⟨w.heap.size, 0, none⟩ = some (.int .i64 a) ∧ W.cell? ⟨w.heap.size, 1, none⟩ = some (.int .i64 b))) (by kernel_rfl) ?hb0 (fun hHeld => ?_)
    case hb0 => (try dsimp only); exact (ST.out _ (below_drewN (Below.refl _ _) 1)).1
    refine wpAnyH_take (i := 0) (v := ?qv0) rfl (by kernel_rfl) (by kernel_rfl) (by kernel_rfl) (fun _ _ _ h => h) (Or.inl ⟨by kernel_rfl, ?qy0⟩) (by assumption) ?_
    case qy0 => (intro w hSw; (try dsimp only at hSw); go_simp) <;> (try with_reducible rfl)
    try simp only [Act.put, List.setIfInBounds_toArray, List.set_cons_zero, List.set_cons_succ, List.getElem_toArray, List.getElem_cons_succ, List.getElem_cons_zero]
    refine wpAnyH_take (i := 1) (v := ?qv1) rfl (by kernel_rfl) (by kernel_rfl) (by kernel_rfl) (fun _ _ _ h => h) (Or.inl ⟨by kernel_rfl, ?qy1⟩) (by assumption) ?_
    case qy1 => (intro w hSw; (try dsimp only at hSw); go_simp) <;> (try with_reducible rfl)
    try simp only [Act.put, List.setIfInBounds_toArray, List.set_cons_zero, List.set_cons_succ, List.getElem_toArray, List.getElem_cons_succ, List.getElem_cons_zero]
    refine wpAnyH_take (i := 2) (v := ?qv2) rfl (by kernel_rfl) (by kernel_rfl) (by kernel_rfl) (fun _ _ _ h => h) (Or.inl ⟨by kernel_rfl, ?qy2⟩) (by assumption) ?_
    case qy2 => (intro w hSw; (try dsimp only at hSw); go_simp) <;> (try with_reducible rfl)
    try simp only [Act.put, List.setIfInBounds_toArray, List.set_cons_zero, List.set_cons_succ, List.getElem_toArray, List.getElem_cons_succ, List.getElem_cons_zero]
    refine wpAnyH_take (i := 5) (v := ?qv5) rfl (by kernel_rfl) (by kernel_rfl) (by kernel_rfl) (fun _ _ _ h => h) (Or.inl ⟨by kernel_rfl, ?qy5⟩) (by assumption) ?_
    case qy5 => (intro w hSw; (try dsimp only at hSw); go_simp) <;> (try with_reducible rfl)
    try simp only [Act.put, List.setIfInBounds_toArray, List.set_cons_zero, List.set_cons_succ, List.getElem_toArray, List.getElem_cons_succ, List.getElem_cons_zero]
    refine wpAnyH_take (i := 6) (v := ?qv6) rfl (by kernel_rfl) (by kernel_rfl) (by kernel_rfl) (fun _ _ _ h => h) (Or.inl ⟨by kernel_rfl, ?qy6⟩) (by assumption) ?_
    case qy6 => (intro w hSw; (try dsimp only at hSw); go_simp) <;> (try with_reducible rfl)
    try simp only [Act.put, List.setIfInBounds_toArray, List.set_cons_zero, List.set_cons_succ, List.getElem_toArray, List.getElem_cons_succ, List.getElem_cons_zero]
    refine wpAnyH_take (i := 7) (v := ?qv7) rfl (by kernel_rfl) (by kernel_rfl) (by kernel_rfl) (fun _ _ _ h => h) (Or.inl ⟨by kernel_rfl, ?qy7⟩) (by assumption) ?_
    case qy7 => (intro w hSw; (try dsimp only at hSw); go_simp) <;> (try with_reducible rfl)
    try simp only [Act.put, List.setIfInBounds_toArray, List.set_cons_zero, List.set_cons_succ, List.getElem_toArray, List.getElem_cons_succ, List.getElem_cons_zero]
    refine wpAnyH_ready (rs := [3, 8]) (by kernel_rfl) (by simp) ?_
    refine AllReadyH.cons rfl (fun K hK => ?_) (AllReadyH.cons rfl (fun K hK => ?_) (AllReadyH.nil))
    · go_simp
      refine hK.out _ _ ?hs3a (fun hHeld => ?_)
      case hs3a => (try dsimp only); exact (ST.out _ (below_drewN (below_alloc1 w1 _) 1)).1
      clear hK K
      try simp only [Act.put, List.setIfInBounds_toArray, List.set_cons_zero, List.set_cons_succ, List.getElem_toArray, List.getElem_cons_succ, List.getElem_cons_zero]
      refine wpAnyH_ready (rs := [4, 8]) (by kernel_rfl) (by simp) ?_
      refine AllReadyH.cons rfl (fun K hK => ?_) (AllReadyH.cons rfl (fun K hK => ?_) (AllReadyH.nil))
      · go_simp
        refine (KA.out _ _ ((Blk.one w1 (.int .i64 n) 3).drew)).mono ?_
        rintro e w4 ⟨rfl, rfl⟩
        go_wp2_with fail
        refine hK.out _ _ ?hs4w3a (fun hHeld => ?_)
        case hs4w3a => (try dsimp only); exact (ST.out _ (below_drewN (below_alloc1 w1 _) 1)).1
        clear hK K
        try simp only [Act.put, List.setIfInBounds_toArray, List.set_cons_zero, List.set_cons_succ, List.getElem_toArray, List.getElem_cons_succ, List.getElem_cons_zero]
        refine wpAnyH_ready (rs := [8]) (by kernel_rfl) (by simp) ?_
        refine AllReadyH.cons rfl (fun K hK => ?_) AllReadyH.nil
        go_simp
        refine hK.out _ _ ?hs8w3w4a (fun hHeld => ?_)
        case hs8w3w4a => (try dsimp only); exact (ST.out _ (below_drewN (below_alloc2 w1 (.cells #[.int .i64 n] 3) (.cells #[.int .i64 n] 3)) 1)).1
        clear hK K
        try simp only [Act.put, List.setIfInBounds_toArray, List.set_cons_zero, List.set_cons_succ, List.getElem_toArray, List.getElem_cons_succ, List.getElem_cons_zero]
        refine wpAnyH_ready (rs := [9]) (by kernel_rfl) (by simp) ?_
        refine AllReadyH.cons rfl (fun K hK => ?_) AllReadyH.nil
        go_simp
        refine (KB.out _ _ ((by have h9 := Blk.one (w1.alloc (.cells #[.int .i64 n] 3)) (.int .i64 n) 3; rw [World.size_alloc] at h9; exact h9.drew))).mono ?_
        rintro e w4 ⟨rfl, rfl⟩
        go_wp2_with fail
        refine hK.out _ _ ?hs9w3w4a (fun hHeld => ?_)
        case hs9w3w4a => (try dsimp only); exact (ST.out _ (below_drewN (below_alloc2 w1 (.cells #[.int .i64 n] 3) (.cells #[.int .i64 n] 3)) 1)).1
        clear hK K
        try simp only [Act.put, List.setIfInBounds_toArray, List.set_cons_zero, List.set_cons_succ, List.getElem_toArray, List.getElem_cons_succ, List.getElem_cons_zero]
        refine wpAnyH_take (i := 10) (v := ?qv10w3w4) rfl (by kernel_rfl) (by kernel_rfl) (by kernel_rfl) (fun _ _ _ h => h) (Or.inl ⟨by kernel_rfl, ?qy10w3w4⟩) (by assumption) ?_
        case qy10w3w4 => (intro w hSw; (try dsimp only at hSw); go_simp) <;> (try with_reducible rfl)
        try simp only [Act.put, List.setIfInBounds_toArray, List.set_cons_zero, List.set_cons_succ, List.getElem_toArray, List.getElem_cons_succ, List.getElem_cons_zero]
        refine wpAnyH_ready (rs := [11]) (by kernel_rfl) (by simp) ?_
        refine AllReadyH.cons rfl (fun K hK => ?_) AllReadyH.nil
        obtain ⟨e0, e1, e2, e3⟩ := END.out _ (Below.drew (below_alloc2 w1 (.cells #[.int .i64 n] 3) (.cells #[.int .i64 n] 3)))
        generalize ((w1.alloc (.cells #[.int .i64 n] 3)).alloc (.cells #[.int .i64 n] 3)).drew = W9 at e0 e1 e2 e3 hHeld ⊢
        have E0 := Lib.hid e0
        have E1 := Lib.hid e1
        have E2 := Lib.hid e2
        have E3 := Lib.hid e3
        obtain ⟨⟨q0, q1⟩, q2, q3⟩ := e1.two
        clear e0 e1 e2 e3
        go_simp
        refine hK.out _ _ ?hs11w3w4a (fun hHeld => ?_)
        case hs11w3w4a => (try dsimp only); exact E0.out.keep2 (by omega) _ _
        clear hK K
        try simp only [Act.put, List.setIfInBounds_toArray, List.set_cons_zero, List.set_cons_succ, List.getElem_toArray, List.getElem_cons_succ, List.getElem_cons_zero]
        refine wpAnyH_done (by kernel_rfl) ?_ _
        go_wp2
        refine ret2 Try.results24 (loadS _ _ _) rfl rfl (E1.out.put _ _) ?_
        refine ⟨fin.out _ _ hF.out, below_set (below_set E2.out ?_ (Nat.le_succ _) _ _) ?_ (Nat.le_succ _) _ _⟩
        all_goals have := E3.out; simp [World.setCell]; try omega
      · go_simp
        refine hK.out _ _ ?hs8w3a (fun hHeld => ?_)
        case hs8w3a => (try dsimp only); exact (ST.out _ (below_drewN (below_alloc2 w1 (.cells #[.int .i64 n] 3) (.cells #[.int .i64 n] 3)) 1)).1
        clear hK K
        try simp only [Act.put, List.setIfInBounds_toArray, List.set_cons_zero, List.set_cons_succ, List.getElem_toArray, List.getElem_cons_succ, List.getElem_cons_zero]
        refine wpAnyH_ready (rs := [4]) (by kernel_rfl) (by simp) ?_
        refine AllReadyH.cons rfl (fun K hK => ?_) AllReadyH.nil
        go_simp
        refine (KA.out _ _ (((Blk.one w1 (.int .i64 n) 3).alloc _).drew)).mono ?_
        rintro e w4 ⟨rfl, rfl⟩
        go_wp2_with fail
        refine hK.out _ _ ?hs4w3w8a (fun hHeld => ?_)
        case hs4w3w8a => (try dsimp only); exact (ST.out _ (below_drewN (below_alloc2 w1 (.cells #[.int .i64 n] 3) (.cells #[.int .i64 n] 3)) 1)).1
        clear hK K
        try simp only [Act.put, List.setIfInBounds_toArray, List.set_cons_zero, List.set_cons_succ, List.getElem_toArray, List.getElem_cons_succ, List.getElem_cons_zero]
        refine wpAnyH_ready (rs := [9]) (by kernel_rfl) (by simp) ?_
        refine AllReadyH.cons rfl (fun K hK => ?_) AllReadyH.nil
        go_simp
        refine (KB.out _ _ ((by have h9 := Blk.one (w1.alloc (.cells #[.int .i64 n] 3)) (.int .i64 n) 3; rw [World.size_alloc] at h9; exact h9.drew))).mono ?_
        rintro e w4 ⟨rfl, rfl⟩
        go_wp2_with fail
        refine hK.out _ _ ?hs9w3w8a (fun hHeld => ?_)
        case hs9w3w8a => (try dsimp only); exact (ST.out _ (below_drewN (below_alloc2 w1 (.cells #[.int .i64 n] 3) (.cells #[.int .i64 n] 3)) 1)).1
        clear hK K
        try simp only [Act.put, List.setIfInBounds_toArray, List.set_cons_zero, List.set_cons_succ, List.getElem_toArray, List.getElem_cons_succ, List.getElem_cons_zero]
        refine wpAnyH_take (i := 10) (v := ?qv10w3w8) rfl (by kernel_rfl) (by kernel_rfl) (by kernel_rfl) (fun _ _ _ h => h) (Or.inl ⟨by kernel_rfl, ?qy10w3w8⟩) (by assumption) ?_
        case qy10w3w8 => (intro w hSw; (try dsimp only at hSw); go_simp) <;> (try with_reducible rfl)
        try simp only [Act.put, List.setIfInBounds_toArray, List.set_cons_zero, List.set_cons_succ, List.getElem_toArray, List.getElem_cons_succ, List.getElem_cons_zero]
        refine wpAnyH_ready (rs := [11]) (by kernel_rfl) (by simp) ?_
        refine AllReadyH.cons rfl (fun K hK => ?_) AllReadyH.nil
        obtain ⟨e0, e1, e2, e3⟩ := END.out _ (Below.drew (below_alloc2 w1 (.cells #[.int .i64 n] 3) (.cells #[.int .i64 n] 3)))
        generalize ((w1.alloc (.cells #[.int .i64 n] 3)).alloc (.cells #[.int .i64 n] 3)).drew = W9 at e0 e1 e2 e3 hHeld ⊢
        have E0 := Lib.hid e0
        have E1 := Lib.hid e1
        have E2 := Lib.hid e2
        have E3 := Lib.hid e3
        obtain ⟨⟨q0, q1⟩, q2, q3⟩ := e1.two
        clear e0 e1 e2 e3
        go_simp
        refine hK.out _ _ ?hs11w3w8a (fun hHeld => ?_)
        case hs11w3w8a => (try dsimp only); exact E0.out.keep2 (by omega) _ _
        clear hK K
        try simp only [Act.put, List.setIfInBounds_toArray, List.set_cons_zero, List.set_cons_succ, List.getElem_toArray, List.getElem_cons_succ, List.getElem_cons_zero]
        refine wpAnyH_done (by kernel_rfl) ?_ _
        go_wp2
        refine ret2 Try.results24 (loadS _ _ _) rfl rfl (E1.out.put _ _) ?_
        refine ⟨fin.out _ _ hF.out, below_set (below_set E2.out ?_ (Nat.le_succ _) _ _) ?_ (Nat.le_succ _) _ _⟩
        all_goals have := E3.out; simp [World.setCell]; try omega
    · go_simp
      refine hK.out _ _ ?hs8a (fun hHeld => ?_)
      case hs8a => (try dsimp only); exact (ST.out _ (below_drewN (below_alloc1 w1 _) 1)).1
      clear hK K
      try simp only [Act.put, List.setIfInBounds_toArray, List.set_cons_zero, List.set_cons_succ, List.getElem_toArray, List.getElem_cons_succ, List.getElem_cons_zero]
      refine wpAnyH_ready (rs := [3]) (by kernel_rfl) (by simp) ?_
      refine AllReadyH.cons rfl (fun K hK => ?_) AllReadyH.nil
      go_simp
      refine hK.out _ _ ?hs3w8a (fun hHeld => ?_)
      case hs3w8a => (try dsimp only); exact (ST.out _ (below_drewN (below_alloc2 w1 (.cells #[.int .i64 n] 3) (.cells #[.int .i64 n] 3)) 1)).1
      clear hK K
      try simp only [Act.put, List.setIfInBounds_toArray, List.set_cons_zero, List.set_cons_succ, List.getElem_toArray, List.getElem_cons_succ, List.getElem_cons_zero]
      refine wpAnyH_ready (rs := [4]) (by kernel_rfl) (by simp) ?_
      refine AllReadyH.cons rfl (fun K hK => ?_) AllReadyH.nil
      go_simp
      refine (KA.out _ _ ((by have h9 := Blk.one (w1.alloc (.cells #[.int .i64 n] 3)) (.int .i64 n) 3; rw [World.size_alloc] at h9; exact h9.drew))).mono ?_
      rintro e w4 ⟨rfl, rfl⟩
      go_wp2_with fail
      refine hK.out _ _ ?hs4w8a (fun hHeld => ?_)
      case hs4w8a => (try dsimp only); exact (ST.out _ (below_drewN (below_alloc2 w1 (.cells #[.int .i64 n] 3) (.cells #[.int .i64 n] 3)) 1)).1
      clear hK K
      try simp only [Act.put, List.setIfInBounds_toArray, List.set_cons_zero, List.set_cons_succ, List.getElem_toArray, List.getElem_cons_succ, List.getElem_cons_zero]
      refine wpAnyH_ready (rs := [9]) (by kernel_rfl) (by simp) ?_
      refine AllReadyH.cons rfl (fun K hK => ?_) AllReadyH.nil
      go_simp
      refine (KB.out _ _ (((Blk.one w1 (.int .i64 n) 3).alloc _).drew)).mono ?_
      rintro e w4 ⟨rfl, rfl⟩
      go_wp2_with fail
      refine hK.out _ _ ?hs9w8a (fun hHeld => ?_)
      case hs9w8a => (try dsimp only); exact (ST.out _ (below_drewN (below_alloc2 w1 (.cells #[.int .i64 n] 3) (.cells #[.int .i64 n] 3)) 1)).1
      clear hK K
      try simp only [Act.put, List.setIfInBounds_toArray, List.set_cons_zero, List.set_cons_succ, List.getElem_toArray, List.getElem_cons_succ, List.getElem_cons_zero]
      refine wpAnyH_take (i := 10) (v := ?qv10w8) rfl (by kernel_rfl) (by kernel_rfl) (by kernel_rfl) (fun _ _ _ h => h) (Or.inl ⟨by kernel_rfl, ?qy10w8⟩) (by assumption) ?_
      case qy10w8 => (intro w hSw; (try dsimp only at hSw); go_simp) <;> (try with_reducible rfl)
      try simp only [Act.put, List.setIfInBounds_toArray, List.set_cons_zero, List.set_cons_succ, List.getElem_toArray, List.getElem_cons_succ, List.getElem_cons_zero]
      refine wpAnyH_ready (rs := [11]) (by kernel_rfl) (by simp) ?_
      refine AllReadyH.cons rfl (fun K hK => ?_) AllReadyH.nil
      obtain ⟨e0, e1, e2, e3⟩ := END.out _ (Below.drew (below_alloc2 w1 (.cells #[.int .i64 n] 3) (.cells #[.int .i64 n] 3)))
      generalize ((w1.alloc (.cells #[.int .i64 n] 3)).alloc (.cells #[.int .i64 n] 3)).drew = W9 at e0 e1 e2 e3 hHeld ⊢
      have E0 := Lib.hid e0
      have E1 := Lib.hid e1
      have E2 := Lib.hid e2
      have E3 := Lib.hid e3
      obtain ⟨⟨q0, q1⟩, q2, q3⟩ := e1.two
      clear e0 e1 e2 e3
      go_simp
      refine hK.out _ _ ?hs11w8a (fun hHeld => ?_)
      case hs11w8a => (try dsimp only); exact E0.out.keep2 (by omega) _ _
      clear hK K
      try simp only [Act.put, List.setIfInBounds_toArray, List.set_cons_zero, List.set_cons_succ, List.getElem_toArray, List.getElem_cons_succ, List.getElem_cons_zero]
      refine wpAnyH_done (by kernel_rfl) ?_ _
      go_wp2
      refine ret2 Try.results24 (loadS _ _ _) rfl rfl (E1.out.put _ _) ?_
      refine ⟨fin.out _ _ hF.out, below_set (below_set E2.out ?_ (Nat.le_succ _) _ _) ?_ (Nat.le_succ _) _ _⟩
      all_goals have := E3.out; simp [World.setCell]; try omega

set_option maxHeartbeats 1600000 in
theorem spGrow (a b n m : Int) (w : World) (ha : I64 a) (hb : I64 b) (hn : I64 n) (hm : I64 m) :
    Calls Try.prog 25 #[.agg #[.int .i64 a, .int .i64 b], .int .i64 n, .int .i64 m] w fun e w' => e = .returned (.agg #[.int .i64 (growS (a, b) n m).1, .int .i64 (growS (a, b) n m).2]) ∧ Below w.heap.size w w' := by
  have HE := Lib.hid (fun W => spEmpty a b W)
  have HN := Lib.hid (fun W => spNone W)
  have fin : Hid (∀ x y : Int, growS (a, b) n m = (x, y) → Ending.returned (.agg #[.int .i64 x, .int .i64 y]) = .returned (.agg #[.int .i64 (growS (a, b) n m).1, .int .i64 (growS (a, b) n m).2])) := by
    rintro x y h; rw [h]
  have KS := Lib.hid (fun W => spSub a n W ha hn)
  have KB := Lib.hid (fun R W => spAdd1 b m R W hb hm)
  have KC := Lib.hid (fun W => spCanonical (mns a n) (pls b m) W)
  clear ha hb hn
  go_enter Try.func25, Try.ntmps25
  go_wp2_with fail
  refine (HE.out _).mono ?_
  rintro e w1 ⟨rfl, hb⟩
  obtain ⟨h1, h2, h3, h4⟩ := late2 hb
  have H1 := Lib.hid h1
  have H2 := Lib.hid h2
  have H3 := Lib.hid h3
  have H4 := Lib.hid h4
  clear hb h1 h2 h3 h4
  by_cases g : b < a
  · have hF : Hid (growS (a, b) n m = (1, 0)) := by unfold Hid growS; rw [if_pos g]
    go_wp2_with fail
    refine (HN.out _).mono ?_
    rintro e w2 ⟨rfl, hb⟩
    have H5 := Lib.hid (H2.out.below hb)
    have H6 := Lib.hid (bstep H3.out hb H3.out.size)
    have H7 : Hid (w1.heap.size ≤ w2.heap.size) := hb.size
    obtain ⟨⟨q0, q1⟩, q2, q3⟩ := H5.out.two
    clear hb
    go_wp2
    refine ret2 Try.results25 (loadS _ _ _) rfl rfl (H5.out.put _ _) ?_
    refine ⟨fin.out _ _ hF.out, below_set (below_set H6.out ?_ (Nat.le_succ _) _ _) ?_ (Nat.le_succ _) _ _⟩
    all_goals have := H4.out; have := H7.out; simp [World.setCell]; try omega
  · have hF : Hid (growS (a, b) n m = canon (mns a n, pls b m)) := by unfold Hid growS; rw [if_neg g]
    have g' : decide (b < a) = false := by simpa using g
    have ST : Hid (∀ W, Below w1.heap.size w1 W → (W.cell? ⟨w.heap.size, 0, none⟩ = some (.int .i64 a) ∧ W.cell? ⟨w.heap.size, 1, none⟩ = some (.int .i64 b)) ∧ Below w1.heap.size w1 W) :=
      fun W hW => ⟨(H1.out.below hW).two.1, hW⟩
    have END : Hid (∀ W, Below w1.heap.size w1 W → Blk W w.heap.size 31 [.int .i64 a, .int .i64 b] ∧ Blk W (w.heap.size + 1) 31 [.int .i64 0, .int .i64 0] ∧ Below w.heap.size w W ∧ w.heap.size + 2 ≤ W.heap.size) :=
      fun W hW => ⟨H1.out.below hW, H2.out.below hW, bstep H3.out hW H3.out.size, by have := H4.out; have := hW.size; omega⟩
    clear H1 H2 H3 H4 HE HN
    generalize mns a n = x at *
    generalize pls b m = y at *
    generalize canon (x, y) = cc at *
    obtain ⟨cx, cy⟩ := cc
    dsimp only at KC
    dsimp only
    go_upto_region 3 with (fail)
    refine wp_region_held_drew (S := fun W => (W.cell? ⟨w.heap.size, 0, none⟩ = some (.int .i64 a) ∧ W.cell? ⟨w.heap.size, 1, none⟩ = some (.int .i64 b))) (by kernel_rfl) ?hb0 (fun hHeld => ?_)
    case hb0 => (try dsimp only); exact (ST.out _ (below_drewN (Below.refl _ _) 1)).1
    refine wpAnyH_take (i := 0) (v := ?qv0) rfl (by kernel_rfl) (by kernel_rfl) (by kernel_rfl) (fun _ _ _ h => h) (Or.inl ⟨by kernel_rfl, ?qy0⟩) (by assumption) ?_
    case qy0 => (intro w hSw; (try dsimp only at hSw); go_simp) <;> (try with_reducible rfl)
    try simp only [Act.put, List.setIfInBounds_toArray, List.set_cons_zero, List.set_cons_succ, List.getElem_toArray, List.getElem_cons_succ, List.getElem_cons_zero]
    refine wpAnyH_take (i := 1) (v := ?qv1) rfl (by kernel_rfl) (by kernel_rfl) (by kernel_rfl) (fun _ _ _ h => h) (Or.inl ⟨by kernel_rfl, ?qy1⟩) (by assumption) ?_
    case qy1 => (intro w hSw; (try dsimp only at hSw); go_simp) <;> (try with_reducible rfl)
    try simp only [Act.put, List.setIfInBounds_toArray, List.set_cons_zero, List.set_cons_succ, List.getElem_toArray, List.getElem_cons_succ, List.getElem_cons_zero]
    refine wpAnyH_take (i := 2) (v := ?qv2) rfl (by kernel_rfl) (by kernel_rfl) (by kernel_rfl) (fun _ _ _ h => h) (Or.inl ⟨by kernel_rfl, ?qy2⟩) (by assumption) ?_
    case qy2 => (intro w hSw; (try dsimp only at hSw); go_simp) <;> (try with_reducible rfl)
    try simp only [Act.put, List.setIfInBounds_toArray, List.set_cons_zero, List.set_cons_succ, List.getElem_toArray, List.getElem_cons_succ, List.getElem_cons_zero]
    refine wpAnyH_take (i := 4) (v := ?qv4) rfl (by kernel_rfl) (by kernel_rfl) (by kernel_rfl) (fun _ _ _ h => h) (Or.inl ⟨by kernel_rfl, ?qy4⟩) (by assumption) ?_
    case qy4 => (intro w hSw; (try dsimp only at hSw); go_simp) <;> (try with_reducible rfl)
    try simp only [Act.put, List.setIfInBounds_toArray, List.set_cons_zero, List.set_cons_succ, List.getElem_toArray, List.getElem_cons_succ, List.getElem_cons_zero]
    refine wpAnyH_take (i := 5) (v := ?qv5) rfl (by kernel_rfl) (by kernel_rfl) (by kernel_rfl) (fun _ _ _ h => h) (Or.inl ⟨by kernel_rfl, ?qy5⟩) (by assumption) ?_
    case qy5 => (intro w hSw; (try dsimp only at hSw); go_simp) <;> (try with_reducible rfl)
    try simp only [Act.put, List.setIfInBounds_toArray, List.set_cons_zero, List.set_cons_succ, List.getElem_toArray, List.getElem_cons_succ, List.getElem_cons_zero]
    refine wpAnyH_take (i := 6) (v := ?qv6) rfl (by kernel_rfl) (by kernel_rfl) (by kernel_rfl) (fun _ _ _ h => h) (Or.inl ⟨by kernel_rfl, ?qy6⟩) (by assumption) ?_
    case qy6 => (intro w hSw; (try dsimp only at hSw); go_simp) <;> (try with_reducible rfl)
    try simp only [Act.put, List.setIfInBounds_toArray, List.set_cons_zero, List.set_cons_succ, List.getElem_toArray, List.getElem_cons_succ, List.getElem_cons_zero]
    refine wpAnyH_ready (rs := [3, 7]) (by kernel_rfl) (by simp) ?_
    refine AllReadyH.cons rfl (fun K hK => ?_) (AllReadyH.cons rfl (fun K hK => ?_) (AllReadyH.nil))
    · go_simp
      refine (KS.out _).mono ?_
      rintro e w4 ⟨rfl, hy⟩
      have z4 := bstep (Below.drew (Below.refl w1.heap.size w1)) hy (Below.size (Below.drew (Below.refl w1.heap.size w1)))
      have Z4 := Lib.hid z4
      clear hy z4
      go_wp2_with fail
      refine hK.out _ _ ?hs3a (fun hHeld => ?_)
      case hs3a => (try dsimp only); exact (ST.out _ (Z4.out)).1
      clear hK K
      try simp only [Act.put, List.setIfInBounds_toArray, List.set_cons_zero, List.set_cons_succ, List.getElem_toArray, List.getElem_cons_succ, List.getElem_cons_zero]
      refine wpAnyH_ready (rs := [7]) (by kernel_rfl) (by simp) ?_
      refine AllReadyH.cons rfl (fun K hK => ?_) AllReadyH.nil
      go_simp
      refine hK.out _ _ ?hs7w3a (fun hHeld => ?_)
      case hs7w3a => (try dsimp only); exact (ST.out _ (Z4.out.alloc Z4.out.size (.cells #[.int .i64 m] 3))).1
      clear hK K
      try simp only [Act.put, List.setIfInBounds_toArray, List.set_cons_zero, List.set_cons_succ, List.getElem_toArray, List.getElem_cons_succ, List.getElem_cons_zero]
      refine wpAnyH_ready (rs := [8]) (by kernel_rfl) (by simp) ?_
      refine AllReadyH.cons rfl (fun K hK => ?_) AllReadyH.nil
      go_simp
      refine (KB.out _ _ (Blk.one w4 (.int .i64 m) 3)).mono ?_
      rintro e w7 ⟨rfl, rfl⟩
      go_wp2_with fail
      refine hK.out _ _ ?hs8w3a (fun hHeld => ?_)
      case hs8w3a => (try dsimp only); exact (ST.out _ (Z4.out.alloc Z4.out.size (.cells #[.int .i64 m] 3))).1
      clear hK K
      try simp only [Act.put, List.setIfInBounds_toArray, List.set_cons_zero, List.set_cons_succ, List.getElem_toArray, List.getElem_cons_succ, List.getElem_cons_zero]
      refine wpAnyH_take (i := 9) (v := ?qv9w3) rfl (by kernel_rfl) (by kernel_rfl) (by kernel_rfl) (fun _ _ _ h => h) (Or.inl ⟨by kernel_rfl, ?qy9w3⟩) (by assumption) ?_
      case qy9w3 => (intro w hSw; (try dsimp only at hSw); go_simp) <;> (try with_reducible rfl)
      try simp only [Act.put, List.setIfInBounds_toArray, List.set_cons_zero, List.set_cons_succ, List.getElem_toArray, List.getElem_cons_succ, List.getElem_cons_zero]
      refine wpAnyH_ready (rs := [10]) (by kernel_rfl) (by simp) ?_
      refine AllReadyH.cons rfl (fun K hK => ?_) AllReadyH.nil
      go_simp
      refine (KC.out _).mono ?_
      rintro e w5 ⟨rfl, hy⟩
      have z5 := bstep (Z4.out.alloc Z4.out.size (.cells #[.int .i64 m] 3)) hy (Below.size (Z4.out.alloc Z4.out.size (.cells #[.int .i64 m] 3)))
      have Z5 := Lib.hid z5
      clear hy z5
      go_wp2_with fail
      refine hK.out _ _ ?hs10w3a (fun hHeld => ?_)
      case hs10w3a => (try dsimp only); exact (ST.out _ (Z5.out)).1
      clear hK K
      try simp only [Act.put, List.setIfInBounds_toArray, List.set_cons_zero, List.set_cons_succ, List.getElem_toArray, List.getElem_cons_succ, List.getElem_cons_zero]
      refine wpAnyH_ready (rs := [11]) (by kernel_rfl) (by simp) ?_
      refine AllReadyH.cons rfl (fun K hK => ?_) AllReadyH.nil
      obtain ⟨e0, e1, e2, e3⟩ := END.out _ (Z5.out)
      generalize w5 = W9 at e0 e1 e2 e3 hHeld ⊢
      have E0 := Lib.hid e0
      have E1 := Lib.hid e1
      have E2 := Lib.hid e2
      have E3 := Lib.hid e3
      obtain ⟨⟨q0, q1⟩, q2, q3⟩ := e1.two
      clear e0 e1 e2 e3
      go_simp
      refine hK.out _ _ ?hs11w3a (fun hHeld => ?_)
      case hs11w3a => (try dsimp only); exact E0.out.keep2 (by omega) _ _
      clear hK K
      try simp only [Act.put, List.setIfInBounds_toArray, List.set_cons_zero, List.set_cons_succ, List.getElem_toArray, List.getElem_cons_succ, List.getElem_cons_zero]
      refine wpAnyH_done (by kernel_rfl) ?_ _
      go_wp2
      refine ret2 Try.results25 (loadS _ _ _) rfl rfl (E1.out.put _ _) ?_
      refine ⟨fin.out _ _ hF.out, below_set (below_set E2.out ?_ (Nat.le_succ _) _ _) ?_ (Nat.le_succ _) _ _⟩
      all_goals have := E3.out; simp [World.setCell]; try omega
    · go_simp
      refine hK.out _ _ ?hs7a (fun hHeld => ?_)
      case hs7a => (try dsimp only); exact (ST.out _ (below_drewN (below_alloc1 w1 (.cells #[.int .i64 m] 3)) 1)).1
      clear hK K
      try simp only [Act.put, List.setIfInBounds_toArray, List.set_cons_zero, List.set_cons_succ, List.getElem_toArray, List.getElem_cons_succ, List.getElem_cons_zero]
      refine wpAnyH_ready (rs := [3]) (by kernel_rfl) (by simp) ?_
      refine AllReadyH.cons rfl (fun K hK => ?_) AllReadyH.nil
      go_simp
      refine (KS.out _).mono ?_
      rintro e w4 ⟨rfl, hy⟩
      have B4 := Lib.hid (Blk.below (w := (w1.alloc (.cells #[.int .i64 m] 3)).drew) ((Blk.one w1 (.int .i64 m) 3).drew) hy)
      have z4 := bstep (Below.drew (below_alloc1 w1 (.cells #[.int .i64 m] 3))) hy (Below.size (Below.drew (below_alloc1 w1 (.cells #[.int .i64 m] 3))))
      have Z4 := Lib.hid z4
      clear hy z4
      go_wp2_with fail
      refine hK.out _ _ ?hs3w7a (fun hHeld => ?_)
      case hs3w7a => (try dsimp only); exact (ST.out _ (Z4.out)).1
      clear hK K
      try simp only [Act.put, List.setIfInBounds_toArray, List.set_cons_zero, List.set_cons_succ, List.getElem_toArray, List.getElem_cons_succ, List.getElem_cons_zero]
      refine wpAnyH_ready (rs := [8]) (by kernel_rfl) (by simp) ?_
      refine AllReadyH.cons rfl (fun K hK => ?_) AllReadyH.nil
      go_simp
      refine (KB.out _ _ (B4.out)).mono ?_
      rintro e w7 ⟨rfl, rfl⟩
      go_wp2_with fail
      refine hK.out _ _ ?hs8w7a (fun hHeld => ?_)
      case hs8w7a => (try dsimp only); exact (ST.out _ (Z4.out)).1
      clear hK K
      try simp only [Act.put, List.setIfInBounds_toArray, List.set_cons_zero, List.set_cons_succ, List.getElem_toArray, List.getElem_cons_succ, List.getElem_cons_zero]
      refine wpAnyH_take (i := 9) (v := ?qv9w7) rfl (by kernel_rfl) (by kernel_rfl) (by kernel_rfl) (fun _ _ _ h => h) (Or.inl ⟨by kernel_rfl, ?qy9w7⟩) (by assumption) ?_
      case qy9w7 => (intro w hSw; (try dsimp only at hSw); go_simp) <;> (try with_reducible rfl)
      try simp only [Act.put, List.setIfInBounds_toArray, List.set_cons_zero, List.set_cons_succ, List.getElem_toArray, List.getElem_cons_succ, List.getElem_cons_zero]
      refine wpAnyH_ready (rs := [10]) (by kernel_rfl) (by simp) ?_
      refine AllReadyH.cons rfl (fun K hK => ?_) AllReadyH.nil
      go_simp
      refine (KC.out _).mono ?_
      rintro e w5 ⟨rfl, hy⟩
      have z5 := bstep (Z4.out) hy (Below.size (Z4.out))
      have Z5 := Lib.hid z5
      clear hy z5
      go_wp2_with fail
      refine hK.out _ _ ?hs10w7a (fun hHeld => ?_)
      case hs10w7a => (try dsimp only); exact (ST.out _ (Z5.out)).1
      clear hK K
      try simp only [Act.put, List.setIfInBounds_toArray, List.set_cons_zero, List.set_cons_succ, List.getElem_toArray, List.getElem_cons_succ, List.getElem_cons_zero]
      refine wpAnyH_ready (rs := [11]) (by kernel_rfl) (by simp) ?_
      refine AllReadyH.cons rfl (fun K hK => ?_) AllReadyH.nil
      obtain ⟨e0, e1, e2, e3⟩ := END.out _ (Z5.out)
      generalize w5 = W9 at e0 e1 e2 e3 hHeld ⊢
      have E0 := Lib.hid e0
      have E1 := Lib.hid e1
      have E2 := Lib.hid e2
      have E3 := Lib.hid e3
      obtain ⟨⟨q0, q1⟩, q2, q3⟩ := e1.two
      clear e0 e1 e2 e3
      go_simp
      refine hK.out _ _ ?hs11w7a (fun hHeld => ?_)
      case hs11w7a => (try dsimp only); exact E0.out.keep2 (by omega) _ _
      clear hK K
      try simp only [Act.put, List.setIfInBounds_toArray, List.set_cons_zero, List.set_cons_succ, List.getElem_toArray, List.getElem_cons_succ, List.getElem_cons_zero]
      refine wpAnyH_done (by kernel_rfl) ?_ _
      go_wp2
      refine ret2 Try.results25 (loadS _ _ _) rfl rfl (E1.out.put _ _) ?_
      refine ⟨fin.out _ _ hF.out, below_set (below_set E2.out ?_ (Nat.le_succ _) _ _) ?_ (Nat.le_succ _) _ _⟩
      all_goals have := E3.out; simp [World.setCell]; try omega

def inB (x y : Sp) : Prop := x.2 < x.1 ∨ (Inn y x.1 ∧ Inn y x.2)
instance (x y : Sp) : Decidable (inB x y) := by unfold inB; infer_instance
set_option maxHeartbeats 1600000 in
theorem spWithin (a b c d : Int) (w : World) :
    Calls Try.prog 26 #[.agg #[.int .i64 a, .int .i64 b], .agg #[.int .i64 c, .int .i64 d]] w fun e w' => e = .returned (.bool (decide (inB (a, b) (c, d)))) ∧ Below w.heap.size w w' := by
  have fin : Hid (∀ q : Bool, (q = true ↔ inB (a, b) (c, d)) → Ending.returned (.bool q) = .returned (.bool (decide (inB (a, b) (c, d))))) := by
    intro q hq; congr 2; by_cases h : inB (a, b) (c, d) <;> simp_all
  have HE := Lib.hid (fun W => spEmpty a b W)
  have H1 := Lib.hid (fun W => spIn c d a W)
  have H2 := Lib.hid (fun W => spIn c d b W)
  go_enter Try.func26, Try.ntmps26
  go_wp2_with fail
  refine (HE.out _).mono ?_
  rintro e w1 ⟨rfl, hb⟩
  obtain ⟨h1, h2, h3, h4⟩ := late2 hb
  have L1 := Lib.hid h1
  have L2 := Lib.hid h2
  have L3 := Lib.hid h3
  clear hb h1 h2 h3 h4
  by_cases g : b < a
  · have hF : Hid (inB (a, b) (c, d)) := .inl g
    go_wp2
    go_ret
    exact ⟨fin.out _ (by simp [hF.out]), L3.out⟩
  · have g' : decide (b < a) = false := by simpa using g
    obtain ⟨⟨p0, p1⟩, _, _⟩ := L1.out.two
    obtain ⟨⟨q0, q1⟩, _, _⟩ := L2.out.two
    go_wp2_with fail
    refine (H1.out _).mono ?_
    rintro e w2 ⟨rfl, hb⟩
    have M1 := Lib.hid (L1.out.below hb)
    have M2 := Lib.hid (L2.out.below hb)
    have M3 := Lib.hid (bstep L3.out hb L3.out.size)
    clear hb p0 p1 q0 q1
    by_cases g2 : Inn (c, d) a
    · have g2' : decide (Inn (c, d) a) = true := by simpa using g2
      have G2 := Lib.hid g2
      have G := Lib.hid g
      rw [g2']
      obtain ⟨⟨p0, p1⟩, _, _⟩ := M1.out.two
      obtain ⟨⟨q0, q1⟩, _, _⟩ := M2.out.two
      clear g2 g2'
      go_wp2_with fail
      refine (H2.out _).mono ?_
      rintro e w3 ⟨rfl, hb⟩
      have N3 := Lib.hid (bstep M3.out hb M3.out.size)
      have FF : Hid (decide (Inn (c, d) b) = true ↔ inB (a, b) (c, d)) := by
        unfold Hid inB
        have := G2.out; have := G.out
        simp only [decide_eq_true_eq]
        constructor
        · intro h; exact .inr ⟨G2.out, h⟩
        · rintro (h | h)
          · have h0 := G.out; (try dsimp only at h); omega
          · exact h.2
      clear hb
      generalize decide (Inn (c, d) b) = r at *
      go_wp2
      go_ret
      exact ⟨fin.out _ FF.out, N3.out⟩
    · have g2' : decide (Inn (c, d) a) = false := by simpa using g2
      have hF : Hid (¬ inB (a, b) (c, d)) := by
        rintro (h | h)
        · (try dsimp only at h); omega
        · exact g2 h.1
      rw [g2']
      clear g2 g2'
      go_wp2
      go_ret
      exact ⟨fin.out _ (by simp [hF.out]), M3.out⟩
end Go.Proofs.Ytlmmoinmlcpmnaa
