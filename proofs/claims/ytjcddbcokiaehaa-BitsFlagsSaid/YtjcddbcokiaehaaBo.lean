/-
  The contract of the project's bits: Flags.
-/
import Derived.Test.YtjcddbcokiaehaaBn
namespace Go.Proofs.Ytjcddbcokiaehaa
open Go.RowKit Go.Shelf
set_option linter.unusedVariables false
set_option linter.unusedSimpArgs false
set_option maxRecDepth 4000
attribute [local go_sem] Oper.semAt_some

theorem blk_own {β : Type} (B : Nat) (t : TypeId) (cs : List Value) : Own (fun (_ : β) W => Blk W B t cs) := by
  rintro s X Y row h hg hrow
  exact (hg.block B h.lt (fun e' => by
    obtain ⟨o, ho, hc⟩ := hrow B e'.symm
    rw [show X.heap[B]? = _ from h] at ho; cases ho; cases hc)).trans h

theorem btEach (n : Nat) (u : Int) (A : Option Addr) (m c : Nat) (w : World) :
    CallsIn Fence.wide n Try.prog 49 #[.agg #[.int .i64 u, .slice A m c]] w fun e w' => e = .returned (.func (.func 62) #[] #[.pointer (some ⟨w.heap.size, 0, none⟩)]) ∧ w' = w.alloc (.cells #[.int .i64 u, .slice A m c] 25) := by
  refine callsIn_of_wp Try.func49 rfl trivial ?_ rfl
  simp only [Try.ntmps49, List.size_toArray, List.length_cons, List.length_nil, Nat.reduceAdd, Nat.reduceSub, Array.replicate_succ, Array.replicate_zero, List.push_toArray, List.append_toArray, List.nil_append, List.cons_append]
  gi_wp2
  go_ret
  exact ⟨rfl, rfl⟩

theorem btEachStops (n : Nat) (hn : 1 ≤ n) (E n₀ : Nat) (u : Int) (A : Option Addr) (m c : Nat) (l : List UInt8) (hm : m ≤ 1099511) (hr : rightS u l = true) (w : World) (hE : Blk w E 25 [.int .i64 u, .slice A m c]) (hS : BsN n₀ w A m l) (hn₀ : n₀ ≤ w.heap.size) :
    SeqStopsK Fence.wide n Try.prog 62 #[.pointer (some ⟨E, 0, none⟩)] (fun x : Nat × Bool => #[Value.int .i64 (x.1 : Int), Value.bool x.2]) (Kp5 n₀ E) (fun ys => ys = upto l (lenS u l)) (fun pre => ∃ k, k ≤ lenS u l ∧ pre = upto l k) (lenS u l) w :=
  fun lp J Jx W hW hJ _ hY h0 => btEach1 n hn lp E n₀ u A m c l hm hr J Jx hY W hJ (hE.below hW) (hS.keep (hW.mono hn₀)) (Nat.le_trans hn₀ hW.size) h0

set_option maxHeartbeats 1600000 in
theorem btFlagsArg (u : Int) (A : Option Addr) (m c : Nat) (l : List UInt8) (w : World) (h : Bs w A m l) (hm : m ≤ 1099511) (hr : rightS u l = false) :
    Calls Try.prog 26 #[.agg #[.int .i64 u, .slice A m c]] w fun e w' => e = .returned (.tuple #[.slice none 0 0, .int .i64 1]) ∧ Below w.heap.size w w' := by
  have hR := btRight u A m c l (w.alloc (.cells #[.int .i64 u, .slice A m c] 25)) (h.below (below_alloc1 _ _)) (by omega)
  rw [hr] at hR
  go_enter Try.func26, Try.ntmps26
  go_wp2_with fail
  refine hR.mono ?_
  rintro e w1 ⟨rfl, hb⟩
  have hB : Below w.heap.size w w1 := (below_alloc1 _ _).trans (Below.mono hb (by simp))
  go_wp2
  go_ret2
  exact ⟨rfl, hB⟩

set_option maxHeartbeats 1600000 in
theorem btFlagsForm (u : Int) (A : Option Addr) (m c : Nat) (l : List UInt8) (w : World) (h : Bs w A m l) (hm : m ≤ 1099511) (hr : rightS u l = true) (hf : notFl l (lenS u l) = true) :
    Calls Try.prog 26 #[.agg #[.int .i64 u, .slice A m c]] w fun e w' => e = .returned (.tuple #[.slice none 0 0, .int .i64 6]) ∧ Below w.heap.size w w' := by
  have hR := btRight u A m c l (w.alloc (.cells #[.int .i64 u, .slice A m c] 25)) (h.below (below_alloc1 _ _)) (by omega)
  rw [hr] at hR
  have hO := Blk.new2 w (.int .i64 u) (.slice A m c) 25
  have hlen : lenS u l ≤ 8 * m := by have := h.len; unfold lenS; omega
  go_enter Try.func26, Try.ntmps26
  go_wp2_with fail
  refine hR.mono ?_
  rintro e w1 ⟨rfl, hb⟩
  have hB : Below w.heap.size w w1 := (below_alloc1 _ _).trans (Below.mono hb (by simp))
  have hO1 := hO.below hb
  have hS1 := h.below hB
  obtain ⟨o0, o1, _, _⟩ := hO1.two
  clear hO hR hb h
  go_wp2_with fail
  refine (btLenYes u A m c l _ hS1 (by omega) hr).mono ?_
  rintro e w2 ⟨rfl, hb2⟩
  have hO2 := hO1.below hb2
  have hS2 := hS1.below hb2
  have hB2 := hB.trans (Below.mono hb2 hB.size)
  clear o0 o1 hO1 hS1 hB hb2
  obtain ⟨o0, o1, _, _⟩ := hO2.two
  by_cases h32 : 32 < lenS u l
  · have d1 : decide (32 < (lenS u l : Int)) = true := by simp; omega
    have d2 : decide (32 < lenS u l) = true := by simp; omega
    generalize lenS u l = len at *
    go_wp2
    go_ret2
    exact ⟨rfl, hB2⟩
  · have hlast : 0 < lenS u l ∧ bitS l (lenS u l - 1) = false := by
      simp only [notFl, Bool.or_eq_true, decide_eq_true_eq, Bool.and_eq_true, Bool.not_eq_true'] at hf
      rcases hf with h | h
      · exact absurd h h32
      · exact h
    have hH := btHasIn u ((lenS u l : Int) - 1) A m c l w2 hS2 (by omega) (lenS u l - 1) (by omega) (by unfold lenA; rw [if_pos hr]; omega)
    rw [hlast.2] at hH
    have l0 : 0 < lenS u l := hlast.1
    have d1 : decide (32 < (lenS u l : Int)) = false := by simp; omega
    have d3 : decide (32 < lenS u l) = false := by simp; omega
    have d2 : decide (0 < (lenS u l : Int)) = true := by simp; omega
    have d4 : decide (0 < lenS u l) = true := by simp; omega
    generalize lenS u l = len at *
    clear hlast hf
    go_wp2_with fail
    refine hH.mono ?_
    rintro e w3 ⟨rfl, hb3⟩
    have hB3 := hB2.trans (Below.mono hb3 hB2.size)
    go_wp2
    go_ret2
    exact ⟨rfl, hB3⟩

set_option maxRecDepth 100000 in
set_option maxHeartbeats 3200000 in
theorem btFlagsYes (u : Int) (A : Option Addr) (m c : Nat) (l : List UInt8) (w : World) (h : Bs w A m l) (hm : m ≤ 1099511) (hr : rightS u l = true) (hf : notFl l (lenS u l) = false) :
    Calls Try.prog 26 #[.agg #[.int .i64 u, .slice A m c]] w fun e w' => ∃ v, e = .returned (.tuple #[v, .int .i64 0]) ∧ Ov w' w.heap.size 3 v ((flagsS l (lenS u l)).map intV) ∧ Below w.heap.size w w' := by
  obtain ⟨i0, hi, hz0, hz1, hz2⟩ := info_parts int_info
  have hR := btRight u A m c l (w.alloc (.cells #[.int .i64 u, .slice A m c] 25)) (h.below (below_alloc1 _ _)) (by omega)
  rw [hr] at hR
  have hO := Blk.new2 w (.int .i64 u) (.slice A m c) 25
  have hn := hf
  simp only [notFl, Bool.or_eq_false_iff, decide_eq_false_iff_not, Bool.and_eq_false_iff, Bool.not_eq_false'] at hn
  have h32 : lenS u l ≤ 32 := by omega
  have hlast := hn.2
  clear hn hf
  refine (callsIn_wide (n := 5)).1 ?_
  refine callsIn_of_wp_marks Try.func26 rfl trivial ?_ rfl
  simp only [Try.ntmps26, List.size_toArray, List.length_cons, List.length_nil, Nat.reduceAdd, Nat.reduceSub, Array.replicate_succ, Array.replicate_zero, List.push_toArray, List.append_toArray, List.nil_append, List.cons_append]
  gi_wp2
  refine ⟨trivial, ?_⟩
  refine (callsIn_wide.2 hR).mono ?_
  rintro e w1 ⟨rfl, hb⟩
  have hB : Below w.heap.size w w1 := (below_alloc1 _ _).trans (Below.mono hb (by simp))
  have hO1 := hO.below hb
  have hS1 := h.below hB
  obtain ⟨o0, o1, _, _⟩ := hO1.two
  clear hO hR hb
  gi_wp2
  refine ⟨trivial, ?_⟩
  refine (callsIn_wide.2 (btLenYes u A m c l _ hS1 (by omega) hr)).mono ?_
  rintro e w2 ⟨rfl, hb2⟩
  have hO2 := hO1.below hb2
  have hS2 := hS1.below hb2
  have hB2 := hB.trans (Below.mono hb2 hB.size)
  clear o0 o1 hO1 hS1 hB hb2
  obtain ⟨o0, o1, _, _⟩ := hO2.two
  have d1 : decide (32 < (lenS u l : Int)) = false := by simp; omega
  have d3 : decide (32 < lenS u l) = false := by simp; omega
  by_cases hl0 : lenS u l = 0
  · have d2 : decide (0 < (lenS u l : Int)) = false := by simp; omega
    have d4 : decide (0 < lenS u l) = false := by simp; omega
    have hdl := Lib.hid hl0
    obtain ⟨a0, a1, _, _⟩ := (hO2.alloc (.cells #[.slice none 0 0] 38)).two
    gi_wp2
    refine ⟨trivial, ?_⟩
    gi_wp2
    refine ⟨trivial, ?_⟩
    refine (btEach _ u A m c _).mono ?_
    rintro e w3 ⟨rfl, rfl⟩
    gi_wp2
    have bO := Boxed.new w2 38 (.slice none 0 0)
    have hEv := Blk.new2 (w2.alloc (.cells #[.slice none 0 0] 38)) (.int .i64 u) (.slice A m c) 25
    rw [World.size_alloc] at hEv
    have hB0 : Below w2.heap.size w2 ((w2.alloc (.cells #[.slice none 0 0] 38)).alloc (.cells #[.int .i64 u, .slice A m c] 25)) := below_alloc2 _ _ _
    have hSN := (BsN.of hS2).keep hB0
    have hwle : w.heap.size ≤ w2.heap.size := hB2.size
    refine wpIn_rangeFunc_ownG rfl (by omega) (gf := 62) (lb := #[.pointer (some ⟨w2.heap.size + 1, 0, none⟩)]) rfl trivial (enters_of Try.func62 (by kernel_rfl) rfl)
      (btEachStops 4 (by omega) (w2.heap.size + 1) w2.heap.size u A m c l hm hr _ hEv hSN hB0.size) Kp5.trans
      (fun W1 lb o o' hlb ho hnc hnw => ⟨belowK_b (w := w2) (Nat.le_refl _) W1 lb o o' (by simp at hlb; omega) ho hnc hnw, World.putObj_heap_other (by simp at hlb; omega)⟩) (Below.refl _ _) (fun _ => rfl)
      (fun pre W1 => (∃ v, Boxed W1 w2.heap.size 38 v ∧ W1.ownsRow w2.heap.size 3 1 v (onesOf pre).length ((onesOf pre).map (Value.int .i64)) ∧ True) ∧ (Below w2.heap.size w2 W1 ∧ Blk W1 (w2.heap.size + 1) 25 [.int .i64 u, .slice A m c]))
      (fun _ _ _ => False)
      (OwnFrom.and (Own.from (holdsRow_own w2.heap.size w2.heap.size 38 3 1 (fun pre => (onesOf pre).length) (fun pre => (onesOf pre).map (Value.int .i64)) (fun pre v => True)) _) (OwnFrom.and (ownFrom_below (Nat.le_refl _) (by simp; omega)) (Own.from (blk_own _ _ _) _)))
      (fun _ _ _ _ _ hs _ _ => hs)
      ⟨⟨_, bO.alloc _, World.ownsRow_nil _ _ _ _, trivial⟩, hB0, hEv⟩
      (fun x => { tmps := #[Value.agg #[Value.int IntKind.i64 u, Value.slice A m c], Value.pointer (some ⟨w.heap.size, 0, none⟩), Value.slice none 0 0, Value.int IntKind.i64 0, Value.int IntKind.i64 0, Value.pointer (some ⟨w2.heap.size, 0, none⟩), Value.int IntKind.i64 (x.1 : Int), Value.bool x.2, Value.agg #[Value.int IntKind.i64 u, Value.slice A m c], Value.bool true, Value.bool false, Value.agg #[Value.int IntKind.i64 u, Value.slice A m c], Value.int IntKind.i64 0, Value.int IntKind.i64 0, Value.bool false, Value.bool false, Value.int IntKind.i64 0, Value.bool false, Value.bool false, undef, undef, undef, undef, undef, Value.bool false, Value.bool false, Value.agg #[Value.int IntKind.i64 u, Value.slice A m c], Value.func (.func 62) #[] #[Value.pointer (some ⟨w2.heap.size + 1, 0, none⟩)], Value.int IntKind.i64 (x.1 : Int), Value.bool x.2, undef, undef, undef, undef, undef, undef], defers := [] }) ?assign ?body ?done ?stop
    case assign =>
      intro lp x W1 K hK
      gi_wp2
      exact hK
    case body =>
      rintro lp pre x W1 _ hlt
      exfalso
      have := hdl.out
      omega
    case done =>
      rintro D ys W1 hD rfl ⟨⟨v, hv, hrow, _⟩, hBw, hEw⟩ hK
      have hc := hv.cell
      rw [ones_upto] at hrow
      gi_wp2
      refine ⟨by simp, .inl ⟨_, _, rfl, run_takeDeferred hK, ?_⟩⟩
      have hOv : Ov (W1.putObj D (.deferred none)) w.heap.size 3 v ((flagsS l (lenS u l)).map intV) := by
        refine Ov.mono ?_ hwle
        unfold Ov
        rw [List.length_map]
        exact ownsRow_putObj hrow _ hK rfl
      have hBv : Below w.heap.size w (W1.putObj D (.deferred none)) := hB2.trans (Below.mono (hBw.trans (belowK_b (w := w2) (Nat.le_refl _) W1 D _ _ (by simp at hD; omega) hK rfl rfl)) hwle)
      exact ⟨_, results_tmp2 rfl _ _ _, v, rfl, hOv, hBv⟩
    case stop =>
      rintro D c pre W1 _ _ h _
      exact h.elim
  · have hH := btHasIn u ((lenS u l : Int) - 1) A m c l w2 hS2 (by omega) (lenS u l - 1) (by omega) (by unfold lenA; rw [if_pos hr]; omega)
    have hb1 : bitS l (lenS u l - 1) = true := by
      rcases hlast with h | h
      · omega
      · exact h
    rw [hb1] at hH
    have d2 : decide (0 < (lenS u l : Int)) = true := by simp; omega
    have d4 : decide (0 < lenS u l) = true := by simp; omega
    have d5 : 0 < lenS u l := by omega
    clear hlast hb1
    obtain ⟨len, hlen⟩ : ∃ len, lenS u l = len := ⟨_, rfl⟩
    rw [hlen] at hH d1 d2 d3 d4 d5 h32 hl0
    have HLEN := Lib.hid hlen
    rw [hlen]
    clear hlen
    gi_wp2
    refine ⟨trivial, ?_⟩
    refine (callsIn_wide.2 hH).mono ?_
    rintro e w4 ⟨rfl, hb4⟩
    have hO4 := hO2.below hb4
    have hS4 := hS2.below hb4
    have hB4 := hB2.trans (Below.mono hb4 hB2.size)
    clear o0 o1 hO2 hS2 hB2 hb4
    obtain ⟨o0, o1, _, _⟩ := hO4.two
    obtain ⟨a0, a1, _, _⟩ := (hO4.alloc (.cells #[.slice none 0 0] 38)).two
    gi_wp2
    refine ⟨trivial, ?_⟩
    refine (btEach _ u A m c _).mono ?_
    rintro e w3 ⟨rfl, rfl⟩
    gi_wp2
    have bO := Boxed.new w4 38 (.slice none 0 0)
    have hEv := Blk.new2 (w4.alloc (.cells #[.slice none 0 0] 38)) (.int .i64 u) (.slice A m c) 25
    rw [World.size_alloc] at hEv
    have hB0 : Below w4.heap.size w4 ((w4.alloc (.cells #[.slice none 0 0] 38)).alloc (.cells #[.int .i64 u, .slice A m c] 25)) := below_alloc2 _ _ _
    have hSN := (BsN.of hS4).keep hB0
    have hwle : w.heap.size ≤ w4.heap.size := hB4.size
    refine wpIn_rangeFunc_ownG rfl (by omega) (gf := 62) (lb := #[.pointer (some ⟨w4.heap.size + 1, 0, none⟩)]) rfl trivial (enters_of Try.func62 (by kernel_rfl) rfl)
      (btEachStops 4 (by omega) (w4.heap.size + 1) w4.heap.size u A m c l hm hr _ hEv hSN hB0.size) Kp5.trans
      (fun W1 lb o o' hlb ho hnc hnw => ⟨belowK_b (w := w4) (Nat.le_refl _) W1 lb o o' (by simp at hlb; omega) ho hnc hnw, World.putObj_heap_other (by simp at hlb; omega)⟩) (Below.refl _ _) (fun _ => rfl)
      (fun pre W1 => (∃ v, Boxed W1 w4.heap.size 38 v ∧ W1.ownsRow w4.heap.size 3 1 v (onesOf pre).length ((onesOf pre).map (Value.int .i64)) ∧ True) ∧ (Below w4.heap.size w4 W1 ∧ Blk W1 (w4.heap.size + 1) 25 [.int .i64 u, .slice A m c]))
      (fun _ _ _ => False)
      (OwnFrom.and (Own.from (holdsRow_own w4.heap.size w4.heap.size 38 3 1 (fun pre => (onesOf pre).length) (fun pre => (onesOf pre).map (Value.int .i64)) (fun pre v => True)) _) (OwnFrom.and (ownFrom_below (Nat.le_refl _) (by simp; omega)) (Own.from (blk_own _ _ _) _)))
      (fun _ _ _ _ _ hs _ _ => hs)
      ⟨⟨_, bO.alloc _, World.ownsRow_nil _ _ _ _, trivial⟩, hB0, hEv⟩
      (fun x => { tmps := #[Value.agg #[Value.int IntKind.i64 u, Value.slice A m c], Value.pointer (some ⟨w.heap.size, 0, none⟩), Value.slice none 0 0, Value.int IntKind.i64 0, Value.int IntKind.i64 ↑len, Value.pointer (some ⟨w4.heap.size, 0, none⟩), Value.int IntKind.i64 (x.1 : Int), Value.bool x.2, Value.agg #[Value.int IntKind.i64 u, Value.slice A m c], Value.bool true, Value.bool false, Value.agg #[Value.int IntKind.i64 u, Value.slice A m c], Value.int IntKind.i64 ↑len, Value.int IntKind.i64 ↑len, Value.bool false, Value.bool false, Value.int IntKind.i64 ↑len, Value.bool true, Value.bool true, Value.agg #[Value.int IntKind.i64 u, Value.slice A m c], Value.int IntKind.i64 ↑len, Value.int IntKind.i64 (↑len - 1), Value.bool true, Value.bool false, Value.bool false, Value.bool false, Value.agg #[Value.int IntKind.i64 u, Value.slice A m c], Value.func (.func 62) #[] #[Value.pointer (some ⟨w4.heap.size + 1, 0, none⟩)], Value.int IntKind.i64 (x.1 : Int), Value.bool x.2, undef, undef, undef, undef, undef, undef], defers := [] }) ?assign ?body ?done ?stop
    case assign =>
      intro lp x W1 K hK
      gi_wp2
      exact hK
    case body =>
      rintro lp pre ⟨xj, xb⟩ W1 ⟨⟨v, hv, hrow, _⟩, hBw, hEw⟩ hlt
      have hc := hv.cell
      have hpl := ones_len pre
      have hEr : v.ownBlock ≠ some (w4.heap.size + 1) := hEw.notRow hrow (by decide)
      have hsz := hBw.size
      have hp40 : (onesOf pre).length + 1 ≤ 40 := by have := HLEN.out; omega
      cases xb
      · gi_wp2
        exact ⟨KeepsFrom.refl _ _, ⟨Below.refl _ _, rfl⟩, ⟨v, hv, by rw [ones_miss]; exact hrow, trivial⟩, hBw, hEw⟩
      · gi_wp2_with (gi_at_builtin; refine wpListIn_append_own _ rfl _ _ 38 rfl w4.heap.size 3 i0 (.int .i64 0) 1 8 Try.underlying38 hi hz0 hz1 hz2 rfl (by decide) _ _ _ rfl (hrow.alloc _) ⟨W1.heap.size, 0, none⟩ 1 1 [.int .i64 (xj : Int)] rfl rfl (cell_one_new _ _ _) (by simp [Value.oneCell']) (by unfold maxLen; omega) (by omega) (by simp; omega) ?_; intro v' w7 hown' hgrow _; obtain ⟨g', cap', rfl⟩ := ownsRow_succ hown'; obtain ⟨hv1, hv2, hr2, hk2, hb2⟩ := hv.appended (by decide) hrow hBw.size (Nat.le_refl _) hown' hgrow; have hc1 := hv1.cell; have hf1 := hv1.frozen)
        have hE7 : Blk w7 (w4.heap.size + 1) 25 [.int .i64 u, .slice A m c] := (hgrow.block _ (by have := hEw.lt; simp; omega) (fun e => hEr e.symm)).trans (hEw.alloc _)
        have hE8 := hE7.setOther (r := w4.heap.size) (by omega) 0 (.slice (some ⟨g', 0, none⟩) ((onesOf pre).length + 1) cap')
        exact ⟨hk2.from _, ⟨hb2, hE8.trans hEw.symm⟩, ⟨_, hv2, by rw [ones_hit]; simpa using hr2, trivial⟩, hBw.trans hb2, hE8⟩
    case done =>
      rintro D ys W1 hD rfl ⟨⟨v, hv, hrow, _⟩, hBw, hEw⟩ hK
      have hc := hv.cell
      rw [ones_upto] at hrow
      gi_wp2
      refine ⟨by simp, .inl ⟨_, _, rfl, run_takeDeferred hK, ?_⟩⟩
      have hOv : Ov (W1.putObj D (.deferred none)) w.heap.size 3 v ((flagsS l (lenS u l)).map intV) := by
        refine Ov.mono ?_ hwle
        unfold Ov
        rw [List.length_map]
        exact ownsRow_putObj hrow _ hK rfl
      have hBv : Below w.heap.size w (W1.putObj D (.deferred none)) := hB4.trans (Below.mono (hBw.trans (belowK_b (w := w4) (Nat.le_refl _) W1 D _ _ (by simp at hD; omega) hK rfl rfl)) hwle)
      exact ⟨_, results_tmp2 rfl _ _ _, v, rfl, hOv, hBv⟩
    case stop =>
      rintro D c pre W1 _ _ h _
      exact h.elim

end Go.Proofs.Ytjcddbcokiaehaa
