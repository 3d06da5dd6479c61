/-
  The contracts of the project's text: Signs.
-/
import Derived.Test.YtoklonnajpjgjaaDoorTe
namespace Go.Proofs.YtoklonnajpjgjaaDoor
open Go.RowKit Go.Shelf
set_option linter.unusedVariables false
set_option linter.unusedSimpArgs false
set_option maxRecDepth 4000
attribute [local go_sem] Oper.semAt_some

theorem int_info6 : (Tryd.prog.info? 3).map (fun i => (i.zero, i.size, i.bytes)) = some (some (.int .i64 0), 1, 8) := by kernel_rfl

set_option maxHeartbeats 1600000 in
theorem txSignsNo (k : Int) (A : Option Addr) (m c : Nat) (l : List UInt8) (w : World) (hT : Tb w) (h : Bs w A m l) (hm : m ≤ 1099511) (hmc : m ≤ c) (hr : rightT k l = false) :
    Calls Tryd.prog 11 #[.agg #[.int .i64 k, .slice A m c]] w fun e w' => e = .returned (.tuple #[.slice none 0 0, .int .i64 6]) ∧ Below w.heap.size w w' := by
  have hb0 := below_alloc1 w (.cells #[.int .i64 k, .slice A m c] 25)
  have hR := txRight k A m c l _ (hT.below hb0) (h.below hb0) hm hmc
  rw [hr] at hR
  obtain ⟨o0, o1, _, _⟩ := (Blk.new2 w (.int .i64 k) (.slice A m c) 25).two
  go_enter Tryd.func11, Tryd.ntmps11
  go_wp2_with fail
  refine hR.mono ?_
  rintro e w1 ⟨rfl, hb⟩
  have hB : Below w.heap.size w w1 := hb0.trans (Below.mono hb (by simp))
  clear o0 o1 hR hb hb0 h hT
  go_wp2
  go_ret2
  exact ⟨rfl, hB⟩

/-- The numbers of characters. -/
def vals (pre : List R32) : List Int := pre.map (fun y => y.1)
theorem vals_snoc (pre : List R32) (x : R32) : vals (pre ++ [x]) = vals pre ++ [x.1] := by simp [vals]
theorem vals_length (pre : List R32) : (vals pre).length = pre.length := by simp [vals]
theorem vals_runes (k : Int) (l : List UInt8) : vals (runesR k l) = runesT k l := runesR_val k l

set_option maxRecDepth 100000 in
set_option maxHeartbeats 3200000 in
theorem txSignsYes (k : Int) (A : Option Addr) (m c : Nat) (l : List UInt8) (w : World) (hT : Tb w) (h : Bs w A m l) (hm : m ≤ 1099511) (hmc : m ≤ c) (hr : rightT k l = true) :
    Calls Tryd.prog 11 #[.agg #[.int .i64 k, .slice A m c]] w fun e w' => ∃ v, e = .returned (.tuple #[v, .int .i64 0]) ∧ Ov w' w.heap.size 3 v ((runesT k l).map intV) ∧ Below w.heap.size w w' := by
  obtain ⟨i0, hi, hz0, hz1, hz2⟩ := info_parts int_info6
  have hb0 := below_alloc1 w (.cells #[.int .i64 k, .slice A m c] 25)
  have hR := txRight k A m c l _ (hT.below hb0) (h.below hb0) hm hmc
  rw [hr] at hR
  have hO := Blk.new2 w (.int .i64 k) (.slice A m c) 25
  obtain ⟨o0, o1, _, _⟩ := hO.two
  have hlen : (runesR k l).length ≤ m := by unfold runesR; rw [List.length_map]; have := runesT_length k l; have := h.len; omega
  refine (callsIn_wide (n := 5)).1 ?_
  refine callsIn_of_wp_marks Tryd.func11 rfl trivial ?_ rfl
  simp only [Tryd.ntmps11, List.size_toArray, List.length_cons, List.length_nil, Nat.reduceAdd, Nat.reduceSub, Array.replicate_succ, Array.replicate_zero, List.push_toArray, List.append_toArray, List.nil_append, List.cons_append]
  gi_wp2
  refine ⟨trivial, ?_⟩
  refine (callsIn_wide.2 hR).mono ?_
  rintro e w1 ⟨rfl, hb⟩
  have hB : Below w.heap.size w w1 := hb0.trans (Below.mono hb (by simp))
  have hO1 := hO.below hb
  have hS1 := h.below hB
  have hT1 := hT.below hB
  clear o0 o1 hR hb hb0 h hT hO
  obtain ⟨a0, a1, _, _⟩ := (hO1.alloc (.cells #[.slice none 0 0] 28)).two
  gi_wp2
  refine ⟨trivial, ?_⟩
  refine (txRunes _ k A m c _).mono ?_
  rintro e w3 ⟨rfl, rfl⟩
  gi_wp2
  have bO := Boxed.new w1 28 (.slice none 0 0)
  have hEv := Blk.new2 (w1.alloc (.cells #[.slice none 0 0] 28)) (.int .i64 k) (.slice A m c) 25
  rw [World.size_alloc] at hEv
  have hB0 : Below w1.heap.size w1 ((w1.alloc (.cells #[.slice none 0 0] 28)).alloc (.cells #[.int .i64 k, .slice A m c] 25)) := below_alloc2 _ _ _
  have hSN := (BsN.of hS1).keep hB0
  have hT2 := hT1.below hB0
  have h2n : 2 < w1.heap.size := hT1.lt
  have hwle : w.heap.size ≤ w1.heap.size := hB.size
  have hlenH := Lib.hid hlen
  refine wpIn_rangeFunc_ownG rfl (by omega) (gf := 52) (lb := #[.pointer (some ⟨w1.heap.size + 1, 0, none⟩)]) rfl trivial (enters_of Tryd.func52 (by kernel_rfl) rfl)
    (txRunesStops 4 (by omega) (w1.heap.size + 1) w1.heap.size k A m c l hm hmc h2n _ hEv hSN hT2 hB0.size) Kp6.trans
    (fun W1 lb o o' hlb ho hnc hnw => ⟨belowK_b (w := w1) (Nat.le_refl _) W1 lb o o' (by simp at hlb; omega) ho hnc hnw, World.putObj_heap_other (by simp at hlb; omega)⟩) (Below.refl _ _) (fun _ => rfl)
    (fun pre W1 => (∃ v, Boxed W1 w1.heap.size 28 v ∧ W1.ownsRow w1.heap.size 3 1 v (vals pre).length ((vals pre).map (Value.int .i64)) ∧ True) ∧ (Below w1.heap.size w1 W1 ∧ Blk W1 (w1.heap.size + 1) 25 [.int .i64 k, .slice A m c]))
    (fun _ _ _ => False)
    (OwnFrom.and (Own.from (holdsRow_own w1.heap.size w1.heap.size 28 3 1 (fun pre => (vals pre).length) (fun pre => (vals pre).map (Value.int .i64)) (fun pre v => True)) _) (OwnFrom.and (ownFrom_below (Nat.le_refl _) (by simp; omega)) (Own.from (blk_own _ _ _) _)))
    (fun _ _ _ _ _ hs _ _ => hs)
    ⟨⟨_, bO.alloc _, World.ownsRow_nil _ _ _ _, trivial⟩, hB0, hEv⟩
    (fun x => { tmps := #[Value.agg #[Value.int IntKind.i64 k, Value.slice A m c], Value.pointer (some ⟨w.heap.size, 0, none⟩), Value.slice none 0 0, Value.int IntKind.i64 0, Value.pointer (some ⟨w1.heap.size, 0, none⟩), Value.int IntKind.i32 x.1, Value.agg #[Value.int IntKind.i64 k, Value.slice A m c], Value.bool true, Value.bool false, Value.agg #[Value.int IntKind.i64 k, Value.slice A m c], Value.func (.func 52) #[] #[Value.pointer (some ⟨w1.heap.size + 1, 0, none⟩)], Value.int IntKind.i32 x.1, undef, undef, undef, undef, undef, undef], defers := [] }) ?assign ?body ?done ?stop
  case assign =>
    intro lp x W1 K hK
    gi_wp2
    exact hK
  case body =>
    rintro lp pre x W1 ⟨⟨v, hv, hrow, _⟩, hBw, hEw⟩ hlt
    have hc := hv.cell
    have hpl : (vals pre).length = pre.length := vals_length pre
    have hEr : v.ownBlock ≠ some (w1.heap.size + 1) := hEw.notRow hrow (by decide)
    have hsz := hBw.size
    have hp40 : (vals pre).length + 1 ≤ 1099511 := by have := hlenH.out; omega
    have hwx : IntKind.i64.wrap x.1 = x.1 := by
      have := x.2
      unfold IntKind.wrap; simp [IntKind.bits, IntKind.signed]; omega
    have hsn := Lib.hid (vals_snoc pre x)
    clear hO1 a0 a1 hEv hB0 hT2 hSN hT1 hS1 bO hpl
    generalize vals pre = vs at *
    generalize x.1 = xv at *
    gi_wp2_with (gi_at_builtin; refine wpListIn_append_own _ rfl _ _ 28 rfl w1.heap.size 3 i0 (.int .i64 0) 1 8 Tryd.underlying28 hi hz0 hz1 hz2 rfl (by decide) _ _ _ rfl (hrow.alloc _) ⟨W1.heap.size, 0, none⟩ 1 1 [.int .i64 xv] rfl rfl (cell_one_new _ _ _) (by simp [Value.oneCell']) (by unfold maxLen; omega) (by omega) (by simp; omega) ?_; intro v' w7 hown' hgrow _; obtain ⟨g', cap', rfl⟩ := ownsRow_succ hown'; obtain ⟨hv1, hv2, hr2, hk2, hb2⟩ := hv.appended (by decide) hrow hBw.size (Nat.le_refl _) hown' hgrow; have hc1 := hv1.cell; have hf1 := hv1.frozen)
    have hE7 : Blk w7 (w1.heap.size + 1) 25 [.int .i64 k, .slice A m c] := (hgrow.block _ (by have := hEw.lt; simp; omega) (fun e => hEr e.symm)).trans (hEw.alloc _)
    have hE8 := hE7.setOther (r := w1.heap.size) (by omega) 0 (.slice (some ⟨g', 0, none⟩) (vs.length + 1) cap')
    exact ⟨hk2.from _, ⟨hb2, hE8.trans hEw.symm⟩, ⟨_, hv2, by rw [hsn.out]; simpa using hr2, trivial⟩, hBw.trans hb2, hE8⟩
  case done =>
    rintro D ys W1 hD rfl ⟨⟨v, hv, hrow, _⟩, hBw, hEw⟩ hK
    have hc := hv.cell
    rw [vals_runes] at hrow
    gi_wp2
    refine ⟨by simp, .inl ⟨_, _, rfl, run_takeDeferred hK, ?_⟩⟩
    have hOv : Ov (W1.putObj D (.deferred none)) w.heap.size 3 v ((runesT k l).map intV) := by
      refine Ov.mono ?_ hwle
      unfold Ov
      rw [List.length_map]
      exact ownsRow_putObj hrow _ hK rfl
    have hBv : Below w.heap.size w (W1.putObj D (.deferred none)) := hB.trans (Below.mono (hBw.trans (belowK_b (w := w1) (Nat.le_refl _) W1 D _ _ (by simp at hD; omega) hK rfl rfl)) hwle)
    exact ⟨_, results_tmp2 rfl _ _ _, v, rfl, hOv, hBv⟩
  case stop =>
    rintro D c pre W1 _ _ h _
    exact h.elim
end Go.Proofs.YtoklonnajpjgjaaDoor
