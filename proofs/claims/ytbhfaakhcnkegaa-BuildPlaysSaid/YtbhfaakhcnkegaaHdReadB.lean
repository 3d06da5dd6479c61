/-
  The contracts of the project's head: Read.
-/
import Derived.Test.YtbhfaakhcnkegaaHdRead
namespace Go.Proofs.Ytbhfaakhcnkegaa
open Go.RowKit
set_option linter.unusedVariables false
set_option linter.unusedSimpArgs false
set_option maxRecDepth 4000

/-- What Read hands back, kept. -/
def HeadKept (w : World) (g : Nat) (s : Value) (l : List UInt8) (k : Nat) (e : Ending) (w' : World) : Prop :=
  e = .returned (.tuple #[.agg #[.int .i64 (rHead l k).1.cls, .int .i64 (rHead l k).1.num, .bool (rHead l k).1.made, .int .i64 (rHead l k).2.1], .int .i64 (rHead l k).2.2.2]) ∧ Cur w' g s l (rHead l k).2.2.1 ∧ Only g w w'

set_option maxHeartbeats 1600000 in
theorem hdKeptHead (g k : Nat) (l : List UInt8) (w : World) {s : Value} (h : Cur w g s l k) :
    Calls Try.prog 76 #[.pointer (some ⟨g, 0, none⟩), .func (.func 77) #[] #[]] w (HeadKept w g s l k) := by
  have hg := h.lt
  have hno := rHead_no l k
  have h1 := h.below (below_alloc1 w (blk4 0 0 false 0))
  have o1 := Own4.new w (Value.int IntKind.i64 0) (Value.int IntKind.i64 0) (Value.bool false) (Value.int IntKind.i64 0) 119
  have b1 : Only g w (w.alloc (blk4 0 0 false 0)) := Only.of_below (below_alloc1 _ _)
  go_enter Try.func76, Try.ntmps76
  go_wp2_with fail
  refine (curAt g k l _ h1).mono ?_
  rintro e w1 ⟨rfl, rfl⟩
  go_wp2_with fail
  refine (hdReadHeader g k l _ h1).mono ?_
  rintro e w2 ⟨⟨tc, tn, tm⟩, n, E, k', rfl, hc2, hk2, hO2, hE, hok⟩
  have o2 := (o1.only hO2 (by omega)).below (below_alloc1 w2 (blk4 tc tn tm n))
  have hO3 := (b1.trans hO2).trans (Only.of_below (below_alloc1 w2 (blk4 tc tn tm n)))
  have hc3 := hc2.below (below_alloc1 w2 (blk4 tc tn tm n))
  have HE := Lib.hid hE
  have HOK := Lib.hid hok
  have HNO := Lib.hid hno
  clear hE hok hno h1 b1 hO2 hc2
  by_cases q : E = 0
  · subst q
    have hR := Lib.hid (HOK.out rfl)
    obtain ⟨⟨r0, r1, r2, f0, f1, f2⟩, r3, f3⟩ := o2
    clear o1
    go_wp2
    refine bodyPost_ret (v := .tuple #[.agg #[.int .i64 tc, .int .i64 tn, .bool tm, .int .i64 n], .int .i64 0]) (by simp [results, Try.results76, go_sem, r0, r1, r2, r3]) rfl ?_
    have hset := (Only.refl w.heap.size (w2.alloc (blk4 tc tn tm n))).set4 (.int .i64 tc) (.int .i64 tn) (.bool tm) (.int .i64 n)
    unfold HeadKept
    rw [hR.out]
    exact ⟨rfl, Cur.frame h hO3 hc3 hset (by intro b e; cases e; omega), Only.grown hO3 hset (by intro b e; cases e; omega)⟩
  · have hR := Lib.hid (HNO.out (by rw [HE.out]; exact q))
    rw [HE.out] at hR
    have e1 : (E != 0) = true := by simp; exact q
    have e2 : (E == 0) = false := by simp; exact q
    go_wp2_with fail
    refine (curBack g k' k _ l _ hc3 hk2 rfl).mono ?_
    rintro e w4 ⟨rfl, hc4, hO4⟩
    have o4 := (o2.only hO4 (by omega)).below (below_alloc1 w4 (blk4 0 0 false 0))
    have hO5 := (hO3.trans hO4).trans (Only.of_below (below_alloc1 w4 (blk4 0 0 false 0)))
    have hc5 := hc4.below (below_alloc1 w4 (blk4 0 0 false 0))
    obtain ⟨⟨r0, r1, r2, f0, f1, f2⟩, r3, f3⟩ := o4
    clear o2 hO4 hc4 hO3 hc3 o1
    go_wp2
    refine bodyPost_ret (v := .tuple #[.agg #[.int .i64 0, .int .i64 0, .bool false, .int .i64 0], .int .i64 E]) (by simp [results, Try.results76, go_sem, r0, r1, r2, r3]) rfl ?_
    have hset := (Only.refl w.heap.size (w4.alloc (blk4 0 0 false 0))).set4 (.int .i64 0) (.int .i64 0) (.bool false) (.int .i64 0)
    unfold HeadKept
    rw [hR.out]
    exact ⟨rfl, Cur.frame h hO5 hc5 hset (by intro b e; cases e; omega), Only.grown hO5 hset (by intro b e; cases e; omega)⟩

/-- What Read hands back. -/
def HeadOk (w : World) (g : Nat) (s : Value) (l : List UInt8) (k : Nat) (e : Ending) (w' : World) : Prop :=
  e = .returned (.tuple #[(rHead l k).1.v, .int .i64 (rHead l k).2.1, .int .i64 (rHead l k).2.2.2]) ∧ Cur w' g s l (rHead l k).2.2.1 ∧ Only g w w'

set_option maxHeartbeats 1600000 in
theorem hdRead (g k : Nat) (l : List UInt8) (w : World) {s : Value} (h : Cur w g s l k) :
    Calls Try.prog 59 #[.pointer (some ⟨g, 0, none⟩)] w (HeadOk w g s l k) := by
  have hg := h.lt
  have h1 := h.below (below_alloc1 w (blk3 0 0 false))
  have o1 := Own3.new w (Value.int IntKind.i64 0) (Value.int IntKind.i64 0) (Value.bool false) 36
  have b1 : Only g w (w.alloc (blk3 0 0 false)) := Only.of_below (below_alloc1 _ _)
  go_enter Try.func59, Try.ntmps59
  go_wp2_with fail
  refine (hdKeptHead g k l _ h1).mono ?_
  rintro e w2 ⟨rfl, hc2, hO2⟩
  have hT : Hid (HeadOk w g s l k = fun e w' => e = .returned (.tuple #[(rHead l k).1.v, .int .i64 (rHead l k).2.1, .int .i64 (rHead l k).2.2.2]) ∧ Cur w' g s l (rHead l k).2.2.1 ∧ Only g w w') := rfl
  generalize rHead l k = T at *
  obtain ⟨⟨tc, tn, tm⟩, n, k', E⟩ := T
  simp only at hc2
  have hsz : w.heap.size < w2.heap.size := by have := hO2.size; simp at this; omega
  have hO3 := (b1.trans hO2).trans (Only.of_below (below_alloc1 w2 (blk4 tc tn tm n)))
  have hc3 := hc2.below (below_alloc1 w2 (blk4 tc tn tm n))
  obtain ⟨⟨t0, t1, t2, _, _, _⟩, t3, _⟩ := Own4.new w2 (Value.int IntKind.i64 tc) (Value.int IntKind.i64 tn) (Value.bool tm) (Value.int IntKind.i64 n) 119
  obtain ⟨r0, r1, r2, f0, f1, f2⟩ := (o1.only hO2 (by omega)).below (below_alloc1 w2 (blk4 tc tn tm n))
  clear o1 h1 hO2 hc2 b1
  have HSZ := Lib.hid hsz
  have hne : w.heap.size ≠ w2.heap.size := by omega
  clear hsz
  go_wp2
  go_region
  go_wp2
  refine bodyPost_ret (v := .tuple #[Tg.v ⟨tc, tn, tm⟩, .int .i64 n, .int .i64 E]) (by simp [results, Try.results59, go_sem, Tg.v, r0, r1, r2]) rfl ?_
  have hset := ((Only.refl w.heap.size (w2.alloc (blk4 tc tn tm n))).set3 (.int .i64 tc) (.int .i64 tn) (.bool tm)).drew
  rw [hT.out]
  exact ⟨rfl, Cur.frame h hO3 hc3 hset (by intro b e; cases e; omega), Only.grown hO3 hset (by intro b e; cases e; omega)⟩

/-! ### a nil cursor -/

theorem below_set4 {B R : Nat} {w W : World} (hB : Below B w W) (hs : B ≤ W.heap.size) (hR : B ≤ R) (x y z u : Value) : Below B w ((((W.setCell ⟨R, 0, none⟩ x).setCell ⟨R, 1, none⟩ y).setCell ⟨R, 2, none⟩ z).setCell ⟨R, 3, none⟩ u) :=
  Only.below ((Only.refl R W).set4 x y z u) hB hR hs

set_option maxHeartbeats 800000 in
theorem hdReadHeader0 (w : World) :
    Calls Try.prog 77 #[.pointer none] w fun e w' => e = .returned (.tuple #[.agg #[.int .i64 0, .int .i64 0, .bool false, .int .i64 0], .int .i64 17]) ∧ Below w.heap.size w w' := by
  have o1 := Own4.new w (Value.int IntKind.i64 0) (Value.int IntKind.i64 0) (Value.bool false) (Value.int IntKind.i64 0) 119
  have hB0 := below_alloc1 w (blk4 0 0 false 0)
  go_enter Try.func77, Try.ntmps77
  go_wp2_with fail
  refine (hdReadTag0 _).mono ?_
  rintro e w2 ⟨rfl, hB⟩
  have hB1 := hB0.trans (Below.mono hB (by simp))
  have hB2 := hB1.alloc hB1.size (blk3 0 0 false)
  obtain ⟨⟨r0, r1, r2, f0, f1, f2⟩, r3, f3⟩ := (o1.below hB).below (below_alloc1 w2 (blk3 0 0 false))
  clear o1 hB0 hB hB1
  unfold Tg.v tg0
  go_wp2
  refine bodyPost_ret (v := .tuple #[.agg #[.int .i64 0, .int .i64 0, .bool false, .int .i64 0], .int .i64 17]) (by simp [results, Try.results77, go_sem, r0, r1, r2, r3]) rfl ?_
  exact ⟨rfl, below_set4 hB2 hB2.size (Nat.le_refl _) _ _ _ _⟩

set_option maxHeartbeats 800000 in
theorem hdKeptHead0 (w : World) :
    Calls Try.prog 76 #[.pointer none, .func (.func 77) #[] #[]] w fun e w' => e = .returned (.tuple #[.agg #[.int .i64 0, .int .i64 0, .bool false, .int .i64 0], .int .i64 17]) ∧ Below w.heap.size w w' := by
  have o1 := Own4.new w (Value.int IntKind.i64 0) (Value.int IntKind.i64 0) (Value.bool false) (Value.int IntKind.i64 0) 119
  have hB0 := below_alloc1 w (blk4 0 0 false 0)
  go_enter Try.func76, Try.ntmps76
  go_wp2_with fail
  refine (curAt0 _).mono ?_
  rintro e w1 ⟨rfl, rfl⟩
  go_wp2_with fail
  refine (hdReadHeader0 _).mono ?_
  rintro e w2 ⟨rfl, hB⟩
  have o2 := ((o1.below hB).below (below_alloc1 w2 (blk4 0 0 false 0)))
  have hB1 := hB0.trans (Below.mono hB (by simp))
  have hB2 := hB1.alloc hB1.size (blk4 0 0 false 0)
  clear o1 hB0 hB hB1
  go_wp2_with fail
  refine (curBack0 _ _).mono ?_
  rintro e w3 ⟨rfl, rfl⟩
  have o3 := o2.below (below_alloc1 _ (blk4 0 0 false 0))
  have hB3 := hB2.alloc hB2.size (blk4 0 0 false 0)
  obtain ⟨⟨r0, r1, r2, f0, f1, f2⟩, r3, f3⟩ := o3
  clear o2
  go_wp2
  refine bodyPost_ret (v := .tuple #[.agg #[.int .i64 0, .int .i64 0, .bool false, .int .i64 0], .int .i64 17]) (by simp [results, Try.results76, go_sem, r0, r1, r2, r3]) rfl ?_
  exact ⟨rfl, below_set4 hB3 hB3.size (Nat.le_refl _) _ _ _ _⟩

set_option maxHeartbeats 800000 in
theorem hdRead0 (w : World) :
    Calls Try.prog 59 #[.pointer none] w fun e w' => e = .returned (.tuple #[tg0.v, .int .i64 0, .int .i64 17]) ∧ Below w.heap.size w w' := by
  have o1 := Own3.new w (Value.int IntKind.i64 0) (Value.int IntKind.i64 0) (Value.bool false) 36
  have hB0 := below_alloc1 w (blk3 0 0 false)
  go_enter Try.func59, Try.ntmps59
  go_wp2_with fail
  refine (hdKeptHead0 _).mono ?_
  rintro e w2 ⟨rfl, hB⟩
  have hB1 := (hB0.trans (Below.mono hB (by simp)))
  have hB2 := hB1.alloc hB1.size (blk4 0 0 false 0)
  have hsz : w.heap.size < w2.heap.size := by have := hB.size; simp at this; omega
  have hne : w.heap.size ≠ w2.heap.size := by omega
  obtain ⟨⟨t0, t1, t2, _, _, _⟩, t3, _⟩ := Own4.new w2 (Value.int IntKind.i64 0) (Value.int IntKind.i64 0) (Value.bool false) (Value.int IntKind.i64 0) 119
  obtain ⟨r0, r1, r2, f0, f1, f2⟩ := (o1.below hB).below (below_alloc1 w2 (blk4 0 0 false 0))
  clear o1 hB0 hB hsz hB1
  go_wp2
  go_region
  go_wp2
  refine bodyPost_ret (v := .tuple #[tg0.v, .int .i64 0, .int .i64 17]) (by simp [results, Try.results59, go_sem, Tg.v, tg0, r0, r1, r2]) rfl ?_
  exact ⟨rfl, (below_set3 hB2 hB2.size (Nat.le_refl _) _ _ _).drew⟩

end Go.Proofs.Ytbhfaakhcnkegaa
