/-
  The contracts of the project's head: ReadTag, which goes back with an error.
-/
import Derived.Test.YtbhfaakhcnkegaaHdTagB
namespace Go.Proofs.Ytbhfaakhcnkegaa
open Go.RowKit
set_option linter.unusedVariables false
set_option linter.unusedSimpArgs false
set_option maxRecDepth 4000

/-- What ReadTag hands back. -/
def TagOk (w : World) (g : Nat) (s : Value) (l : List UInt8) (k : Nat) (e : Ending) (w' : World) : Prop :=
  e = .returned (.tuple #[(rTag l k).1.v, .int .i64 (rTag l k).2.2]) ∧ Cur w' g s l (rTag l k).2.1 ∧ Only g w w'

abbrev blk3 (a b : Int) (c : Bool) : Obj := Obj.cells #[Value.int IntKind.i64 a, Value.int IntKind.i64 b, Value.bool c] 36

set_option maxHeartbeats 1600000 in
theorem hdKeptTag (g k : Nat) (l : List UInt8) (w : World) {s : Value} (h : Cur w g s l k) :
    Calls Try.prog 106 #[.pointer (some ⟨g, 0, none⟩), .func (.func 107) #[] #[]] w (TagOk w g s l k) := by
  have hg := h.lt
  have hno := rTag_no l k
  have h1 := h.below (below_alloc1 w (blk3 0 0 false))
  have o1 := Own3.new w (Value.int IntKind.i64 0) (Value.int IntKind.i64 0) (Value.bool false) 36
  have b1 : Only g w (w.alloc (blk3 0 0 false)) := Only.of_below (below_alloc1 _ _)
  go_enter Try.func106, Try.ntmps106
  go_wp2_with fail
  refine (curAt g k l _ h1).mono ?_
  rintro e w1 ⟨rfl, rfl⟩
  go_wp2_with fail
  refine (hdReadTagRaw g k l _ h1).mono ?_
  rintro e w2 ⟨⟨tc, tn, tm⟩, E, k', rfl, hc2, hk2, hO2, hE, hok⟩
  have o2 := (o1.only hO2 (by omega)).below (below_alloc1 w2 (blk3 tc tn tm))
  have hO3 := (b1.trans hO2).trans (Only.of_below (below_alloc1 w2 (blk3 tc tn tm)))
  have hc3 := hc2.below (below_alloc1 w2 (blk3 tc tn tm))
  have HE := Lib.hid hE
  have HOK := Lib.hid hok
  have HNO := Lib.hid hno
  clear hE hok hno h1 b1 hO2 hc2
  unfold Tg.v
  by_cases q : E = 0
  · subst q
    have hR := Lib.hid (HOK.out rfl)
    obtain ⟨r0, r1, r2, f0, f1, f2⟩ := o2
    clear o1
    go_wp2
    refine bodyPost_ret (v := .tuple #[Tg.v ⟨tc, tn, tm⟩, .int .i64 0]) (by simp [results, Try.results106, go_sem, Tg.v, r0, r1, r2]) rfl ?_
    have hset := (Only.refl w.heap.size (w2.alloc (blk3 tc tn tm))).set3 (.int .i64 tc) (.int .i64 tn) (.bool tm)
    unfold TagOk
    rw [hR.out]
    exact ⟨rfl, Cur.frame h hO3 hc3 hset (by intro b e; cases e; omega), Only.grown hO3 hset (by intro b e; cases e; omega)⟩
  · have hR := Lib.hid (HNO.out (by rw [HE.out]; exact q))
    rw [HE.out] at hR
    have e1 : (E != 0) = true := by simp; exact q
    have e2 : (E == 0) = false := by simp; exact q
    go_wp2_with fail
    refine (curBack g k' k _ l _ hc3 hk2 rfl).mono ?_
    rintro e w4 ⟨rfl, hc4, hO4⟩
    have o4 := (o2.only hO4 (by omega)).below (below_alloc1 w4 (blk3 0 0 false))
    have hO5 := (hO3.trans hO4).trans (Only.of_below (below_alloc1 w4 (blk3 0 0 false)))
    have hc5 := hc4.below (below_alloc1 w4 (blk3 0 0 false))
    obtain ⟨r0, r1, r2, f0, f1, f2⟩ := o4
    clear o2 hO4 hc4 hO3 hc3 o1
    go_wp2
    refine bodyPost_ret (v := .tuple #[Tg.v tg0, .int .i64 E]) (by simp [results, Try.results106, go_sem, Tg.v, tg0, r0, r1, r2]) rfl ?_
    have hset := (Only.refl w.heap.size (w4.alloc (blk3 0 0 false))).set3 (.int .i64 0) (.int .i64 0) (.bool false)
    unfold TagOk
    rw [hR.out]
    exact ⟨rfl, Cur.frame h hO5 hc5 hset (by intro b e; cases e; omega), Only.grown hO5 hset (by intro b e; cases e; omega)⟩

set_option maxHeartbeats 1600000 in
theorem hdReadTag (g k : Nat) (l : List UInt8) (w : World) {s : Value} (h : Cur w g s l k) :
    Calls Try.prog 97 #[.pointer (some ⟨g, 0, none⟩)] w (TagOk w g s l k) := by
  have hg := h.lt
  have h1 := h.below (below_alloc1 w (blk3 0 0 false))
  have o1 := Own3.new w (Value.int IntKind.i64 0) (Value.int IntKind.i64 0) (Value.bool false) 36
  have b1 : Only g w (w.alloc (blk3 0 0 false)) := Only.of_below (below_alloc1 _ _)
  go_enter Try.func97, Try.ntmps97
  go_wp2_with fail
  refine (hdKeptTag g k l _ h1).mono ?_
  rintro e w2 ⟨rfl, hc2, hO2⟩
  have hT : Hid (TagOk w g s l k = fun e w' => e = .returned (.tuple #[(rTag l k).1.v, .int .i64 (rTag l k).2.2]) ∧ Cur w' g s l (rTag l k).2.1 ∧ Only g w w') := rfl
  generalize rTag l k = T at *
  obtain ⟨⟨tc, tn, tm⟩, k', E⟩ := T
  simp only at hc2
  obtain ⟨r0, r1, r2, f0, f1, f2⟩ := o1.only hO2 (by omega)
  clear o1 h1
  unfold Tg.v
  go_wp2
  refine bodyPost_ret (v := .tuple #[Tg.v ⟨tc, tn, tm⟩, .int .i64 E]) (by simp [results, Try.results97, go_sem, Tg.v, r0, r1, r2]) rfl ?_
  have hO3 := b1.trans hO2
  have hset := (Only.refl w.heap.size w2).set3 (.int .i64 tc) (.int .i64 tn) (.bool tm)
  rw [hT.out]
  exact ⟨rfl, Cur.frame h hO3 hc2 hset (by intro b e; cases e; omega), Only.grown hO3 hset (by intro b e; cases e; omega)⟩

/-! ### a nil cursor -/

set_option maxHeartbeats 800000 in
theorem hdReadTagRaw0 (w : World) :
    Calls Try.prog 107 #[.pointer none] w fun e w' => e = .returned (.tuple #[tg0.v, .int .i64 17]) ∧ Below w.heap.size w w' := by
  go_enter Try.func107, Try.ntmps107
  go_wp2_with fail
  refine (curByte0 _).mono ?_
  rintro e w1 ⟨rfl, rfl⟩
  go_wp2
  refine bodyPost_ret (v := .tuple #[Tg.v tg0, .int .i64 17]) (by simp [results, Try.results107, go_sem, Tg.v, tg0]) rfl ?_
  exact ⟨rfl, below_alloc1 _ _⟩

set_option maxHeartbeats 800000 in
theorem hdKeptTag0 (w : World) :
    Calls Try.prog 106 #[.pointer none, .func (.func 107) #[] #[]] w fun e w' => e = .returned (.tuple #[tg0.v, .int .i64 17]) ∧ Below w.heap.size w w' := by
  have o1 := Own3.new w (Value.int IntKind.i64 0) (Value.int IntKind.i64 0) (Value.bool false) 36
  have hB0 := below_alloc1 w (blk3 0 0 false)
  go_enter Try.func106, Try.ntmps106
  go_wp2_with fail
  refine (curAt0 _).mono ?_
  rintro e w1 ⟨rfl, rfl⟩
  go_wp2_with fail
  refine (hdReadTagRaw0 _).mono ?_
  rintro e w2 ⟨rfl, hB⟩
  have o2 := ((o1.below hB).below (below_alloc1 w2 (blk3 0 0 false)))
  have hB2 := (hB0.trans (Below.mono hB (by simp))).trans (Below.mono (below_alloc1 w2 (blk3 0 0 false)) (by have := hB.size; simp at this; omega))
  clear o1 hB0 hB
  unfold Tg.v tg0
  go_wp2_with fail
  refine (curBack0 _ _).mono ?_
  rintro e w3 ⟨rfl, rfl⟩
  have o3 := o2.below (below_alloc1 _ (blk3 0 0 false))
  have hB3 := hB2.alloc hB2.size (blk3 0 0 false)
  obtain ⟨r0, r1, r2, f0, f1, f2⟩ := o3
  clear o2
  go_wp2
  refine bodyPost_ret (v := .tuple #[Tg.v tg0, .int .i64 17]) (by simp [results, Try.results106, go_sem, Tg.v, tg0, r0, r1, r2]) rfl ?_
  exact ⟨rfl, below_set3 hB3 hB3.size (Nat.le_refl _) _ _ _⟩

set_option maxHeartbeats 800000 in
theorem hdReadTag0 (w : World) :
    Calls Try.prog 97 #[.pointer none] w fun e w' => e = .returned (.tuple #[tg0.v, .int .i64 17]) ∧ Below w.heap.size w w' := by
  have o1 := Own3.new w (Value.int IntKind.i64 0) (Value.int IntKind.i64 0) (Value.bool false) 36
  have hB0 := below_alloc1 w (blk3 0 0 false)
  go_enter Try.func97, Try.ntmps97
  go_wp2_with fail
  refine (hdKeptTag0 _).mono ?_
  rintro e w2 ⟨rfl, hB⟩
  have hB2 := (hB0.trans (Below.mono hB (by simp)))
  obtain ⟨r0, r1, r2, f0, f1, f2⟩ := o1.below hB
  clear o1 hB0 hB
  unfold Tg.v tg0
  go_wp2
  refine bodyPost_ret (v := .tuple #[Tg.v tg0, .int .i64 17]) (by simp [results, Try.results97, go_sem, Tg.v, tg0, r0, r1, r2]) rfl ?_
  exact ⟨rfl, below_set3 hB2 hB2.size (Nat.le_refl _) _ _ _⟩

end Go.Proofs.Ytbhfaakhcnkegaa
