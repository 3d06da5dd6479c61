/-
  The contracts of the project's head: ReadLength, Read, which go back with an error.
-/
import Derived.Test.YtbhfaakhcnkegaaHdLen
namespace Go.Proofs.Ytbhfaakhcnkegaa
open Go.RowKit
set_option linter.unusedVariables false
set_option linter.unusedSimpArgs false
set_option maxRecDepth 4000

theorem digs_ge (l : List UInt8) (k : Nat) (c : Int) (b : Bool) : ∀ (f i : Nat) (z : Int), k ≤ (digs2 l k c b f i z).2.1
  | 0, i, z => by unfold digs2; split <;> exact Nat.le_refl _
  | f + 1, i, z => by
    have ih := digs_ge l k c b f (i + 1) (128 * z + nth l (k + i) % 128)
    unfold digs2
    split
    · exact Nat.le_refl _
    · split
      · exact Nat.le_refl _
      · split
        · split
          · exact Nat.le_refl _
          · show k ≤ k + i + 1; omega
        · exact ih
theorem rTag_ge (l : List UInt8) (k : Nat) : k ≤ (rTag l k).2.1 := by
  unfold rTag
  split
  · exact Nat.le_refl _
  · split
    · show k ≤ k + 1; omega
    · exact digs_ge _ _ _ _ _ _ _
theorem rLen_ge (l : List UInt8) (k : Nat) : k ≤ (rLen l k).2.1 := by
  unfold rLen
  repeat' split
  all_goals first | exact Nat.le_refl _ | (show k ≤ k + _; omega) | (show k ≤ k + _ + 1; omega)
theorem rHead_no (l : List UInt8) (k : Nat) (h : (rHead l k).2.2.2 ≠ 0) : rHead l k = (tg0, 0, k, (rHead l k).2.2.2) := by
  unfold rHead at *
  split
  · rename_i h1
    rw [if_pos h1] at h
    split
    · rename_i h2; rw [if_pos h2] at h; simp at h
    · rfl
  · rfl

/-- What ReadLength hands back. -/
def LenOk (w : World) (g : Nat) (s : Value) (l : List UInt8) (k : Nat) (e : Ending) (w' : World) : Prop :=
  e = .returned (.tuple #[.int .i64 (rLen l k).1, .int .i64 (rLen l k).2.2]) ∧ Cur w' g s l (rLen l k).2.1 ∧ Only g w w'

set_option maxHeartbeats 1600000 in
theorem hdKeptLen (g k : Nat) (l : List UInt8) (w : World) {s : Value} (h : Cur w g s l k) :
    Calls Try.prog 108 #[.pointer (some ⟨g, 0, none⟩), .func (.func 109) #[] #[]] w (LenOk w g s l k) := by
  have hno := rLen_no l k
  go_enter Try.func108, Try.ntmps108
  go_wp2_with fail
  refine (curAt g k l _ h).mono ?_
  rintro e w1 ⟨rfl, rfl⟩
  go_wp2_with fail
  refine (hdReadLengthRaw g k l _ h).mono ?_
  rintro e w2 ⟨n, E, k', rfl, hc2, hk2, hO2, hE, hok⟩
  have HE := Lib.hid hE
  have HOK := Lib.hid hok
  have HNO := Lib.hid hno
  clear hE hok hno
  by_cases q : E = 0
  · subst q
    have hR := Lib.hid (HOK.out rfl)
    go_wp2
    go_ret2
    unfold LenOk
    rw [hR.out]
    exact ⟨rfl, hc2, hO2⟩
  · have hR := Lib.hid (HNO.out (by rw [HE.out]; exact q))
    rw [HE.out] at hR
    have e1 : (E != 0) = true := by simp; exact q
    have e2 : (E == 0) = false := by simp; exact q
    go_wp2_with fail
    refine (curBack g k' k _ l _ hc2 hk2 rfl).mono ?_
    rintro e w4 ⟨rfl, hc4, hO4⟩
    go_wp2
    go_ret2
    unfold LenOk
    rw [hR.out]
    exact ⟨rfl, hc4, hO2.trans hO4⟩

set_option maxHeartbeats 800000 in
theorem hdReadLength (g k : Nat) (l : List UInt8) (w : World) {s : Value} (h : Cur w g s l k) :
    Calls Try.prog 98 #[.pointer (some ⟨g, 0, none⟩)] w (LenOk w g s l k) := by
  go_enter Try.func98, Try.ntmps98
  go_wp2_with fail
  refine (hdKeptLen g k l _ h).mono ?_
  rintro e w2 ⟨rfl, hc2, hO2⟩
  go_wp2
  go_ret2
  exact ⟨rfl, hc2, hO2⟩

/-! ### both -/

/-- A struct of four that the walk itself made. -/
def Own4 (W : World) (R : Nat) (a b c d : Value) : Prop :=
  Own3 W R a b c ∧ W.cell? ⟨R, 3, none⟩ = some d ∧ W.frozen? ⟨R, 3, none⟩ = false
theorem Own4.new (w : World) (a b c d : Value) (t : TypeId) : Own4 (w.alloc (.cells #[a, b, c, d] t)) w.heap.size a b c d := by
  have hb := heap_alloc_new w (.cells #[a, b, c, d] t)
  exact ⟨⟨by rw [blk_cell hb]; rfl, by rw [blk_cell hb]; rfl, by rw [blk_cell hb]; rfl, blk_frozen hb _, blk_frozen hb _, blk_frozen hb _⟩, by rw [blk_cell hb]; rfl, blk_frozen hb _⟩
theorem Own4.below {W W' : World} {R : Nat} {a b c d : Value} (h : Own4 W R a b c d) (hb : Below W.heap.size W W') : Own4 W' R a b c d := by
  obtain ⟨h3, h0, f0⟩ := h
  exact ⟨h3.below hb, (hb.cell (World.block_lt_of_cell? W _ h0)).trans h0, (hb.frozen (World.block_lt_of_cell? W _ h0)).trans f0⟩
theorem Own4.only {W W' : World} {R g : Nat} {a b c d : Value} (h : Own4 W R a b c d) (hb : Only g W W') (hne : R ≠ g) : Own4 W' R a b c d := by
  obtain ⟨h3, h0, f0⟩ := h
  have hlt : R < W.heap.size := World.block_lt_of_cell? W _ h0
  have hbl := hb.block R hlt (by simpa using hne)
  refine ⟨h3.only hb hne, hb.cell h0 (by simpa using hne), ?_⟩
  rw [← f0]; simp only [World.frozen?, hbl]

/-- What reading both hands back, ahead of going back. -/
def HeadRaw (w : World) (g : Nat) (s : Value) (l : List UInt8) (k : Nat) (e : Ending) (w' : World) : Prop :=
  ∃ (t : Tg) (n E : Int) (k' : Nat), e = .returned (.tuple #[.agg #[.int .i64 t.cls, .int .i64 t.num, .bool t.made, .int .i64 n], .int .i64 E]) ∧ Cur w' g s l k' ∧ k ≤ k' ∧ Only g w w' ∧
    (rHead l k).2.2.2 = E ∧ (E = 0 → rHead l k = (t, n, k', 0))
abbrev blk4 (a b : Int) (c : Bool) (d : Int) : Obj := Obj.cells #[Value.int IntKind.i64 a, Value.int IntKind.i64 b, Value.bool c, Value.int IntKind.i64 d] 119
theorem Only.set4 {R : Nat} {w W : World} (h : Only R w W) (x y z u : Value) : Only R w ((((W.setCell ⟨R, 0, none⟩ x).setCell ⟨R, 1, none⟩ y).setCell ⟨R, 2, none⟩ z).setCell ⟨R, 3, none⟩ u) :=
  (h.set3 x y z).setCell rfl u

set_option maxHeartbeats 1600000 in
theorem hdReadHeader (g k : Nat) (l : List UInt8) (w : World) {s : Value} (h : Cur w g s l k) :
    Calls Try.prog 77 #[.pointer (some ⟨g, 0, none⟩)] w (HeadRaw w g s l k) := by
  have hg := h.lt
  have h1 := h.below (below_alloc1 w (blk4 0 0 false 0))
  have o1 := Own4.new w (Value.int IntKind.i64 0) (Value.int IntKind.i64 0) (Value.bool false) (Value.int IntKind.i64 0) 119
  have b1 : Only g w (w.alloc (blk4 0 0 false 0)) := Only.of_below (below_alloc1 _ _)
  have hge := rTag_ge l k
  go_enter Try.func77, Try.ntmps77
  go_wp2_with fail
  refine (hdReadTag g k l _ h1).mono ?_
  rintro e w2 ⟨rfl, hc2, hO2⟩
  have hH : Hid (rHead l k = if (rTag l k).2.2 = 0 then
      (if (rLen l (rTag l k).2.1).2.2 = 0 then ((rTag l k).1, (rLen l (rTag l k).2.1).1, (rLen l (rTag l k).2.1).2.1, 0) else (tg0, 0, k, (rLen l (rTag l k).2.1).2.2))
      else (tg0, 0, k, (rTag l k).2.2)) := rfl
  generalize rTag l k = T at *
  obtain ⟨⟨tc, tn, tm⟩, k1, E⟩ := T
  simp only at hc2 hH hge
  have o2 := (o1.only hO2 (by omega)).below (below_alloc1 w2 (blk3 tc tn tm))
  have hO3 := (b1.trans hO2).trans (Only.of_below (below_alloc1 w2 (blk3 tc tn tm)))
  have hc3 := hc2.below (below_alloc1 w2 (blk3 tc tn tm))
  have hsz : w.heap.size < w2.heap.size := by have := hO2.size; simp at this; omega
  have HSZ := Lib.hid hsz
  clear o1 h1 b1 hO2 hc2 hsz
  unfold Tg.v
  by_cases q : E = 0
  · subst q
    rw [if_pos rfl] at hH
    go_wp2_with fail
    refine (hdReadLength g k1 l _ hc3).mono ?_
    rintro e w4 ⟨rfl, hc4, hO4⟩
    have hge2 := rLen_ge l k1
    generalize rLen l k1 = T at *
    obtain ⟨n, k2, E⟩ := T
    simp only at hc4 hH hge2
    have o4 := o2.only hO4 (by omega)
    have ot := (Own3.new w2 (Value.int IntKind.i64 tc) (Value.int IntKind.i64 tn) (Value.bool tm) 36).only hO4 (by have := HSZ.out; omega)
    have hO5 := hO3.trans hO4
    obtain ⟨⟨r0, r1, r2, f0, f1, f2⟩, r3, f3⟩ := o4
    obtain ⟨t0, t1, t2, _, _, _⟩ := ot
    clear o2 hO3 hO4 hc3
    go_wp2
    refine bodyPost_ret (v := .tuple #[.agg #[.int .i64 tc, .int .i64 tn, .bool tm, .int .i64 n], .int .i64 E]) (by simp [results, Try.results77, go_sem, r0, r1, r2, r3]) rfl ?_
    have hset := (Only.refl w.heap.size w4).set4 (.int .i64 tc) (.int .i64 tn) (.bool tm) (.int .i64 n)
    refine ⟨⟨tc, tn, tm⟩, n, E, k2, rfl, Cur.frame h hO5 hc4 hset (by intro b e; cases e; omega), by omega, Only.grown hO5 hset (by intro b e; cases e; omega), ?_, ?_⟩
    · rw [hH.out]; split
      · rename_i q; exact q.symm
      · rfl
    · intro q; rw [hH.out, if_pos q]
  · have e1 : (E != 0) = true := by simp; exact q
    have e2 : (E == 0) = false := by simp; exact q
    rw [if_neg q] at hH
    obtain ⟨⟨r0, r1, r2, f0, f1, f2⟩, r3, f3⟩ := o2
    go_wp2
    refine bodyPost_ret (v := .tuple #[.agg #[.int .i64 0, .int .i64 0, .bool false, .int .i64 0], .int .i64 E]) (by simp [results, Try.results77, go_sem, r0, r1, r2, r3]) rfl ?_
    have hset := (Only.refl w.heap.size (w2.alloc (blk3 tc tn tm))).set4 (.int .i64 0) (.int .i64 0) (.bool false) (.int .i64 0)
    exact ⟨tg0, 0, E, k1, rfl, Cur.frame h hO3 hc3 hset (by intro b e; cases e; omega), hge, Only.grown hO3 hset (by intro b e; cases e; omega), by rw [hH.out], fun e => absurd e q⟩

end Go.Proofs.Ytbhfaakhcnkegaa
