/-
  quittancelaw01.do on a cursor.
-/
import Derived.Test.YtcekglicepjjpaaKnown
namespace Go.Proofs.Ytcekglicepjjpaa
open Go.RowKit
set_option linter.unusedVariables false
set_option linter.unusedSimpArgs false

/-- A block of three cells is written whole. -/
def set3 (w : World) (b : Nat) (x y z : Value) : World := ((w.setCell ⟨b, 0, none⟩ x).setCell ⟨b, 1, none⟩ y).setCell ⟨b, 2, none⟩ z

theorem grown_setCell {a w : World} {b : Nat} (h : a.grownBy w (some b)) (o : Nat) (u : Value) : a.grownBy (w.setCell ⟨b, o, none⟩ u) (some b) :=
  Only.setCell h rfl u
theorem grown_set3 (w : World) (b : Nat) (x y z : Value) : w.grownBy (set3 w b x y z) (some b) :=
  grown_setCell (grown_setCell (grown_setCell (World.grownBy.refl w _) 0 x) 1 y) 2 z

/-- What a call hands back: a number, bytes in new memory, an error; the cursor is then at rk. -/
def DoOk (w : World) (g : Nat) (s : Value) (l : List UInt8) (rN : Int) (rB : List UInt8) (rE : Int) (rk : Nat) (e : Ending) (w' : World) : Prop :=
  ∃ A n c, e = .returned (.agg #[.int .i64 rN, .slice A n c, .int .i64 rE]) ∧ Ob w' w.heap.size 5 (.slice A n c) rB ∧ Cur w' g s l rk ∧ Only g w w'

/-- The world in which do makes its call. -/
def doW (w : World) (K N : Int) : World := (w.alloc (.cells #[.int .i64 K, .int .i64 N] 32)).alloc (.cells #[.int .i64 0, .slice none 0 0, .int .i64 0] 34)
theorem doW_below (w : World) (K N : Int) : Below w.heap.size w (doW w K N) := ((Below.refl _ _).alloc (Nat.le_refl _) _).alloc (by simp) _
theorem doW_size (w : World) (K N : Int) : (doW w K N).heap.size = w.heap.size + 2 := by simp [doW]
theorem doW_blk (w w1 : World) (K N : Int) (row : Option Nat) (hon : (doW w K N).grownBy w1 row) (hr : some (w.heap.size + 1) ≠ row) : w1.heap[w.heap.size + 1]? = some (.cells #[.int .i64 0, .slice none 0 0, .int .i64 0] 34 (0, 0)) := by
  rw [hon.block _ (by rw [doW_size]; omega) hr]
  have := heap_alloc_new (w.alloc (.cells #[.int .i64 K, .int .i64 N] 32)) (.cells #[.int .i64 0, .slice none 0 0, .int .i64 0] 34)
  simpa [doW] using this
theorem do_tail {w w1 : World} {g k k' : Nat} {s : Value} {l : List UInt8} (K N : Int) (h : Cur w g s l k) (hon : Only g (doW w K N) w1) (hcur : Cur w1 g s l k') (x y z : Value) :
    Cur (set3 w1 (w.heap.size + 1) x y z) g s l k' ∧ Only g w (set3 w1 (w.heap.size + 1) x y z) := by
  have o1 : Only g w w1 := (Only.of_below (doW_below w K N)).trans hon
  have hg := grown_set3 w1 (w.heap.size + 1) x y z
  have hr : ∀ b, some (w.heap.size + 1) = some b → w.heap.size ≤ b := by intro b hb; cases hb; omega
  exact ⟨h.frame o1 hcur hg hr, o1.grown hg hr⟩
theorem ob_tail {w w1 : World} {B : Nat} {v : Value} {r : List UInt8} {e : TypeId} (hob : Ob w1 B e v r) (hB : w.heap.size + 2 ≤ B) (x y z : Value) : Ob (set3 w1 (w.heap.size + 1) x y z) w.heap.size e v r :=
  (hob.grown (grown_set3 w1 (w.heap.size + 1) x y z) (.inr fun e => by have := (hob.lt _ e).1; omega)).mono (by omega)

set_option maxRecDepth 100000 in
set_option maxHeartbeats 800000 in
theorem do0 (g k : Nat) (N : Int) (l : List UInt8) (w : World) {s : Value} (h : Cur w g s l k) :
    Calls Try.prog 12 #[.pointer (some ⟨g, 0, none⟩), .agg #[.int .i64 0, .int .i64 N]] w (DoOk w g s l ((l.length : Int) - k) [] 0 k) := by
  have nb := nth_bound l k
  obtain ⟨nb0, nb1⟩ := nb
  have h' := h.below (doW_below w 0 N)
  have hg := h.lt
  go_enter Try.func12, Try.ntmps12
  go_wp2_with fail
  refine (curLeft g k l _ h').mono ?_
  rintro e w1 ⟨rfl, q⟩
  have hon := Only.of_qt (g := g) q
  have hcur := h'.qt q
  have hblk := doW_blk w w1 0 N _ hon (by simp; omega)
  have c0 : w1.cell? ⟨w.heap.size + 1, 0, none⟩ = some (.int .i64 0) := by rw [blk_cell hblk]; rfl
  have c1 : w1.cell? ⟨w.heap.size + 1, 1, none⟩ = some (.slice none 0 0) := by rw [blk_cell hblk]; rfl
  have c2 : w1.cell? ⟨w.heap.size + 1, 2, none⟩ = some (.int .i64 0) := by rw [blk_cell hblk]; rfl
  have f0 := blk_frozen hblk 0
  have f1 := blk_frozen hblk 1
  have f2 := blk_frozen hblk 2
  clear hblk
  go_wp2
  refine bodyPost_ret (v := .agg #[.int .i64 ((l.length : Int) - k), .slice none 0 0, .int .i64 0]) (by simp [results, Try.results12, go_sem, c0, c1, c2]) rfl ?_
  obtain ⟨t1, t2⟩ := do_tail 0 N h hon hcur (.int .i64 ((l.length : Int) - k)) (.slice none 0 0) (.int .i64 0)
  exact ⟨_, _, _, rfl, Ob.nil _ _ _, t1, t2⟩

set_option maxRecDepth 100000 in
set_option maxHeartbeats 800000 in
theorem do1 (g k : Nat) (N : Int) (l : List UInt8) (w : World) {s : Value} (h : Cur w g s l k) :
    Calls Try.prog 12 #[.pointer (some ⟨g, 0, none⟩), .agg #[.int .i64 1, .int .i64 N]] w (DoOk w g s l (k : Int) [] 0 k) := by
  have nb := nth_bound l k
  obtain ⟨nb0, nb1⟩ := nb
  have h' := h.below (doW_below w 1 N)
  have hg := h.lt
  go_enter Try.func12, Try.ntmps12
  go_wp2_with fail
  refine (curAt g k l _ h').mono ?_
  rintro e w1 ⟨rfl, hw⟩
  have hon : Only g (doW w 1 N) w1 := hw ▸ Only.refl _ _
  have hcur : Cur w1 g s l k := hw ▸ h'
  clear hw
  have hblk := doW_blk w w1 1 N _ hon (by simp; omega)
  have c0 : w1.cell? ⟨w.heap.size + 1, 0, none⟩ = some (.int .i64 0) := by rw [blk_cell hblk]; rfl
  have c1 : w1.cell? ⟨w.heap.size + 1, 1, none⟩ = some (.slice none 0 0) := by rw [blk_cell hblk]; rfl
  have c2 : w1.cell? ⟨w.heap.size + 1, 2, none⟩ = some (.int .i64 0) := by rw [blk_cell hblk]; rfl
  have f0 := blk_frozen hblk 0
  have f1 := blk_frozen hblk 1
  have f2 := blk_frozen hblk 2
  clear hblk
  go_wp2
  refine bodyPost_ret (v := .agg #[.int .i64 (k : Int), .slice none 0 0, .int .i64 0]) (by simp [results, Try.results12, go_sem, c0, c1, c2]) rfl ?_
  obtain ⟨t1, t2⟩ := do_tail 1 N h hon hcur (.int .i64 (k : Int)) (.slice none 0 0) (.int .i64 0)
  exact ⟨_, _, _, rfl, Ob.nil _ _ _, t1, t2⟩

set_option maxRecDepth 100000 in
set_option maxHeartbeats 800000 in
theorem do2 (g k : Nat) (N : Int) (l : List UInt8) (w : World) {s : Value} (h : Cur w g s l k) (hk : k < l.length) :
    Calls Try.prog 12 #[.pointer (some ⟨g, 0, none⟩), .agg #[.int .i64 2, .int .i64 N]] w (DoOk w g s l (nth l k) [] 0 k) := by
  have nb := nth_bound l k
  obtain ⟨nb0, nb1⟩ := nb
  have h' := h.below (doW_below w 2 N)
  have hg := h.lt
  go_enter Try.func12, Try.ntmps12
  go_wp2_with fail
  refine (curPeek g k l _ h' hk).mono ?_
  rintro e w1 ⟨rfl, q⟩
  have hon := Only.of_qt (g := g) q
  have hcur := h'.qt q
  have hblk := doW_blk w w1 2 N _ hon (by simp; omega)
  have c0 : w1.cell? ⟨w.heap.size + 1, 0, none⟩ = some (.int .i64 0) := by rw [blk_cell hblk]; rfl
  have c1 : w1.cell? ⟨w.heap.size + 1, 1, none⟩ = some (.slice none 0 0) := by rw [blk_cell hblk]; rfl
  have c2 : w1.cell? ⟨w.heap.size + 1, 2, none⟩ = some (.int .i64 0) := by rw [blk_cell hblk]; rfl
  have f0 := blk_frozen hblk 0
  have f1 := blk_frozen hblk 1
  have f2 := blk_frozen hblk 2
  clear hblk
  go_wp2
  refine bodyPost_ret (v := .agg #[.int .i64 (nth l k), .slice none 0 0, .int .i64 0]) (by simp [results, Try.results12, go_sem, c0, c1, c2]) rfl ?_
  obtain ⟨t1, t2⟩ := do_tail 2 N h hon hcur (.int .i64 (nth l k)) (.slice none 0 0) (.int .i64 0)
  exact ⟨_, _, _, rfl, Ob.nil _ _ _, t1, t2⟩

set_option maxRecDepth 100000 in
set_option maxHeartbeats 800000 in
theorem do2e (g k : Nat) (N : Int) (l : List UInt8) (w : World) {s : Value} (h : Cur w g s l l.length) :
    Calls Try.prog 12 #[.pointer (some ⟨g, 0, none⟩), .agg #[.int .i64 2, .int .i64 N]] w (DoOk w g s l 0 [] 3 l.length) := by
  have nb := nth_bound l k
  obtain ⟨nb0, nb1⟩ := nb
  have h' := h.below (doW_below w 2 N)
  have hg := h.lt
  go_enter Try.func12, Try.ntmps12
  go_wp2_with fail
  refine (curPeekEnd g l _ h').mono ?_
  rintro e w1 ⟨rfl, q⟩
  have hon := Only.of_qt (g := g) q
  have hcur := h'.qt q
  have hblk := doW_blk w w1 2 N _ hon (by simp; omega)
  have c0 : w1.cell? ⟨w.heap.size + 1, 0, none⟩ = some (.int .i64 0) := by rw [blk_cell hblk]; rfl
  have c1 : w1.cell? ⟨w.heap.size + 1, 1, none⟩ = some (.slice none 0 0) := by rw [blk_cell hblk]; rfl
  have c2 : w1.cell? ⟨w.heap.size + 1, 2, none⟩ = some (.int .i64 0) := by rw [blk_cell hblk]; rfl
  have f0 := blk_frozen hblk 0
  have f1 := blk_frozen hblk 1
  have f2 := blk_frozen hblk 2
  clear hblk
  go_wp2
  refine bodyPost_ret (v := .agg #[.int .i64 0, .slice none 0 0, .int .i64 3]) (by simp [results, Try.results12, go_sem, c0, c1, c2]) rfl ?_
  obtain ⟨t1, t2⟩ := do_tail 2 N h hon hcur (.int .i64 0) (.slice none 0 0) (.int .i64 3)
  exact ⟨_, _, _, rfl, Ob.nil _ _ _, t1, t2⟩

set_option maxRecDepth 100000 in
set_option maxHeartbeats 800000 in
theorem do3 (g k : Nat) (N : Int) (l : List UInt8) (w : World) {s : Value} (h : Cur w g s l k) (hk : k < l.length) :
    Calls Try.prog 12 #[.pointer (some ⟨g, 0, none⟩), .agg #[.int .i64 3, .int .i64 N]] w (DoOk w g s l (nth l k) [] 0 (k + 1)) := by
  have nb := nth_bound l k
  obtain ⟨nb0, nb1⟩ := nb
  have h' := h.below (doW_below w 3 N)
  have hg := h.lt
  go_enter Try.func12, Try.ntmps12
  go_wp2_with fail
  refine (curByte g k l _ h' hk).mono ?_
  rintro e w1 ⟨rfl, hcur, hon⟩
  have hblk := doW_blk w w1 3 N _ hon (by simp; omega)
  have c0 : w1.cell? ⟨w.heap.size + 1, 0, none⟩ = some (.int .i64 0) := by rw [blk_cell hblk]; rfl
  have c1 : w1.cell? ⟨w.heap.size + 1, 1, none⟩ = some (.slice none 0 0) := by rw [blk_cell hblk]; rfl
  have c2 : w1.cell? ⟨w.heap.size + 1, 2, none⟩ = some (.int .i64 0) := by rw [blk_cell hblk]; rfl
  have f0 := blk_frozen hblk 0
  have f1 := blk_frozen hblk 1
  have f2 := blk_frozen hblk 2
  clear hblk
  go_wp2
  refine bodyPost_ret (v := .agg #[.int .i64 (nth l k), .slice none 0 0, .int .i64 0]) (by simp [results, Try.results12, go_sem, c0, c1, c2]) rfl ?_
  obtain ⟨t1, t2⟩ := do_tail 3 N h hon hcur (.int .i64 (nth l k)) (.slice none 0 0) (.int .i64 0)
  exact ⟨_, _, _, rfl, Ob.nil _ _ _, t1, t2⟩

set_option maxRecDepth 100000 in
set_option maxHeartbeats 800000 in
theorem do3e (g k : Nat) (N : Int) (l : List UInt8) (w : World) {s : Value} (h : Cur w g s l l.length) :
    Calls Try.prog 12 #[.pointer (some ⟨g, 0, none⟩), .agg #[.int .i64 3, .int .i64 N]] w (DoOk w g s l 0 [] 3 l.length) := by
  have nb := nth_bound l k
  obtain ⟨nb0, nb1⟩ := nb
  have h' := h.below (doW_below w 3 N)
  have hg := h.lt
  go_enter Try.func12, Try.ntmps12
  go_wp2_with fail
  refine (curByteEnd g l _ h').mono ?_
  rintro e w1 ⟨rfl, q⟩
  have hon := Only.of_qt (g := g) q
  have hcur := h'.qt q
  have hblk := doW_blk w w1 3 N _ hon (by simp; omega)
  have c0 : w1.cell? ⟨w.heap.size + 1, 0, none⟩ = some (.int .i64 0) := by rw [blk_cell hblk]; rfl
  have c1 : w1.cell? ⟨w.heap.size + 1, 1, none⟩ = some (.slice none 0 0) := by rw [blk_cell hblk]; rfl
  have c2 : w1.cell? ⟨w.heap.size + 1, 2, none⟩ = some (.int .i64 0) := by rw [blk_cell hblk]; rfl
  have f0 := blk_frozen hblk 0
  have f1 := blk_frozen hblk 1
  have f2 := blk_frozen hblk 2
  clear hblk
  go_wp2
  refine bodyPost_ret (v := .agg #[.int .i64 0, .slice none 0 0, .int .i64 3]) (by simp [results, Try.results12, go_sem, c0, c1, c2]) rfl ?_
  obtain ⟨t1, t2⟩ := do_tail 3 N h hon hcur (.int .i64 0) (.slice none 0 0) (.int .i64 3)
  exact ⟨_, _, _, rfl, Ob.nil _ _ _, t1, t2⟩

set_option maxRecDepth 100000 in
set_option maxHeartbeats 800000 in
theorem do4 (g k : Nat) (m : Nat) (N : Int) (l : List UInt8) (w : World) {s : Value} (h : Cur w g s l k) (hm : k + m ≤ l.length) (hN : N = m) :
    Calls Try.prog 12 #[.pointer (some ⟨g, 0, none⟩), .agg #[.int .i64 4, .int .i64 N]] w (DoOk w g s l 0 ((l.drop k).take m) 0 (k + m)) := by
  have HN := Lib.hid hN; clear hN
  have nb := nth_bound l k
  obtain ⟨nb0, nb1⟩ := nb
  have h' := h.below (doW_below w 4 N)
  have hg := h.lt
  go_enter Try.func12, Try.ntmps12
  go_wp2_with fail
  refine (curTake g k m _ l _ h' hm HN.out).mono ?_
  rintro e w1 ⟨A, n, c, rfl, hob, hcur, hon⟩
  rw [doW_size] at hob
  have hblk := doW_blk w w1 4 N _ hon (by simp; omega)
  have c0 : w1.cell? ⟨w.heap.size + 1, 0, none⟩ = some (.int .i64 0) := by rw [blk_cell hblk]; rfl
  have c1 : w1.cell? ⟨w.heap.size + 1, 1, none⟩ = some (.slice none 0 0) := by rw [blk_cell hblk]; rfl
  have c2 : w1.cell? ⟨w.heap.size + 1, 2, none⟩ = some (.int .i64 0) := by rw [blk_cell hblk]; rfl
  have f0 := blk_frozen hblk 0
  have f1 := blk_frozen hblk 1
  have f2 := blk_frozen hblk 2
  clear hblk
  go_wp2
  refine bodyPost_ret (v := .agg #[.int .i64 0, .slice A n c, .int .i64 0]) (by simp [results, Try.results12, go_sem, c0, c1, c2]) rfl ?_
  obtain ⟨t1, t2⟩ := do_tail 4 N h hon hcur (.int .i64 0) (.slice A n c) (.int .i64 0)
  exact ⟨_, _, _, rfl, ob_tail hob (Nat.le_refl _) _ _ _, t1, t2⟩

set_option maxRecDepth 100000 in
set_option maxHeartbeats 800000 in
theorem do4n (g k : Nat) (E : Int) (N : Int) (l : List UInt8) (w : World) {s : Value} (h : Cur w g s l k) (hm : N < 0 ∨ (l.length : Int) - k < N) (hE : (if N < 0 then (1 : Int) else 3) = E) :
    Calls Try.prog 12 #[.pointer (some ⟨g, 0, none⟩), .agg #[.int .i64 4, .int .i64 N]] w (DoOk w g s l 0 [] E k) := by
  have HE := Lib.hid hE; clear hE
  have nb := nth_bound l k
  obtain ⟨nb0, nb1⟩ := nb
  have h' := h.below (doW_below w 4 N)
  have hg := h.lt
  go_enter Try.func12, Try.ntmps12
  go_wp2_with fail
  refine ((HE.out ▸ curTakeNo g k _ l _ h' hm)).mono ?_
  rintro e w1 ⟨rfl, q⟩
  have hon := Only.of_qt (g := g) q
  have hcur := h'.qt q
  have hblk := doW_blk w w1 4 N _ hon (by simp; omega)
  have c0 : w1.cell? ⟨w.heap.size + 1, 0, none⟩ = some (.int .i64 0) := by rw [blk_cell hblk]; rfl
  have c1 : w1.cell? ⟨w.heap.size + 1, 1, none⟩ = some (.slice none 0 0) := by rw [blk_cell hblk]; rfl
  have c2 : w1.cell? ⟨w.heap.size + 1, 2, none⟩ = some (.int .i64 0) := by rw [blk_cell hblk]; rfl
  have f0 := blk_frozen hblk 0
  have f1 := blk_frozen hblk 1
  have f2 := blk_frozen hblk 2
  clear hblk
  go_wp2
  refine bodyPost_ret (v := .agg #[.int .i64 0, .slice none 0 0, .int .i64 E]) (by simp [results, Try.results12, go_sem, c0, c1, c2]) rfl ?_
  obtain ⟨t1, t2⟩ := do_tail 4 N h hon hcur (.int .i64 0) (.slice none 0 0) (.int .i64 E)
  exact ⟨_, _, _, rfl, Ob.nil _ _ _, t1, t2⟩

set_option maxRecDepth 100000 in
set_option maxHeartbeats 800000 in
theorem do5n (g k : Nat) (E : Int) (N : Int) (l : List UInt8) (w : World) {s : Value} (h : Cur w g s l k) (hm : N < 0 ∨ (l.length : Int) - k < N) (hE : (if N < 0 then (1 : Int) else 3) = E) :
    Calls Try.prog 12 #[.pointer (some ⟨g, 0, none⟩), .agg #[.int .i64 5, .int .i64 N]] w (DoOk w g s l 0 [] E k) := by
  have HE := Lib.hid hE; clear hE
  have nb := nth_bound l k
  obtain ⟨nb0, nb1⟩ := nb
  have h' := h.below (doW_below w 5 N)
  have hg := h.lt
  go_enter Try.func12, Try.ntmps12
  go_wp2_with fail
  refine ((HE.out ▸ curSubNo g k _ l _ h' hm)).mono ?_
  rintro e w1 ⟨rfl, q⟩
  have hon := Only.of_qt (g := g) q
  have hcur := h'.qt q
  have hblk := doW_blk w w1 5 N _ hon (by simp; omega)
  have c0 : w1.cell? ⟨w.heap.size + 1, 0, none⟩ = some (.int .i64 0) := by rw [blk_cell hblk]; rfl
  have c1 : w1.cell? ⟨w.heap.size + 1, 1, none⟩ = some (.slice none 0 0) := by rw [blk_cell hblk]; rfl
  have c2 : w1.cell? ⟨w.heap.size + 1, 2, none⟩ = some (.int .i64 0) := by rw [blk_cell hblk]; rfl
  have f0 := blk_frozen hblk 0
  have f1 := blk_frozen hblk 1
  have f2 := blk_frozen hblk 2
  clear hblk
  go_wp2_with fail
  refine (curRest0 _).mono ?_
  rintro e w2 ⟨rfl, rfl⟩
  go_wp2
  refine bodyPost_ret (v := .agg #[.int .i64 0, .slice none 0 0, .int .i64 E]) (by simp [results, Try.results12, go_sem, c0, c1, c2]) rfl ?_
  obtain ⟨t1, t2⟩ := do_tail 5 N h hon hcur (.int .i64 0) (.slice none 0 0) (.int .i64 E)
  exact ⟨_, _, _, rfl, Ob.nil _ _ _, t1, t2⟩

set_option maxRecDepth 100000 in
set_option maxHeartbeats 800000 in
theorem do6 (g k : Nat) (N : Int) (l : List UInt8) (w : World) {s : Value} (h : Cur w g s l k) :
    Calls Try.prog 12 #[.pointer (some ⟨g, 0, none⟩), .agg #[.int .i64 6, .int .i64 N]] w (DoOk w g s l 0 (l.drop k) 0 l.length) := by
  have nb := nth_bound l k
  obtain ⟨nb0, nb1⟩ := nb
  have h' := h.below (doW_below w 6 N)
  have hg := h.lt
  go_enter Try.func12, Try.ntmps12
  go_wp2_with fail
  refine (curRest g k l _ h').mono ?_
  rintro e w1 ⟨A, n, c, rfl, hob, hcur, hon⟩
  rw [doW_size] at hob
  have hblk := doW_blk w w1 6 N _ hon (by simp; omega)
  have c0 : w1.cell? ⟨w.heap.size + 1, 0, none⟩ = some (.int .i64 0) := by rw [blk_cell hblk]; rfl
  have c1 : w1.cell? ⟨w.heap.size + 1, 1, none⟩ = some (.slice none 0 0) := by rw [blk_cell hblk]; rfl
  have c2 : w1.cell? ⟨w.heap.size + 1, 2, none⟩ = some (.int .i64 0) := by rw [blk_cell hblk]; rfl
  have f0 := blk_frozen hblk 0
  have f1 := blk_frozen hblk 1
  have f2 := blk_frozen hblk 2
  clear hblk
  go_wp2
  refine bodyPost_ret (v := .agg #[.int .i64 0, .slice A n c, .int .i64 0]) (by simp [results, Try.results12, go_sem, c0, c1, c2]) rfl ?_
  obtain ⟨t1, t2⟩ := do_tail 6 N h hon hcur (.int .i64 0) (.slice A n c) (.int .i64 0)
  exact ⟨_, _, _, rfl, ob_tail hob (Nat.le_refl _) _ _ _, t1, t2⟩

set_option maxRecDepth 100000 in
set_option maxHeartbeats 800000 in
theorem do7 (g k : Nat) (j : Nat) (N : Int) (l : List UInt8) (w : World) {s : Value} (h : Cur w g s l k) (hj : j ≤ k) (hN : N = j) :
    Calls Try.prog 12 #[.pointer (some ⟨g, 0, none⟩), .agg #[.int .i64 7, .int .i64 N]] w (DoOk w g s l 0 [] 0 j) := by
  have HN := Lib.hid hN; clear hN
  have nb := nth_bound l k
  obtain ⟨nb0, nb1⟩ := nb
  have h' := h.below (doW_below w 7 N)
  have hg := h.lt
  go_enter Try.func12, Try.ntmps12
  go_wp2_with fail
  refine (curBack g k j _ l _ h' hj HN.out).mono ?_
  rintro e w1 ⟨rfl, hcur, hon⟩
  have hblk := doW_blk w w1 7 N _ hon (by simp; omega)
  have c0 : w1.cell? ⟨w.heap.size + 1, 0, none⟩ = some (.int .i64 0) := by rw [blk_cell hblk]; rfl
  have c1 : w1.cell? ⟨w.heap.size + 1, 1, none⟩ = some (.slice none 0 0) := by rw [blk_cell hblk]; rfl
  have c2 : w1.cell? ⟨w.heap.size + 1, 2, none⟩ = some (.int .i64 0) := by rw [blk_cell hblk]; rfl
  have f0 := blk_frozen hblk 0
  have f1 := blk_frozen hblk 1
  have f2 := blk_frozen hblk 2
  clear hblk
  go_wp2
  refine bodyPost_ret (v := .agg #[.int .i64 0, .slice none 0 0, .int .i64 0]) (by simp [results, Try.results12, go_sem, c0, c1, c2]) rfl ?_
  obtain ⟨t1, t2⟩ := do_tail 7 N h hon hcur (.int .i64 0) (.slice none 0 0) (.int .i64 0)
  exact ⟨_, _, _, rfl, Ob.nil _ _ _, t1, t2⟩

set_option maxRecDepth 100000 in
set_option maxHeartbeats 800000 in
theorem do7n (g k : Nat) (N : Int) (l : List UInt8) (w : World) {s : Value} (h : Cur w g s l k) (hx : N < 0 ∨ (k : Int) < N) :
    Calls Try.prog 12 #[.pointer (some ⟨g, 0, none⟩), .agg #[.int .i64 7, .int .i64 N]] w (DoOk w g s l 0 [] 1 k) := by
  have nb := nth_bound l k
  obtain ⟨nb0, nb1⟩ := nb
  have h' := h.below (doW_below w 7 N)
  have hg := h.lt
  go_enter Try.func12, Try.ntmps12
  go_wp2_with fail
  refine (curBackNo g k _ l _ h' hx).mono ?_
  rintro e w1 ⟨rfl, hw⟩
  have hon : Only g (doW w 7 N) w1 := hw ▸ Only.refl _ _
  have hcur : Cur w1 g s l k := hw ▸ h'
  clear hw
  have hblk := doW_blk w w1 7 N _ hon (by simp; omega)
  have c0 : w1.cell? ⟨w.heap.size + 1, 0, none⟩ = some (.int .i64 0) := by rw [blk_cell hblk]; rfl
  have c1 : w1.cell? ⟨w.heap.size + 1, 1, none⟩ = some (.slice none 0 0) := by rw [blk_cell hblk]; rfl
  have c2 : w1.cell? ⟨w.heap.size + 1, 2, none⟩ = some (.int .i64 0) := by rw [blk_cell hblk]; rfl
  have f0 := blk_frozen hblk 0
  have f1 := blk_frozen hblk 1
  have f2 := blk_frozen hblk 2
  clear hblk
  go_wp2
  refine bodyPost_ret (v := .agg #[.int .i64 0, .slice none 0 0, .int .i64 1]) (by simp [results, Try.results12, go_sem, c0, c1, c2]) rfl ?_
  obtain ⟨t1, t2⟩ := do_tail 7 N h hon hcur (.int .i64 0) (.slice none 0 0) (.int .i64 1)
  exact ⟨_, _, _, rfl, Ob.nil _ _ _, t1, t2⟩

set_option maxRecDepth 100000 in
set_option maxHeartbeats 800000 in
theorem do5 (g k m : Nat) (N : Int) (l : List UInt8) (w : World) {s : Value} (h : Cur w g s l k) (hm : k + m ≤ l.length) (hN : N = m) :
    Calls Try.prog 12 #[.pointer (some ⟨g, 0, none⟩), .agg #[.int .i64 5, .int .i64 N]] w (DoOk w g s l 0 ((l.drop k).take m) 0 (k + m)) := by
  have HN := Lib.hid hN; clear hN
  have h' := h.below (doW_below w 5 N)
  have hg := h.lt
  go_enter Try.func12, Try.ntmps12
  go_wp2_with fail
  refine (curSub g k m _ l _ h' hm HN.out).mono ?_
  rintro e w0 ⟨g2, s2, rfl, hg2, hcs, hcur0, hon0⟩
  rw [doW_size] at hg2
  go_wp2_with fail
  refine (curRest g2 0 _ _ hcs).mono ?_
  rintro e w1 ⟨A, n, c, rfl, hob, hcs1, hon1⟩
  rw [List.drop_zero] at hob
  have hon : Only g (doW w 5 N) w1 := hon0.grown hon1 (by intro b hb; cases hb; rw [doW_size]; omega)
  have hcur := hcur0.only hon1 (by omega) hcs.noByte
  have hsz : w.heap.size + 2 ≤ w0.heap.size := by have := hon0.size; rw [doW_size] at this; exact this
  have hblk := doW_blk w w1 5 N _ hon (by simp; omega)
  have c0 : w1.cell? ⟨w.heap.size + 1, 0, none⟩ = some (.int .i64 0) := by rw [blk_cell hblk]; rfl
  have c1 : w1.cell? ⟨w.heap.size + 1, 1, none⟩ = some (.slice none 0 0) := by rw [blk_cell hblk]; rfl
  have c2 : w1.cell? ⟨w.heap.size + 1, 2, none⟩ = some (.int .i64 0) := by rw [blk_cell hblk]; rfl
  have f0 := blk_frozen hblk 0
  have f1 := blk_frozen hblk 1
  have f2 := blk_frozen hblk 2
  clear hblk
  go_wp2
  refine bodyPost_ret (v := .agg #[.int .i64 0, .slice A n c, .int .i64 0]) (by simp [results, Try.results12, go_sem, c0, c1, c2]) rfl ?_
  obtain ⟨t1, t2⟩ := do_tail 5 N h hon hcur (.int .i64 0) (.slice A n c) (.int .i64 0)
  exact ⟨_, _, _, rfl, ob_tail hob hsz _ _ _, t1, t2⟩

end Go.Proofs.Ytcekglicepjjpaa
