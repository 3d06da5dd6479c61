/-
  The contracts of octet's cursor.
-/
import Derived.Test.YtbjiknfebocepaaDoorOct
import Derived.StillTailTactics
import Derived.Deep.RegionHeld3
namespace Go.Proofs.YtbjiknfebocepaaDoor
open Go.RowKit
set_option linter.unusedVariables false
set_option linter.unusedSimpArgs false
set_option maxRecDepth 4000

/-- A function handed back a slice of new bytes l; nothing old was changed. -/
def NewBs (w : World) (l : List UInt8) (e : Ending) (w' : World) : Prop :=
  ∃ A n c, e = .returned (.slice A n c) ∧ Ob w' w.heap.size 5 (.slice A n c) l ∧ Below w.heap.size w w'

set_option maxHeartbeats 800000 in
theorem bytesClone (A : Option Addr) (n c : Nat) (l : List UInt8) (w : World) (h : Bs w A n l) (hn : n ≤ 1099511627776) :
    Calls Tryd.prog 40 #[.slice A n c] w (NewBs w l) := by
  have q : ∀ (w : World) (a : Option Addr) (n c : Nat), (binOp .eql 22 (.slice a n c) (.slice none 0 0)).run Tryd.prog w = .ok (.bool a.isNone) w := fun w a n c => Lib.run_eql_slice_nil w _ _ a n c 0 0 Tryd.underlying22
  obtain ⟨i0, hi, hz0, hz1, hz2⟩ := info_parts u8_info
  rcases A with _ | a
  · have : n = 0 := by
      rcases Nat.eq_zero_or_pos n with h0 | h0
      · exact h0
      · obtain ⟨_, _, e, _⟩ := h.at_ h0; cases e
    subst this
    go_enter Tryd.func40, Tryd.ntmps40
    go_wp2
    go_ret
    have : l = [] := List.eq_nil_of_length_eq_zero h.len
    subst this
    exact ⟨none, 0, 0, rfl, Ob.nil _ _ _, Below.refl _ _⟩
  · have H := h.below (w' := w.alloc (.cells #[] 5)) ((Below.refl _ _).alloc (Nat.le_refl _) _)
    have ho : Ob (w.alloc (.cells #[] 5)) w.heap.size 5 (.slice (some ⟨w.heap.size, 0, none⟩) 0 0) [] := World.ownsRow_made w #[] 0 (Nat.le_refl _) (Nat.zero_le _) rfl
    go_enter Tryd.func40, Tryd.ntmps40
    go_wp2_with (at_builtin; refine wpList_appendB rfl _ _ 22 rfl w.heap.size 5 i0 (.int .u8 0) Tryd.underlying22 hi hz0 hz1 hz2 rfl _ [] rfl ho _ _ _ l rfl H (by simp; omega) (by simp) ?_)
    intro v' w1 hown hgrow hnil hblk
    have hb : Below w.heap.size w w1 := ((Below.refl _ w).alloc (Nat.le_refl _) _).grown hgrow (by simp) (by intro k hk; simp [Value.ownBlock] at hk; omega)
    obtain ⟨A', c', rfl, hc', hbs⟩ := Ob.slice hown
    go_wp2
    go_ret
    exact ⟨A', _, c', rfl, by simpa using hown, hb⟩

/-- A cursor at block g: over the slice s, which reads as the bytes l, at place k. -/
def Cur (w : World) (g : Nat) (s : Value) (l : List UInt8) (k : Nat) : Prop :=
  ∃ A n c t, s = .slice A n c ∧ w.heap[g]? = some (.cells #[.slice A n c, .int .i64 (k : Int)] t (0, 0)) ∧ Bs w A n l ∧ n ≤ c ∧ k ≤ n ∧ n ≤ 1099511627776

theorem blk_cell {w : World} {g : Nat} {t : TypeId} {cs : Array Value} {f : Nat × Nat} (h : w.heap[g]? = some (.cells cs t f)) (i : Nat) : w.cell? ⟨g, i, none⟩ = cs[i]? := by
  simp [World.cell?, h]
theorem blk_frozen {w : World} {g : Nat} {t : TypeId} {cs : Array Value} (h : w.heap[g]? = some (.cells cs t (0, 0))) (i : Nat) : w.frozen? ⟨g, i, none⟩ = false := by
  simp [World.frozen?, h]
theorem Cur.lt {w : World} {g k : Nat} {s : Value} {l : List UInt8} (h : Cur w g s l k) : g < w.heap.size := by
  obtain ⟨A, n, c, t, _, hg, _⟩ := h
  exact (Array.getElem?_eq_some_iff.1 hg).1
theorem Cur.open_ {w : World} {g k : Nat} {s : Value} {l : List UInt8} (h : Cur w g s l k) : ∃ A n c, w.cell? ⟨g, 0, none⟩ = some (.slice A n c) ∧ w.cell? ⟨g, 1, none⟩ = some (.int .i64 (k : Int)) ∧
    w.frozen? ⟨g, 1, none⟩ = false ∧ Bs w A n l ∧ n ≤ c ∧ k ≤ n ∧ n ≤ 1099511627776 := by
  obtain ⟨A, n, c, t, _, hg, r⟩ := h
  exact ⟨A, n, c, by rw [blk_cell hg]; rfl, by rw [blk_cell hg]; rfl, blk_frozen hg _, r⟩
theorem Cur.noByte {w : World} {g k : Nat} {s : Value} {l : List UInt8} (h : Cur w g s l k) : ∀ o (x : UInt8), w.cell? ⟨g, o, none⟩ ≠ some (.int .u8 (x.toNat : Int)) := by
  obtain ⟨A, n, c, t, _, hg, _⟩ := h
  intro o x
  rw [blk_cell hg]
  match o with
  | 0 => simp
  | 1 => simp
  | o + 2 => simp
theorem Cur.qt {w w' : World} {g k : Nat} {s : Value} {l : List UInt8} (h : Cur w g s l k) (hq : Qt w w') : Cur w' g s l k := by
  obtain ⟨n, rfl⟩ := hq; exact h
theorem Cur.below {w w' : World} {g k : Nat} {s : Value} {l : List UInt8} (h : Cur w g s l k) (hb : Below w.heap.size w w') : Cur w' g s l k := by
  have hlt := h.lt
  obtain ⟨A, n, c, t, hs, hg, hbs, r⟩ := h
  exact ⟨A, n, c, t, hs, (hb.block g hlt).trans hg, hbs.below hb, r⟩
/-- Another cursor's moves leave this one as it is. -/
theorem Cur.only {w w' : World} {g k g2 : Nat} {s : Value} {l : List UInt8} (h : Cur w g s l k) (hb : Only g2 w w') (hne : g ≠ g2)
    (hg2 : ∀ o (x : UInt8), w.cell? ⟨g2, o, none⟩ ≠ some (.int .u8 (x.toNat : Int))) : Cur w' g s l k := by
  have hlt := h.lt
  obtain ⟨A, n, c, t, hs, hg, hbs, r⟩ := h
  exact ⟨A, n, c, t, hs, (hb.block g hlt (by simpa using hne)).trans hg, hbs.only hb hg2, r⟩
/-- The place is moved. -/
theorem Cur.set {w : World} {g k j : Nat} {s : Value} {l : List UInt8} (h : Cur w g s l k) (hj : j ≤ l.length) : Cur (w.setCell ⟨g, 1, none⟩ (.int .i64 (j : Int))) g s l j := by
  have hnb := h.noByte
  obtain ⟨A, n, c, t, hs, hg, hbs, hnc, hk, hn⟩ := h
  refine ⟨A, n, c, t, hs, ?_, ?_, hnc, by have := hbs.len; omega, hn⟩
  · simp [World.setCell, Array.getElem?_modify, hg]
  · exact hbs.only ((Only.refl g w).setCell rfl _) hnb

/-- Why the next m bytes cannot be read, or 0. -/
def hasE (left m : Int) : Int := if m < 0 then 1 else if left < m then 3 else 0

/-- What Take hands back. -/
def TakeOk (w : World) (g : Nat) (s : Value) (l r : List UInt8) (j : Nat) (e : Ending) (w' : World) : Prop :=
  ∃ A n c, e = .returned (.tuple #[.slice A n c, .int .i64 0]) ∧ Ob w' w.heap.size 5 (.slice A n c) r ∧ Cur w' g s l j ∧ Only g w w'

/-- What Sub hands back. -/
def SubOk (w : World) (g : Nat) (s : Value) (l r : List UInt8) (j : Nat) (e : Ending) (w' : World) : Prop :=
  ∃ g2 s2, e = .returned (.tuple #[.pointer (some ⟨g2, 0, none⟩), .int .i64 0]) ∧ w.heap.size ≤ g2 ∧ Cur w' g2 s2 r 0 ∧ Cur w' g s l j ∧ Only g w w'

/-- What Rest hands back. -/
def RestOk (w : World) (g : Nat) (s : Value) (l r : List UInt8) (j : Nat) (e : Ending) (w' : World) : Prop :=
  ∃ A n c, e = .returned (.slice A n c) ∧ Ob w' w.heap.size 5 (.slice A n c) r ∧ Cur w' g s l j ∧ Only g w w'

/-- While rows of the call's own are written, the cursor stays: its bytes are those of the beginning. -/
theorem Cur.frame {w w1 w2 : World} {g k k' : Nat} {s : Value} {l : List UInt8} {row : Option Nat} (h0 : Cur w g s l k) (hon : Only g w w1) (h1 : Cur w1 g s l k') (hg : w1.grownBy w2 row) (hr : ∀ b, row = some b → w.heap.size ≤ b) : Cur w2 g s l k' := by
  have hlt := h0.lt
  have hnb := h0.noByte
  have hne : some g ≠ row := fun e => by have := hr g e.symm; omega
  have hon2 : Only g w w2 := ⟨hg.os.trans hon.os, hg.tape.trans hon.tape, hg.output.trans hon.output, Nat.le_trans hon.size hg.size, fun i hi hni =>
    (hg.block i (Nat.lt_of_lt_of_le hi hon.size) (fun e => by have := hr i e.symm; omega)).trans (hon.block i hi hni)⟩
  obtain ⟨A, n, c, t, rfl, _, hbs, _⟩ := h0
  obtain ⟨A', n', c', t', e, hg', _, hnc, hk, hn⟩ := h1
  cases e
  exact ⟨A, n, c, t', rfl, (hg.block g (Nat.lt_of_lt_of_le hlt hon.size) hne).trans hg', hbs.only hon2 hnb, hnc, hk, hn⟩
theorem Only.grown {g : Nat} {w w1 w2 : World} {row : Option Nat} (hon : Only g w w1) (hg : w1.grownBy w2 row) (hr : ∀ b, row = some b → w.heap.size ≤ b) : Only g w w2 :=
  ⟨hg.os.trans hon.os, hg.tape.trans hon.tape, hg.output.trans hon.output, Nat.le_trans hon.size hg.size, fun i hi hni =>
    (hg.block i (Nat.lt_of_lt_of_le hi hon.size) (fun e => by have := hr i e.symm; omega)).trans (hon.block i hi hni)⟩

end Go.Proofs.YtbjiknfebocepaaDoor
