/-
  What needs no program: blocks that the call itself made (structs, rows of bytes).
-/
import Derived.Test.YtbhfaakhcnkegaaTag
import Derived.OneCell
import Derived.WalkMore
import Derived.Lib.SmallJoins
namespace Go.Proofs.Ytbhfaakhcnkegaa
open Go.RowKit Go.Joins
set_option linter.unusedVariables false
set_option linter.unusedSimpArgs false
set_option maxRecDepth 4000

/-- A block that the call itself made. -/
def Blk (w : World) (g : Nat) (t : TypeId) (cs : List Value) : Prop := w.heap[g]? = some (.cells cs.toArray t (0, 0))
theorem Blk.new (w : World) (cs : List Value) (t : TypeId) : Blk (w.alloc (.cells cs.toArray t)) w.heap.size t cs := heap_alloc_new w _
theorem Blk.new2 (w : World) (a b : Value) (t : TypeId) : Blk (w.alloc (.cells #[a, b] t)) w.heap.size t [a, b] := heap_alloc_new w _
theorem Blk.lt {w : World} {g : Nat} {t : TypeId} {cs : List Value} (h : Blk w g t cs) : g < w.heap.size := lt_of_block h
theorem Blk.cell {w : World} {g : Nat} {t : TypeId} {cs : List Value} (h : Blk w g t cs) (i : Nat) : w.cell? ⟨g, i, none⟩ = cs[i]? := by rw [blk_cell h]; simp
theorem Blk.free {w : World} {g : Nat} {t : TypeId} {cs : List Value} (h : Blk w g t cs) (i : Nat) : w.frozen? ⟨g, i, none⟩ = false := blk_frozen h i
theorem Blk.below {w w' : World} {g : Nat} {t : TypeId} {cs : List Value} (h : Blk w g t cs) (hb : Below w.heap.size w w') : Blk w' g t cs := (hb.block g h.lt).trans h
theorem Blk.belowB {w w' : World} {g B : Nat} {t : TypeId} {cs : List Value} (h : Blk w g t cs) (hb : Below B w w') (hg : g < B) : Blk w' g t cs := (hb.block g hg).trans h
theorem Blk.only {w w' : World} {g r : Nat} {t : TypeId} {cs : List Value} (h : Blk w g t cs) (hb : Only r w w') (hne : g ≠ r) : Blk w' g t cs := (hb.block g h.lt (by simpa using hne)).trans h
theorem Blk.set {w : World} {g : Nat} {t : TypeId} {cs : List Value} (h : Blk w g t cs) (i : Nat) (v : Value) : Blk (w.setCell ⟨g, i, none⟩ v) g t (cs.set i v) := by
  unfold Blk at *
  simp [World.setCell, Array.getElem?_modify, h]
theorem Blk.setOther {w : World} {g r : Nat} {t : TypeId} {cs : List Value} (h : Blk w g t cs) (hne : g ≠ r) (i : Nat) (v : Value) : Blk (w.setCell ⟨r, i, none⟩ v) g t cs := (Below.heap_setCell w _ _ g hne).trans h
theorem Blk.bs {w : World} {g : Nat} {t : TypeId} {l : List UInt8} (h : Blk w g t (l.map byteV)) : Bs w (some ⟨g, 0, none⟩) l.length l :=
  ⟨rfl, fun i x hx => ⟨_, _, rfl, by rw [Nat.zero_add, h.cell]; simp [hx, byteV]⟩⟩
theorem Blk.drewN {w : World} {g : Nat} {t : TypeId} {cs : List Value} (h : Blk w g t cs) (n : Nat) : Blk (w.drewN n) g t cs := h
theorem below_set2 {B R : Nat} {w W : World} (hB : Below B w W) (hs : B ≤ W.heap.size) (hR : B ≤ R) (x y : Value) : Below B w ((W.setCell ⟨R, 0, none⟩ x).setCell ⟨R, 1, none⟩ y) :=
  Only.below (((Only.refl R W).setCell rfl x).setCell rfl y) hB hR hs
theorem u8_byteV (z : Int) (h0 : 0 ≤ z) (h1 : z < 256) : Value.int .u8 z = byteV (UInt8.ofNat z.toNat) := by
  unfold byteV
  rw [UInt8.toNat_ofNat']
  congr 1
  omega
theorem zeroB_list (n : Nat) : zeroB n = ((List.replicate n (0 : UInt8)).map byteV).toArray := by
  apply Array.ext
  · simp [zeroB, size_madeCells]
  · intro i h1 h2
    simp [zeroB, madeCells, Nat.mod_one, byteV]
/-- make([]byte, n). -/
theorem run_makeN {P : Program} (t e : TypeId) (i : TypeInfo) (ht : P.underlying t = some (.slice e)) (hi : P.info? e = some i) (hz : i.zero = some (.int .u8 0))
    (hsize : i.size = 1) (hby : i.bytes = 1) (x : Int) (h0 : 0 ≤ x) (hx : x ≤ 1099511627776) (W : World) :
    (Instr.makeSlice t (.int .i64 x) (.int .i64 x)).run P W = .ok (.slice (some ⟨W.heap.size, 0, none⟩) x.toNat x.toNat) (W.alloc (.cells (zeroB x.toNat) e)) := by
  have := run_make (P := P) W t e i _ ht hi hz .i64 .i64 x x h0 (Int.le_refl _) (by rw [hby]; omega) (by omega)
  rw [hsize, Nat.mul_one] at this
  exact this
theorem cell_set2 {W : World} {R Q : Nat} {x y : Value} (hne : R ≠ Q) (i : Nat) : ((W.setCell ⟨Q, 0, none⟩ x).setCell ⟨Q, 1, none⟩ y).cell? ⟨R, i, none⟩ = W.cell? ⟨R, i, none⟩ := by
  unfold World.cell?
  rw [Below.heap_setCell _ _ _ R hne, Below.heap_setCell _ _ _ R hne]
theorem Blk.drew {w : World} {g : Nat} {t : TypeId} {cs : List Value} (h : Blk w g t cs) : Blk w.drew g t cs := h
theorem Blk.alloc {w : World} {g : Nat} {t : TypeId} {cs : List Value} (h : Blk w g t cs) (o : Obj) : Blk (w.alloc o) g t cs := h.below (below_alloc1 w o)
theorem Blk.two {w : World} {g : Nat} {t : TypeId} {a b : Value} (h : Blk w g t [a, b]) : w.cell? ⟨g, 0, none⟩ = some a ∧ w.cell? ⟨g, 1, none⟩ = some b ∧ w.frozen? ⟨g, 0, none⟩ = false ∧ w.frozen? ⟨g, 1, none⟩ = false :=
  ⟨h.cell 0, h.cell 1, h.free 0, h.free 1⟩
theorem Blk.put {w : World} {g : Nat} {t : TypeId} {a b : Value} (h : Blk w g t [a, b]) (x y : Value) : Blk ((w.setCell ⟨g, 0, none⟩ x).setCell ⟨g, 1, none⟩ y) g t [x, y] := (h.set 0 x).set 1 y
theorem Blk.putOther {w : World} {g r : Nat} {t : TypeId} {cs : List Value} (h : Blk w g t cs) (hne : g ≠ r) (x y : Value) : Blk ((w.setCell ⟨r, 0, none⟩ x).setCell ⟨r, 1, none⟩ y) g t cs := (h.setOther hne 0 x).setOther hne 1 y
/-- No byte among them. -/
def NoB (cs : List Value) : Prop := ∀ (i : Nat) (x : UInt8), cs[i]? ≠ some (.int .u8 (x.toNat : Int))
theorem NoB.two {a b : Value} (ha : ∀ x : UInt8, a ≠ .int .u8 (x.toNat : Int)) (hb : ∀ x : UInt8, b ≠ .int .u8 (x.toNat : Int)) : NoB [a, b] := by
  intro i x
  match i with
  | 0 => simpa using ha x
  | 1 => simpa using hb x
  | i + 2 => simp
theorem NoB.str (u : Int) (A : Option Addr) (n c : Nat) : NoB [.int .i64 u, .slice A n c] := NoB.two (by simp) (by simp)
theorem Blk.noByte {w : World} {g : Nat} {t : TypeId} {cs : List Value} (h : Blk w g t cs) (hn : NoB cs) : ∀ o (x : UInt8), w.cell? ⟨g, o, none⟩ ≠ some (.int .u8 (x.toNat : Int)) := by
  intro o x; rw [h.cell]; exact hn o x
/-- Bytes stay where another block is written. -/
theorem Bs.put {w : World} {g : Nat} {t : TypeId} {cs : List Value} {A : Option Addr} {n : Nat} {l : List UInt8} (hb : Bs w A n l) (h : Blk w g t cs) (hn : NoB cs) (x y : Value) : Bs ((w.setCell ⟨g, 0, none⟩ x).setCell ⟨g, 1, none⟩ y) A n l :=
  hb.only (((Only.refl g w).setCell (p := ⟨g, 0, none⟩) rfl x).setCell (p := ⟨g, 1, none⟩) rfl y) (h.noByte hn)
theorem Bs.put1 {w : World} {g i : Nat} {t : TypeId} {cs : List Value} {A : Option Addr} {n : Nat} {l : List UInt8} (hb : Bs w A n l) (h : Blk w g t cs) (hn : NoB cs) (x : Value) : Bs (w.setCell ⟨g, i, none⟩ x) A n l :=
  hb.only ((Only.refl g w).setCell (p := ⟨g, i, none⟩) rfl x) (h.noByte hn)
/-- A row of the call's own stays, too. -/
theorem Blk.notRow {w : World} {g B size k : Nat} {t e : TypeId} {v : Value} {cs xs : List Value} (h : Blk w g t cs) (ho : w.ownsRow B e size v k xs) (hne : t ≠ e) : v.ownBlock ≠ some g := by
  intro hg
  rcases ho.2 with ⟨rfl, _⟩ | ⟨g', cap, cur, rfl, _, hh, _⟩
  · simp [Value.ownBlock] at hg
  · simp [Value.ownBlock] at hg
    subst hg
    unfold Blk at h
    rw [h] at hh
    simp at hh
    exact hne hh.2
theorem Ob.put {w : World} {g B : Nat} {t e : TypeId} {v : Value} {cs : List Value} {l : List UInt8} (ho : Ob w B e v l) (h : Blk w g t cs) (hne : t ≠ e) (x y : Value) : Ob ((w.setCell ⟨g, 0, none⟩ x).setCell ⟨g, 1, none⟩ y) B e v l :=
  ownsRow_setCell_other (ownsRow_setCell_other ho (h.notRow ho hne) x) (h.notRow ho hne) y
theorem Blk.size {w : World} {g : Nat} (x y : Value) : ((w.setCell ⟨g, 0, none⟩ x).setCell ⟨g, 1, none⟩ y).heap.size = w.heap.size := by simp [World.setCell]

end Go.Proofs.Ytbhfaakhcnkegaa
