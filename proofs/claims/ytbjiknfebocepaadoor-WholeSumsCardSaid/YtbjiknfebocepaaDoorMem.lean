/-
  What needs no program: numbers and structs in memory, blocks that the call itself made, digits at places.
-/
import Derived.Test.YtbjiknfebocepaaDoorCur
import Derived.Test.YtbjiknfebocepaaDoorNum
import Derived.OneCell
import Derived.WalkMore
import Derived.Lib.SmallJoins
namespace Go.Proofs.YtbjiknfebocepaaDoor
open Go.RowKit Go.Joins
set_option linter.unusedVariables false
set_option linter.unusedSimpArgs false
set_option maxRecDepth 4000

/-- A slice's length. -/
def lenV : Value → Nat
  | .slice _ n _ => n
  | _ => 0
/-- A number in memory. -/
def NumV (w : World) (x : Nm) (v : Value) : Prop := ∃ A c, v = .agg #[.bool x.below, .slice A x.size.length c] ∧ Bs w A x.size.length x.size ∧ x.size.length ≤ c
theorem NumV.frame {w w' : World} {x : Nm} {v : Value} (h : NumV w x v) (hb : Below w.heap.size w w') : NumV w' x v := by
  obtain ⟨A, c, rfl, h1, h2⟩ := h
  exact ⟨A, c, rfl, h1.below hb, h2⟩
theorem NumV.mk' {w : World} {A : Option Addr} {n c : Nat} {l : List UInt8} (b : Bool) (h : Bs w A n l) (hc : n ≤ c) : NumV w ⟨b, l⟩ (.agg #[.bool b, .slice A n c]) := by
  have := h.len
  subst this
  exact ⟨A, c, rfl, h, hc⟩
/-- A function handed back a number; nothing old was changed. -/
def NumOut (w : World) (x : Nm) (e : Ending) (w' : World) : Prop := ∃ v, e = .returned v ∧ NumV w' x v ∧ Below w.heap.size w w'
/-- A block that the call itself made. -/
def Blk (w : World) (g : Nat) (t : TypeId) (cs : List Value) : Prop := w.heap[g]? = some (.cells cs.toArray t (0, 0))
theorem Blk.new (w : World) (cs : List Value) (t : TypeId) : Blk (w.alloc (.cells cs.toArray t)) w.heap.size t cs := heap_alloc_new w _
theorem Blk.new2 (w : World) (a b : Value) (t : TypeId) : Blk (w.alloc (.cells #[a, b] t)) w.heap.size t [a, b] := heap_alloc_new w _
theorem Blk.lt {w : World} {g : Nat} {t : TypeId} {cs : List Value} (h : Blk w g t cs) : g < w.heap.size := lt_of_block h
theorem Blk.cell {w : World} {g : Nat} {t : TypeId} {cs : List Value} (h : Blk w g t cs) (i : Nat) : w.cell? ⟨g, i, none⟩ = cs[i]? := by rw [blk_cell h]; simp
theorem Blk.free {w : World} {g : Nat} {t : TypeId} {cs : List Value} (h : Blk w g t cs) (i : Nat) : w.frozen? ⟨g, i, none⟩ = false := blk_frozen h i
theorem Blk.below {w w' : World} {g : Nat} {t : TypeId} {cs : List Value} (h : Blk w g t cs) (hb : Below w.heap.size w w') : Blk w' g t cs := (hb.block g h.lt).trans h
theorem Blk.belowB {w w' : World} {g B : Nat} {t : TypeId} {cs : List Value} (h : Blk w g t cs) (hb : Below B w w') (hg : g < B) : Blk w' g t cs := (hb.block g hg).trans h
theorem Blk.only {w w' : World} {g r : Nat} {t : TypeId} {cs : List Value} (h : Blk w g t cs) (hb : Only r w w') (hne : g ≠ r) : Blk w' g t cs := (hb.block g h.lt (by simpa using hne)).trans h
theorem Blk.set {w : World} {g : Nat} {t : TypeId} {cs : List Value} (h : Blk w g t cs) (i : Nat) (v : Value) : Blk (w.setCell ⟨g, i, none⟩ v) g t (cs.set i v) := by
  unfold Blk at *
  simp [World.setCell, Array.getElem?_modify, h]
theorem Blk.setOther {w : World} {g r : Nat} {t : TypeId} {cs : List Value} (h : Blk w g t cs) (hne : g ≠ r) (i : Nat) (v : Value) : Blk (w.setCell ⟨r, i, none⟩ v) g t cs := (Below.heap_setCell w _ _ g hne).trans h
theorem Blk.bs {w : World} {g : Nat} {t : TypeId} {l : List UInt8} (h : Blk w g t (l.map byteV)) : Bs w (some ⟨g, 0, none⟩) l.length l :=
  ⟨rfl, fun i x hx => ⟨_, _, rfl, by rw [Nat.zero_add, h.cell]; simp [hx, byteV]⟩⟩
theorem Blk.drewN {w : World} {g : Nat} {t : TypeId} {cs : List Value} (h : Blk w g t cs) (n : Nat) : Blk (w.drewN n) g t cs := h
theorem below_set2 {B R : Nat} {w W : World} (hB : Below B w W) (hs : B ≤ W.heap.size) (hR : B ≤ R) (x y : Value) : Below B w ((W.setCell ⟨R, 0, none⟩ x).setCell ⟨R, 1, none⟩ y) :=
  Only.below (((Only.refl R W).setCell rfl x).setCell rfl y) hB hR hs
/-- The digit at a place, counted from the least one. -/
def pl (l : List UInt8) (i : Nat) : Int := if l.length ≤ i then 0 else nth l (l.length - 1 - i)
theorem pl_bound (l : List UInt8) (i : Nat) : 0 ≤ pl l i ∧ pl l i < 256 := by
  unfold pl; split
  · omega
  · exact nth_bound _ _
/-- The value of the lowest i digits. -/
def vp (l : List UInt8) : Nat → Int
  | 0 => 0
  | i + 1 => vp l i + pl l i * 256 ^ i
theorem drop_at {l : List UInt8} {k : Nat} (h : k < l.length) : l.drop k = l.getD k 0 :: l.drop (k + 1) := drop_cons h
theorem vp_val {l : List UInt8} : ∀ i, i ≤ l.length → vp l i = val (l.drop (l.length - i))
  | 0, _ => by simp [vp, val]
  | i + 1, h => by
    rw [vp, vp_val i (by omega), show l.length - i = (l.length - (i + 1)) + 1 by omega, drop_at (k := l.length - (i + 1)) (by omega), val_cons]
    unfold pl
    rw [if_neg (by omega)]
    have : (List.drop (l.length - (i + 1) + 1) l).length = i := by simp; omega
    rw [this]
    unfold nth
    rw [show l.length - 1 - i = l.length - (i + 1) by omega]
    push_cast
    omega
theorem vp_all {l : List UInt8} {i : Nat} (h : l.length ≤ i) : vp l i = val l := by
  induction i with
  | zero => have : l = [] := List.eq_nil_of_length_eq_zero (by omega); subst this; rfl
  | succ i ih =>
    by_cases hi : l.length ≤ i
    · rw [vp, ih hi]; unfold pl; rw [if_pos hi]; simp
    · rw [vp_val _ (by omega), show l.length - (i + 1) = 0 by omega]; simp
theorem u8_byteV (z : Int) (h0 : 0 ≤ z) (h1 : z < 256) : Value.int .u8 z = byteV (UInt8.ofNat z.toNat) := by
  unfold byteV
  rw [UInt8.toNat_ofNat']
  congr 1
  omega
theorem set_drop {o : List UInt8} {k : Nat} (h : k < o.length) (x : UInt8) : (o.set k x).drop k = x :: o.drop (k + 1) := by
  rw [drop_at (l := o.set k x) (by simpa using h)]
  simp [List.getD, h, List.drop_set_of_lt]
theorem zeroB_list (n : Nat) : zeroB n = ((List.replicate n (0 : UInt8)).map byteV).toArray := by
  apply Array.ext
  · simp [zeroB, size_madeCells]
  · intro i h1 h2
    simp [zeroB, madeCells, Nat.mod_one, byteV]
/-- make([]byte, n). -/
theorem run_makeN {P : Program} (t e : TypeId) (i : TypeInfo) (ht : P.underlying t = some (.slice e)) (hi : P.info? e = some i) (hz : i.zero = some (.int .u8 0))
    (hsize : i.size = 1) (hby : i.bytes = 1) (x : Int) (h0 : 0 ≤ x) (hx : x ≤ 1099511627776) (W : World) :
    (Instr.makeSlice t (.int .i64 x) (.int .i64 x)).run P W = .ok (.slice (some ⟨W.heap.size, 0, none⟩) x.toNat x.toNat) (W.alloc (.cells (zeroB x.toNat) e)) := by
  have := run_make (P := P) W t e i _ ht hi hz .i64 .i64 x x h0 (Int.le_refl _) (by rw [hby]; omega) (by omega)
  rw [hsize, Nat.mul_one] at this
  exact this
/-- Three structs of the call's own at R, R + 1, R + 2, made behind w. -/
def Three (w : World) (t : TypeId) (R : Nat) (a b r : List Value) (W : World) : Prop :=
  Blk W R t a ∧ Blk W (R + 1) t b ∧ Blk W (R + 2) t r ∧ Below w.heap.size w W ∧ w.heap.size ≤ R
theorem Three.frame {w : World} {t : TypeId} {R : Nat} {a b r : List Value} {W W' : World} (h : Three w t R a b r W) (hb : Below W.heap.size W W') : Three w t R a b r W' :=
  ⟨h.1.below hb, h.2.1.below hb, h.2.2.1.below hb, h.2.2.2.1.trans (below_le hb h.2.2.2.1.size), h.2.2.2.2⟩
theorem Three.start (w : World) (t : TypeId) (a b c d : Value) (e f : Value) : Three w t w.heap.size [a, b] [c, d] [e, f] (((w.alloc (.cells #[a, b] t)).alloc (.cells #[c, d] t)).alloc (.cells #[e, f] t)) := by
  have h1 := ((Blk.new2 w a b t).below (below_alloc1 _ (.cells #[c, d] t))).below (below_alloc1 _ (.cells #[e, f] t))
  have h2 := (Blk.new2 (w.alloc (.cells #[a, b] t)) c d t).below (below_alloc1 _ (.cells #[e, f] t))
  have h3 := Blk.new2 ((w.alloc (.cells #[a, b] t)).alloc (.cells #[c, d] t)) e f t
  simp at h2 h3
  exact ⟨h1, h2, h3, below_alloc3 _ _ _ _, Nat.le_refl _⟩
/-- The first two are written anew. -/
theorem Three.put {w : World} {t : TypeId} {R : Nat} {a b r : List Value} {a0 a1 b0 b1 : Value} {W : World} (h : Three w t R a b r W) (ha : a.length = 2) (hb : b.length = 2) :
    Three w t R [a0, a1] [b0, b1] r ((((W.setCell ⟨R, 0, none⟩ a0).setCell ⟨R, 1, none⟩ a1).setCell ⟨R + 1, 0, none⟩ b0).setCell ⟨R + 1, 1, none⟩ b1) := by
  obtain ⟨h1, h2, h3, h4, h5⟩ := h
  obtain ⟨x0, x1, rfl⟩ : ∃ x0 x1, a = [x0, x1] := by
    match a, ha with
    | [x0, x1], _ => exact ⟨x0, x1, rfl⟩
  obtain ⟨y0, y1, rfl⟩ : ∃ y0 y1, b = [y0, y1] := by
    match b, hb with
    | [y0, y1], _ => exact ⟨y0, y1, rfl⟩
  have k1 := (((h1.set 0 a0).set 1 a1).setOther (r := R + 1) (by omega) 0 b0).setOther (r := R + 1) (by omega) 1 b1
  have k2 := (((h2.setOther (r := R) (by omega) 0 a0).setOther (r := R) (by omega) 1 a1).set 0 b0).set 1 b1
  have k3 := (((h3.setOther (r := R) (by omega) 0 a0).setOther (r := R) (by omega) 1 a1).setOther (r := R + 1) (by omega) 0 b0).setOther (r := R + 1) (by omega) 1 b1
  refine ⟨k1, k2, k3, ?_, h5⟩
  have l1 := h1.lt
  have b1 := Only.below (((Only.refl R W).setCell (p := ⟨R, 0, none⟩) rfl a0).setCell (p := ⟨R, 1, none⟩) rfl a1) h4 h5 (by omega)
  exact Only.below (((Only.refl (R + 1) _).setCell (p := ⟨R + 1, 0, none⟩) rfl _).setCell (p := ⟨R + 1, 1, none⟩) rfl _) b1 (by omega) (by simp [World.setCell]; omega)
/-- Bytes elsewhere stay. -/
theorem Three.putBs {w : World} {t : TypeId} {R : Nat} {r : List Value} {x0 y0 : Bool} {x1 y1 : Value} {a0 a1 b0 b1 : Value} {W : World} (h : Three w t R [.bool x0, x1] [.bool y0, y1] r W) (hx1 : ∀ x : UInt8, x1 ≠ .int .u8 (x.toNat : Int)) (hy1 : ∀ x : UInt8, y1 ≠ .int .u8 (x.toNat : Int)) (ha1 : ∀ x : UInt8, a1 ≠ .int .u8 (x.toNat : Int)) (ha0 : ∀ x : UInt8, a0 ≠ .int .u8 (x.toNat : Int))
    {A : Option Addr} {n : Nat} {l : List UInt8} (hb : Bs W A n l) : Bs ((((W.setCell ⟨R, 0, none⟩ a0).setCell ⟨R, 1, none⟩ a1).setCell ⟨R + 1, 0, none⟩ b0).setCell ⟨R + 1, 1, none⟩ b1) A n l := by
  obtain ⟨h1, h2, h3, h4, h5⟩ := h
  have k1 := hb.only (((Only.refl R W).setCell (p := ⟨R, 0, none⟩) rfl a0).setCell (p := ⟨R, 1, none⟩) rfl a1) (by
    intro o x hx
    rw [h1.cell o] at hx
    rcases o with _ | _ | o <;> simp at hx
    exact hx1 x hx)
  have k2 := ((h2.setOther (r := R) (by omega) 0 a0).setOther (r := R) (by omega) 1 a1)
  exact k1.only (((Only.refl (R + 1) _).setCell (p := ⟨R + 1, 0, none⟩) rfl b0).setCell (p := ⟨R + 1, 1, none⟩) rfl b1) (by
    intro o x hx
    rw [k2.cell o] at hx
    rcases o with _ | _ | o <;> simp at hx
    exact hy1 x hx)
theorem cell_set2 {W : World} {R Q : Nat} {x y : Value} (hne : R ≠ Q) (i : Nat) : ((W.setCell ⟨Q, 0, none⟩ x).setCell ⟨Q, 1, none⟩ y).cell? ⟨R, i, none⟩ = W.cell? ⟨R, i, none⟩ := by
  unfold World.cell?
  rw [Below.heap_setCell _ _ _ R hne, Below.heap_setCell _ _ _ R hne]
/-- Two structs of the call's own. -/
def Two (w : World) (t : TypeId) (R : Nat) (a r : List Value) (W : World) : Prop :=
  Blk W R t a ∧ Blk W (R + 1) t r ∧ Below w.heap.size w W ∧ w.heap.size ≤ R
theorem Two.frame {w : World} {t : TypeId} {R : Nat} {a r : List Value} {W W' : World} (h : Two w t R a r W) (hb : Below W.heap.size W W') : Two w t R a r W' :=
  ⟨h.1.below hb, h.2.1.below hb, h.2.2.1.trans (below_le hb h.2.2.1.size), h.2.2.2⟩
theorem Two.start (w : World) (t : TypeId) (a b e f : Value) : Two w t w.heap.size [a, b] [e, f] ((w.alloc (.cells #[a, b] t)).alloc (.cells #[e, f] t)) := by
  have h1 := (Blk.new2 w a b t).below (below_alloc1 _ (.cells #[e, f] t))
  have h2 := Blk.new2 (w.alloc (.cells #[a, b] t)) e f t
  simp at h2
  exact ⟨h1, h2, below_alloc2 _ _ _, Nat.le_refl _⟩
theorem Two.put {w : World} {t : TypeId} {R : Nat} {a r : List Value} {a0 a1 : Value} {W : World} (h : Two w t R a r W) (ha : a.length = 2) :
    Two w t R [a0, a1] r ((W.setCell ⟨R, 0, none⟩ a0).setCell ⟨R, 1, none⟩ a1) := by
  obtain ⟨h1, h2, h4, h5⟩ := h
  obtain ⟨x0, x1, rfl⟩ : ∃ x0 x1, a = [x0, x1] := by
    match a, ha with
    | [x0, x1], _ => exact ⟨x0, x1, rfl⟩
  have l1 := h1.lt
  exact ⟨(h1.set 0 a0).set 1 a1, (h2.setOther (r := R) (by omega) 0 a0).setOther (r := R) (by omega) 1 a1, below_set2 h4 (by omega) h5 _ _, h5⟩
/-- Bytes stay where a struct is written. -/
theorem Bs.set2 {W : World} {t : TypeId} {R : Nat} {x0 : Bool} {B : Option Addr} {m d : Nat} {A : Option Addr} {n : Nat} {l : List UInt8} (hb : Bs W A n l) (h : Blk W R t [.bool x0, .slice B m d]) (a0 a1 : Value) :
    Bs ((W.setCell ⟨R, 0, none⟩ a0).setCell ⟨R, 1, none⟩ a1) A n l :=
  hb.only (((Only.refl R W).setCell (p := ⟨R, 0, none⟩) rfl a0).setCell (p := ⟨R, 1, none⟩) rfl a1) (by
    intro o x hx
    rw [h.cell o] at hx
    rcases o with _ | _ | o <;> simp at hx)
/-- One struct of the call's own. -/
def One (w : World) (t : TypeId) (R : Nat) (a : List Value) (W : World) : Prop :=
  Blk W R t a ∧ Below w.heap.size w W ∧ w.heap.size ≤ R
theorem One.frame {w : World} {t : TypeId} {R : Nat} {a : List Value} {W W' : World} (h : One w t R a W) (hb : Below W.heap.size W W') : One w t R a W' :=
  ⟨h.1.below hb, h.2.1.trans (below_le hb h.2.1.size), h.2.2⟩
theorem One.start (w : World) (t : TypeId) (a b : Value) : One w t w.heap.size [a, b] (w.alloc (.cells #[a, b] t)) := ⟨Blk.new2 w a b t, below_alloc1 _ _, Nat.le_refl _⟩
theorem One.put {w : World} {t : TypeId} {R : Nat} {a : List Value} {a0 a1 : Value} {W : World} (h : One w t R a W) (ha : a.length = 2) :
    One w t R [a0, a1] ((W.setCell ⟨R, 0, none⟩ a0).setCell ⟨R, 1, none⟩ a1) := by
  obtain ⟨h1, h4, h5⟩ := h
  obtain ⟨x0, x1, rfl⟩ : ∃ x0 x1, a = [x0, x1] := by
    match a, ha with
    | [x0, x1], _ => exact ⟨x0, x1, rfl⟩
  have l1 := h1.lt
  exact ⟨(h1.set 0 a0).set 1 a1, below_set2 h4 (by omega) h5 _ _, h5⟩
theorem Two.put2 {w : World} {t : TypeId} {R : Nat} {a b : List Value} {a0 a1 b0 b1 : Value} {W : World} (h : Two w t R a b W) (ha : a.length = 2) (hb : b.length = 2) :
    Two w t R [a0, a1] [b0, b1] ((((W.setCell ⟨R, 0, none⟩ a0).setCell ⟨R, 1, none⟩ a1).setCell ⟨R + 1, 0, none⟩ b0).setCell ⟨R + 1, 1, none⟩ b1) := by
  have h1 := h.put (a0 := a0) (a1 := a1) ha
  obtain ⟨k1, k2, k3, k4⟩ := h1
  obtain ⟨y0, y1, rfl⟩ : ∃ y0 y1, b = [y0, y1] := by
    match b, hb with
    | [y0, y1], _ => exact ⟨y0, y1, rfl⟩
  have l1 := k2.lt
  exact ⟨(k1.setOther (r := R + 1) (by omega) 0 b0).setOther (r := R + 1) (by omega) 1 b1, (k2.set 0 b0).set 1 b1, below_set2 k3 (by omega) (by omega) _ _, k4⟩
theorem Two.putBs {w : World} {t : TypeId} {R : Nat} {x0 y0 : Bool} {x1 y1 : Value} {a0 a1 b0 b1 : Value} {W : World} (h : Two w t R [.bool x0, x1] [.bool y0, y1] W) (hx1 : ∀ x : UInt8, x1 ≠ .int .u8 (x.toNat : Int)) (hy1 : ∀ x : UInt8, y1 ≠ .int .u8 (x.toNat : Int)) (ha1 : ∀ x : UInt8, a1 ≠ .int .u8 (x.toNat : Int)) (ha0 : ∀ x : UInt8, a0 ≠ .int .u8 (x.toNat : Int))
    {A : Option Addr} {n : Nat} {l : List UInt8} (hb : Bs W A n l) : Bs ((((W.setCell ⟨R, 0, none⟩ a0).setCell ⟨R, 1, none⟩ a1).setCell ⟨R + 1, 0, none⟩ b0).setCell ⟨R + 1, 1, none⟩ b1) A n l := by
  obtain ⟨h1, h2, h4, h5⟩ := h
  have k1 := hb.only (((Only.refl R W).setCell (p := ⟨R, 0, none⟩) rfl a0).setCell (p := ⟨R, 1, none⟩) rfl a1) (by
    intro o x hx
    rw [h1.cell o] at hx
    rcases o with _ | _ | o <;> simp at hx
    exact hx1 x hx)
  have k2 := ((h2.setOther (r := R) (by omega) 0 a0).setOther (r := R) (by omega) 1 a1)
  exact k1.only (((Only.refl (R + 1) _).setCell (p := ⟨R + 1, 0, none⟩) rfl b0).setCell (p := ⟨R + 1, 1, none⟩) rfl b1) (by
    intro o x hx
    rw [k2.cell o] at hx
    rcases o with _ | _ | o <;> simp at hx
    exact hy1 x hx)
theorem mod_step (S k : Nat) : S % 256 ^ (k + 1) = (S / 256 ^ k % 256) * 256 ^ k + S % 256 ^ k := by
  rw [Nat.pow_succ, Nat.mod_mul, Nat.mul_comm (256 ^ k)]; omega
end Go.Proofs.YtbjiknfebocepaaDoor
