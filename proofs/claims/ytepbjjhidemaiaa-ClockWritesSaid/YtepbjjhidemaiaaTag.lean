/-
  The next tag and the next length of any bytes, as the document says them: the plain functions, and the calls of the reference that answer so.
-/
import Derived.Test.YtepbjjhidemaiaaHex
namespace Go.Proofs.Ytepbjjhidemaiaa
open Go.RowKit
set_option linter.unusedVariables false
set_option linter.unusedSimpArgs false
set_option maxRecDepth 4000

/-- A tag: its class, its number, whether it is made. -/
structure Tg where
  cls : Int
  num : Int
  made : Bool
  deriving DecidableEq
def Tg.v (t : Tg) : Value := .agg #[.int .i64 t.cls, .int .i64 t.num, .bool t.made]
def tg0 : Tg := ⟨0, 0, false⟩
/-- The tag that one byte says. -/
def tg1 (x : Int) : Tg := ⟨x / 64, x % 32, x / 32 % 2 == 1⟩

/-- The digits of a number from place k + i on, n so far; at most f more of them before the fourth. -/
def digs2 (l : List UInt8) (k : Nat) (c : Int) (m : Bool) : Nat → Nat → Int → Tg × Nat × Int
  | 0, i, _ => if l.length ≤ k + i then (tg0, k, 3) else (tg0, k, 4)
  | f + 1, i, n =>
    if l.length ≤ k + i then (tg0, k, 3)
    else if i = 1 ∧ nth l (k + i) = 128 then (tg0, k, 4)
    else if nth l (k + i) < 128 then
      (if 128 * n + nth l (k + i) % 128 < 31 then (tg0, k, 4) else (⟨c, 128 * n + nth l (k + i) % 128, m⟩, k + i + 1, 0))
    else digs2 l k c m f (i + 1) (128 * n + nth l (k + i) % 128)

/-- The tag at place k, the place behind it, the error's number. -/
def rTag (l : List UInt8) (k : Nat) : Tg × Nat × Int :=
  if l.length ≤ k then (tg0, k, 3)
  else if nth l k % 32 < 31 then (tg1 (nth l k), k + 1, 0)
  else digs2 l k (nth l k / 64) (nth l k / 32 % 2 == 1) 3 1 0

/-- What a reader of tags hands back. -/
def tagV (r : Tg × Nat × Int) : Ending := .returned (.tuple #[r.1.v, .int .i64 (r.2.1 : Int), .int .i64 r.2.2])

def blkT (x y : Int) (z : Bool) : Obj := .cells #[.int .i64 x, .int .i64 y, .bool z] 40
theorem below_alloc1 (w : World) (o : Obj) : Below w.heap.size w (w.alloc o) := (Below.refl _ _).alloc (Nat.le_refl _) _
theorem below_alloc2 (w : World) (o o' : Obj) : Below w.heap.size w ((w.alloc o).alloc o') := (below_alloc1 w o).alloc (by simp) _

end Go.Proofs.Ytepbjjhidemaiaa
