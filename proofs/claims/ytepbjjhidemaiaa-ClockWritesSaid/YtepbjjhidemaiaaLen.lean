/-
  The next length of any bytes, and both, as the document says them: the plain functions, and the calls of the reference that answer so.
-/
import Derived.Test.YtepbjjhidemaiaaTag
namespace Go.Proofs.Ytepbjjhidemaiaa
open Go.RowKit
set_option linter.unusedVariables false
set_option linter.unusedSimpArgs false
set_option maxRecDepth 4000

/-- The number of f digits in base 256 from place p on, behind z. -/
def bign (l : List UInt8) : Nat → Nat → Int → Int
  | _, 0, z => z
  | p, f + 1, z => bign l (p + 1) f (256 * z + nth l p)

/-- The length at place k, the place behind it, the error's number. -/
def rLen (l : List UInt8) (k : Nat) : Int × Nat × Int :=
  if l.length ≤ k then (0, k, 3)
  else if nth l k < 128 then (nth l k, k + 1, 0)
  else if nth l k = 128 ∨ 132 < nth l k then (0, k, 5)
  else if l.length < k + 1 + (nth l k - 128).toNat then (0, k, 3)
  else if nth l (k + 1) = 0 ∨ bign l (k + 1) (nth l k - 128).toNat 0 < 128 then (0, k, 5)
  else if 16777216 < bign l (k + 1) (nth l k - 128).toNat 0 then (0, k, 2)
  else (bign l (k + 1) (nth l k - 128).toNat 0, k + (nth l k - 128).toNat + 1, 0)

def lenV (r : Int × Nat × Int) : Ending := .returned (.tuple #[.int .i64 r.1, .int .i64 (r.2.1 : Int), .int .i64 r.2.2])

/-- Both. -/
def rHead (l : List UInt8) (k : Nat) : Tg × Int × Nat × Int :=
  if (rTag l k).2.2 = 0 then
    (if (rLen l (rTag l k).2.1).2.2 = 0 then ((rTag l k).1, (rLen l (rTag l k).2.1).1, (rLen l (rTag l k).2.1).2.1, 0) else (tg0, 0, k, (rLen l (rTag l k).2.1).2.2))
  else (tg0, 0, k, (rTag l k).2.2)
def headV (r : Tg × Int × Nat × Int) : Ending := .returned (.tuple #[r.1.v, .int .i64 r.2.1, .int .i64 (r.2.2.1 : Int), .int .i64 r.2.2.2])

theorem rTag_le (l : List UInt8) (k : Nat) (hk : k ≤ l.length) : (rTag l k).2.1 ≤ l.length := by
  have hd : ∀ f i z c m, (digs2 l k c m f i z).2.1 ≤ l.length := by
    intro f
    induction f with
    | zero => intro i z c m; unfold digs2; split <;> simpa using hk
    | succ f ih =>
      intro i z c m
      unfold digs2
      split
      · simpa using hk
      · split
        · simpa using hk
        · split
          · split
            · simpa using hk
            · show k + i + 1 ≤ _; omega
          · exact ih _ _ _ _
  unfold rTag
  split
  · simpa using hk
  · split
    · show k + 1 ≤ _; omega
    · exact hd _ _ _ _ _

/-- A block of three cells that the call itself made stays as it is while others only make new ones. -/
def Own3 (W : World) (R : Nat) (a b c : Value) : Prop :=
  W.cell? ⟨R, 0, none⟩ = some a ∧ W.cell? ⟨R, 1, none⟩ = some b ∧ W.cell? ⟨R, 2, none⟩ = some c ∧ W.frozen? ⟨R, 0, none⟩ = false ∧ W.frozen? ⟨R, 1, none⟩ = false ∧ W.frozen? ⟨R, 2, none⟩ = false
theorem Own3.new (w : World) (a b c : Value) (t : TypeId) : Own3 (w.alloc (.cells #[a, b, c] t)) w.heap.size a b c := by
  have hb := heap_alloc_new w (.cells #[a, b, c] t)
  exact ⟨by rw [blk_cell hb]; rfl, by rw [blk_cell hb]; rfl, by rw [blk_cell hb]; rfl, blk_frozen hb _, blk_frozen hb _, blk_frozen hb _⟩
theorem Own3.below {W W' : World} {R : Nat} {a b c : Value} (h : Own3 W R a b c) (hb : Below W.heap.size W W') : Own3 W' R a b c := by
  obtain ⟨h0, h1, h2, f0, f1, f2⟩ := h
  have keep : ∀ {p : Addr} {v : Value}, W.cell? p = some v → W'.cell? p = some v := fun hp => (hb.cell (World.block_lt_of_cell? W _ hp)).trans hp
  have keepf : ∀ {p : Addr} {v : Value}, W.cell? p = some v → W'.frozen? p = W.frozen? p := fun hp => hb.frozen (World.block_lt_of_cell? W _ hp)
  exact ⟨keep h0, keep h1, keep h2, (keepf h0).trans f0, (keepf h1).trans f1, (keepf h2).trans f2⟩

theorem below_set3 {B R : Nat} {w W : World} (hB : Below B w W) (hs : B ≤ W.heap.size) (hR : B ≤ R) (x y z : Value) : Below B w (((W.setCell ⟨R, 0, none⟩ x).setCell ⟨R, 1, none⟩ y).setCell ⟨R, 2, none⟩ z) :=
  Only.below ((((Only.refl R W).setCell rfl x).setCell rfl y).setCell rfl z) hB hR hs

end Go.Proofs.Ytepbjjhidemaiaa
