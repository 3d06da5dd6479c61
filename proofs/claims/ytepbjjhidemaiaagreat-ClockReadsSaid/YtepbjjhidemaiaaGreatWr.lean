/-
  Tags and lengths as bytes, as the document says them, and the calls of the reference that answer so.
-/
import Derived.Test.YtepbjjhidemaiaaGreatLen
import Derived.Laws.OwnMore
namespace Go.Proofs.YtepbjjhidemaiaaGreat
open Go.RowKit
set_option linter.unusedVariables false
set_option linter.unusedSimpArgs false
set_option maxRecDepth 4000

/-- A number as a byte. -/
def u8 (z : Int) : UInt8 := UInt8.ofNat z.toNat
theorem u8_val (z : Int) (h0 : 0 ≤ z) (h1 : z < 256) : z = ((u8 z).toNat : Int) := by
  unfold u8; rw [UInt8.toNat_ofNat']; omega
theorem Ob.lit (w : World) (base : Nat) (e : TypeId) (l : List UInt8) (cs : Array Value) (hb : base ≤ w.heap.size) (hcs : cs = (l.map byteV).toArray) (hl : l.length ≤ 1000) :
    Ob (w.alloc (.cells cs e)) base e (.slice (some ⟨w.heap.size, 0, none⟩) l.length l.length) l := by
  subst hcs
  have := World.ownsRow_lit (base := base) (e := e) (size := 1) w (l.map byteV).toArray l.length hb (by unfold maxLen; omega) (by simp)
  simpa [Ob] using this

/-- A length's bytes. -/
def lenB (n : Int) : List UInt8 :=
  if n < 128 then [u8 n] else if n < 256 then [129, u8 n] else if n < 65536 then [130, u8 (n / 256), u8 (n % 256)]
  else if n < 16777216 then [131, u8 (n / 65536), u8 (n / 256 % 256), u8 (n % 256)]
  else [132, u8 (n / 16777216), u8 (n / 65536 % 256), u8 (n / 256 % 256), u8 (n % 256)]

theorem byteV_u8 (z : Int) (h0 : 0 ≤ z) (h1 : z < 256) : byteV (u8 z) = .int .u8 z := by unfold byteV; rw [← u8_val z h0 h1]

/-- A tag's bytes. -/
def tagB (t : Tg) : List UInt8 :=
  if t.num < 31 then [u8 (64 * t.cls + (if t.made then 32 else 0) + t.num)]
  else [u8 (64 * t.cls + (if t.made then 32 else 0) + 31)] ++ (if 16384 ≤ t.num then [u8 (128 + t.num / 16384)] else []) ++ (if 128 ≤ t.num then [u8 (128 + t.num / 128 % 128)] else []) ++ [u8 (t.num % 128)]
/-- A tag that may be. -/
def Tg.right (t : Tg) : Prop := 0 ≤ t.cls ∧ t.cls < 4 ∧ 0 ≤ t.num ∧ t.num < 2097152

/-- The blocks of Bytes: its tag, and the row of its own. -/
def WrSt (w W : World) (x y z v : Value) (l : List UInt8) : Prop := Below w.heap.size w W ∧ Own3 W w.heap.size x y z ∧ Ob W (w.heap.size + 1) 5 v l
theorem Own3.grown {W W' : World} {R : Nat} {a b c : Value} {row : Option Nat} (h : Own3 W R a b c) (hg : W.grownBy W' row) (hne : some R ≠ row) : Own3 W' R a b c := by
  obtain ⟨h0, h1, h2, f0, f1, f2⟩ := h
  have keep : ∀ {i : Nat} {v : Value}, W.cell? ⟨R, i, none⟩ = some v → W'.cell? ⟨R, i, none⟩ = some v := fun hp => hg.cell hp hne
  have keepf : ∀ {i : Nat} {v : Value}, W.cell? ⟨R, i, none⟩ = some v → W'.frozen? ⟨R, i, none⟩ = W.frozen? ⟨R, i, none⟩ := fun hp => World.frozen?_of_block (hg.block R (World.block_lt_of_cell? W _ hp) hne)
  exact ⟨keep h0, keep h1, keep h2, (keepf h0).trans f0, (keepf h1).trans f1, (keepf h2).trans f2⟩
theorem WrSt.step {w W W' : World} {x y z v v' : Value} {l l' : List UInt8} {o : Obj} (h : WrSt w W x y z v l) (hob : Ob W' (w.heap.size + 1) 5 v' l') (hg : (W.alloc o).grownBy W' v.ownBlock) : WrSt w W' x y z v' l' := by
  obtain ⟨hB, ho, hb⟩ := h
  have hlt : ∀ k, v.ownBlock = some k → w.heap.size + 1 ≤ k := fun k hk => (hb.lt k hk).1
  refine ⟨(hB.alloc hB.size o).grown hg (by have := hB.size; simp; omega) (fun k hk => by have := hlt k hk; omega), (ho.below (below_alloc1 W o)).grown hg (fun e => by have := hlt _ e.symm; omega), hob⟩
theorem Bs.new1m {W : World} {m : Nat} {x : Int} {e : TypeId} (a : UInt8) (hx : x = (a.toNat : Int)) (hm : W.heap.size = m) : Bs (W.alloc (.cells #[.int .u8 x] e)) (some ⟨m, 0, none⟩) 1 [a] := by
  subst hm; exact Bs.new1 W a x e hx
theorem WrSt.start (w : World) (x y z : Value) (t : TypeId) (b : UInt8) (u : Int) (hu : u = (b.toNat : Int)) : WrSt w ((w.alloc (.cells #[x, y, z] t)).alloc (.cells #[.int .u8 u] 5)) x y z (.slice (some ⟨w.heap.size + 1, 0, none⟩) 1 1) [b] := by
  refine ⟨below_alloc2 _ _ _, (Own3.new w x y z t).below (below_alloc1 _ _), ?_⟩
  have := Ob.lit (w.alloc (.cells #[x, y, z] t)) (w.heap.size + 1) 5 [b] #[.int .u8 u] (by simp) (by subst hu; rfl) (by simp)
  simpa using this

end Go.Proofs.YtepbjjhidemaiaaGreat
