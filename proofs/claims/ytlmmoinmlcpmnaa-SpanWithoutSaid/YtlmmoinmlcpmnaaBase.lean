/-
  What needs no program: bytes in memory, worlds that only drew, a cursor's block, and the plain functions on lists of bytes.
-/
import Derived.WalkKit
import Derived.WalkSpells
import Derived.WalkLawsBesides
import Derived.Deep.QuietTactic
import Derived.BigQuiet
import Derived.Lib.Hide
import Derived.Deep.Draws
import Derived.Laws.OwnMore
import Derived.Laws.IdiomStrings
import Derived.Lib.Bytealg
import Derived.Lib.BytesEntry
import Derived.Lib.LazyBuf
import Derived.Lib.SlBytesConst
import Derived.Maps.AppendAt
import Derived.Deep.AppendLies
import Derived.OwnWalk
import Derived.KernelRfl
import Derived.OpenShut
namespace Go.Proofs.Ytlmmoinmlcpmnaa
open Go.RowKit
set_option linter.unusedVariables false
set_option linter.unusedSimpArgs false
set_option maxRecDepth 4000

/-! ### worlds -/

/-- Only draws were made. -/
def Qt (w w' : World) : Prop := ∃ k, w' = w.drewN k
theorem Qt.refl (w : World) : Qt w w := ⟨0, rfl⟩
theorem Qt.trans {a b c : World} (h : Qt a b) (k : Qt b c) : Qt a c := by
  obtain ⟨x, rfl⟩ := h; obtain ⟨y, rfl⟩ := k; exact ⟨_, World.drewN_drewN _ _ _⟩
theorem Qt.drewN {a b : World} (h : Qt a b) (n : Nat) : Qt a (b.drewN n) := h.trans ⟨n, rfl⟩
theorem Qt.drew {a b : World} (h : Qt a b) : Qt a b.drew := h.trans ⟨1, rfl⟩
theorem Qt.of (w : World) (n : Nat) : Qt w (w.drewN n) := ⟨n, rfl⟩
theorem below_drewN {B : Nat} {a w : World} (h : Below B a w) (n : Nat) : Below B a (w.drewN n) := ⟨h.os, h.tape, h.output, h.size, h.block⟩
theorem Qt.below {B : Nat} {w w' : World} (h : Qt w w') : Below B w w' := by
  obtain ⟨k, rfl⟩ := h; exact below_drewN (Below.refl _ _) k

/-- Only block g, and what is new, may have changed. -/
abbrev Only (g : Nat) (w w' : World) : Prop := w.grownBy w' (some g)
theorem Only.refl (g : Nat) (w : World) : Only g w w := World.grownBy.refl w _
theorem Only.trans {g : Nat} {a b c : World} (h : Only g a b) (k : Only g b c) : Only g a c :=
  ⟨k.os.trans h.os, k.tape.trans h.tape, k.output.trans h.output, Nat.le_trans h.size k.size,
   fun i hi hne => (k.block i (Nat.lt_of_lt_of_le hi h.size) hne).trans (h.block i hi hne)⟩
theorem Only.of_below {g : Nat} {a w : World} (h : Below a.heap.size a w) : Only g a w := ⟨h.os, h.tape, h.output, h.size, fun i hi _ => h.block i hi⟩
theorem Only.of_qt {g : Nat} {a w : World} (h : Qt a w) : Only g a w := Only.of_below h.below
theorem Only.drewN {g : Nat} {a w : World} (h : Only g a w) (n : Nat) : Only g a (w.drewN n) := ⟨h.os, h.tape, h.output, h.size, h.block⟩
theorem Only.drew {g : Nat} {a w : World} (h : Only g a w) : Only g a w.drew := ⟨h.os, h.tape, h.output, h.size, h.block⟩
theorem Only.setCell {g : Nat} {a w : World} (h : Only g a w) {p : Addr} (hp : p.block = g) (u : Value) : Only g a (w.setCell p u) :=
  ⟨h.os, h.tape, h.output, by simpa [World.setCell] using h.size, fun i hi hne => (Below.heap_setCell w p u i (by
    rintro rfl
    exact hne (by rw [hp]))).trans (h.block i hi hne)⟩
theorem Only.below {g B : Nat} {a w w' : World} (h : Only g w w') (hb : Below B a w) (hg : B ≤ g) (hB : B ≤ w.heap.size) : Below B a w' :=
  hb.grown h hB (by intro k hk; cases hk; exact hg)

/-! ### bytes in memory -/

/-- The slice at address A, of length n, reads as the bytes l. -/
def Bs (w : World) (A : Option Addr) (n : Nat) (l : List UInt8) : Prop :=
  l.length = n ∧ ∀ i x, l[i]? = some x → ∃ b o, A = some ⟨b, o, none⟩ ∧ w.cell? ⟨b, o + i, none⟩ = some (.int .u8 (x.toNat : Int))

theorem Bs.len {w : World} {A : Option Addr} {n : Nat} {l : List UInt8} (h : Bs w A n l) : l.length = n := h.1
/-- The byte at place k, as a number. -/
def nth (l : List UInt8) (k : Nat) : Int := ((l.getD k 0).toNat : Int)
theorem nth_bound (l : List UInt8) (k : Nat) : 0 ≤ nth l k ∧ nth l k < 256 := by
  unfold nth; have := UInt8.toNat_lt (l.getD k 0); omega
theorem Bs.at_ {w : World} {A : Option Addr} {n : Nat} {l : List UInt8} (h : Bs w A n l) {k : Nat} (hk : k < n) :
    ∃ b o, A = some ⟨b, o, none⟩ ∧ w.cell? ⟨b, o + k, none⟩ = some (.int .u8 (nth l k)) := by
  have hl : k < l.length := by have := h.1; omega
  have := h.2 k _ (List.getElem?_eq_getElem hl)
  simpa [nth, List.getD, List.getElem?_eq_getElem hl] using this
theorem Bs.drewN {w : World} {A : Option Addr} {n : Nat} {l : List UInt8} (h : Bs w A n l) (k : Nat) : Bs (w.drewN k) A n l := h
theorem Bs.drew {w : World} {A : Option Addr} {n : Nat} {l : List UInt8} (h : Bs w A n l) : Bs w.drew A n l := h
theorem Bs.keep {w w' : World} {A : Option Addr} {n : Nat} {l : List UInt8} (h : Bs w A n l)
    (hk : ∀ (p : Addr) (x : UInt8), w.cell? p = some (.int .u8 (x.toNat : Int)) → w'.cell? p = some (.int .u8 (x.toNat : Int))) : Bs w' A n l :=
  ⟨h.1, fun i x hx => let ⟨b, o, e, hc⟩ := h.2 i x hx; ⟨b, o, e, hk _ _ hc⟩⟩
theorem Bs.below {w w' : World} {A : Option Addr} {n : Nat} {l : List UInt8} (h : Bs w A n l) (hb : Below w.heap.size w w') : Bs w' A n l :=
  h.keep fun _ _ hc => (hb.cell (World.block_lt_of_cell? w _ hc)).trans hc
theorem Bs.qt {w w' : World} {A : Option Addr} {n : Nat} {l : List UInt8} (h : Bs w A n l) (hb : Qt w w') : Bs w' A n l := h.below hb.below
theorem Bs.nil (w : World) (A : Option Addr) : Bs w A 0 [] := ⟨rfl, fun i x h => by simp at h⟩
theorem Bs.take {w : World} {A : Option Addr} {n : Nat} {l : List UInt8} (h : Bs w A n l) {m : Nat} (hm : m ≤ n) : Bs w A m (l.take m) :=
  ⟨by simp [h.1]; omega, fun i x hx => h.2 i x (by rw [List.getElem?_take] at hx; split at hx <;> simp_all)⟩

/-- A block that holds no byte is not where bytes lie. -/
theorem Bs.only {w w' : World} {A : Option Addr} {n : Nat} {l : List UInt8} {g : Nat} (h : Bs w A n l) (hb : Only g w w')
    (hg : ∀ o (x : UInt8), w.cell? ⟨g, o, none⟩ ≠ some (.int .u8 (x.toNat : Int))) : Bs w' A n l :=
  ⟨h.1, fun i x hx => by
    obtain ⟨b, o, e, hc⟩ := h.2 i x hx
    refine ⟨b, o, e, ?_⟩
    have hne : b ≠ g := by rintro rfl; exact hg _ _ hc
    exact hb.cell hc (by simpa using hne)⟩


theorem Addr.add_none (b o i : Nat) : (⟨b, o, none⟩ : Addr).add i = ⟨b, o + i, none⟩ := by unfold Addr.add; split <;> simp_all

theorem Bs.cut {w : World} {A : Option Addr} {n : Nat} {l : List UInt8} (h : Bs w A n l) {i j : Nat} (hij : i ≤ j) (hj : j ≤ n) :
    Bs w (Option.map (fun x => x.add i) A) (j - i) ((l.drop i).take (j - i)) := by
  refine ⟨by simp [h.1]; omega, fun k x hx => ?_⟩
  rw [List.getElem?_take] at hx
  split at hx
  · rw [List.getElem?_drop] at hx
    obtain ⟨b, o, rfl, hc⟩ := h.2 _ x hx
    refine ⟨b, o + i, by simp [Addr.add_none], ?_⟩
    rw [Nat.add_assoc]; exact hc
  · cases hx
theorem Bs.cut0 {w : World} {A : Option Addr} {n : Nat} {l : List UInt8} (h : Bs w A n l) {i j : Nat} (hij : i ≤ j) (hj : j ≤ n) (hi : n ≤ i) :
    Bs w A (j - i) ((l.drop i).take (j - i)) := by
  have e : j - i = 0 := by omega
  rw [e, List.take_zero]; exact Bs.nil _ _

/-- string(b). -/
theorem Bs.convert {P : Program} {w : World} {A : Option Addr} {n : Nat} {l : List UInt8} (h : Bs w A n l) (c : Nat) (src dst e : TypeId)
    (hs : P.underlying src = some (.slice e)) (he : P.underlying e = some (.int .u8)) (hd : P.underlying dst = some .string) :
    (convert src dst (.slice A n c)).run P w = .ok (.string ⟨l.toArray⟩) w := by
  obtain ⟨rfl, h⟩ := h
  rcases l with _ | ⟨x, r⟩
  · rcases A with _ | a
    · exact run_convert_bytes_nil w src e hs he _ _ dst hd
    · exact run_convert_bytes_back w src dst e a c [] hs he hd (by simp)
  · obtain ⟨b, o, rfl, _⟩ := h 0 x rfl
    refine run_convert_bytes_back w src dst e _ c (x :: r) hs he hd (fun j hj => ?_)
    obtain ⟨b', o', e', hc⟩ := h j _ (List.getElem?_eq_getElem hj)
    cases e'
    rw [Addr.add_none]; exact hc

/-- The bytes that a stand-in of the library loads. -/
theorem Bs.bytesOf {P : Program} {w : World} {A : Option Addr} {n : Nat} {l : List UInt8} (h : Bs w A n l) (c : Nat) :
    (Extern.Bytes.bytesOf (.slice A n c)).run P w = .ok ⟨l.toArray⟩ w := by
  have key : ∀ (l : List UInt8) (b o : Nat) (acc : ByteArray), (∀ i x, l[i]? = some x → w.cell? ⟨b, o + i, none⟩ = some (.int .u8 (x.toNat : Int))) →
      (Extern.Bytes.loadBytes ⟨b, o, none⟩ l.length acc).run P w = .ok ⟨acc.data ++ l.toArray⟩ w := by
    intro l
    induction l with
    | nil => intro b o acc _; simp [Extern.Bytes.loadBytes]
    | cons x r ih =>
      intro b o acc hc
      have h0 := hc 0 x rfl
      simp only [Nat.add_zero] at h0
      have hr : ∀ i y, r[i]? = some y → w.cell? ⟨b, (o + 1) + i, none⟩ = some (.int .u8 (y.toNat : Int)) := by
        intro i y hy
        have := hc (i + 1) y (by simpa using hy)
        rw [show o + 1 + i = o + (i + 1) by omega]; exact this
      have := ih b (o + 1) (acc.push x) hr
      simp only [List.length_cons, Extern.Bytes.loadBytes, Sem.run_bind, run_load, h0, Result.andThen_ok, Addr.add_none, Int.toNat_natCast]
      rw [show x.toNat.toUInt8 = x by simp, this]
      simp
  obtain ⟨rfl, h⟩ := h
  rcases A with _ | a
  · rcases l with _ | ⟨x, r⟩
    · simp [Extern.Bytes.bytesOf]; rfl
    · obtain ⟨b, o, e, _⟩ := h 0 x rfl; cases e
  · rcases l with _ | ⟨x, r⟩
    · simp [Extern.Bytes.bytesOf, Extern.Bytes.loadBytes]; rfl
    · obtain ⟨b, o, e, _⟩ := h 0 x rfl
      cases e
      have := key (x :: r) b o .empty (fun i y hy => by obtain ⟨b', o', e', hc⟩ := h i y hy; cases e'; exact hc)
      simp only [Extern.Bytes.bytesOf]
      rw [this]
      simp [ByteArray.empty, ByteArray.emptyWithCapacity]
      rfl

theorem run_compareB {P : Program} {w : World} {A B : Option Addr} {n m : Nat} {a b : List UInt8} (ha : Bs w A n a) (hb : Bs w B m b) (c d : Nat) :
    (Extern.BytealgCompare.compare #[.slice A n c, .slice B m d]).run P w = .ok (.int .i64 (Lib.compareBytes a b)) w := by
  show ((do let x ← Extern.Bytes.bytesOf (.slice A n c); let y ← Extern.Bytes.bytesOf (.slice B m d); pure (goInt (Extern.BytealgCompare.cmp x y))) : Sem Value).run P w = _
  simp only [Sem.run_bind, Sem.run_pure, ha.bytesOf, hb.bytesOf, Result.andThen_ok, Lib.cmp_eq, goInt]


/-! ### bytes that the call itself made -/

def byteV (x : UInt8) : Value := .int .u8 (x.toNat : Int)

/-- A row of bytes of the call's own. -/
def Ob (w : World) (base : Nat) (e : TypeId) (v : Value) (l : List UInt8) : Prop := w.ownsRow base e 1 v l.length (l.map byteV)

theorem Ob.slice {w : World} {base : Nat} {e : TypeId} {v : Value} {l : List UInt8} (h : Ob w base e v l) : ∃ A c, v = .slice A l.length c ∧ l.length ≤ c ∧ Bs w A l.length l := by
  have hc := @World.ownsRow.cells _ _ _ _ _ _ _ h
  rcases h.2 with ⟨rfl, h0⟩ | ⟨g, cap, cur, rfl, _, _, hle, _, _, _⟩
  · have : l = [] := List.eq_nil_of_length_eq_zero h0
    subst this
    exact ⟨none, 0, rfl, Nat.le_refl _, Bs.nil _ _⟩
  · refine ⟨_, cap, rfl, hle, rfl, fun i x hx => ⟨g, 0, rfl, ?_⟩⟩
    have := hc (g := g) rfl i (byteV x) (by simp [hx])
    rw [Addr.add_none] at this
    exact this

theorem Ob.bs {w : World} {base : Nat} {e : TypeId} {A : Option Addr} {n c : Nat} {l : List UInt8} (h : Ob w base e (.slice A n c) l) : Bs w A n l ∧ n ≤ c := by
  obtain ⟨A', c', he, hc, hb⟩ := h.slice
  cases he
  exact ⟨hb, hc⟩
theorem Ob.mono {w : World} {base base' : Nat} {e : TypeId} {v : Value} {l : List UInt8} (h : Ob w base e v l) (hb : base' ≤ base) : Ob w base' e v l := by
  refine ⟨h.1, ?_⟩
  rcases h.2 with h2 | ⟨g, cap, cur, hv, hg, r⟩
  · exact .inl h2
  · exact .inr ⟨g, cap, cur, hv, by omega, r⟩
theorem Ob.lt {w : World} {base : Nat} {e : TypeId} {v : Value} {l : List UInt8} (h : Ob w base e v l) : ∀ k, v.ownBlock = some k → base ≤ k ∧ k < w.heap.size := World.ownsRow.lt h
theorem Ob.grown {w w' : World} {base : Nat} {e : TypeId} {v : Value} {l : List UInt8} {row : Option Nat} (h : Ob w base e v l) (hg : w.grownBy w' row) (hne : v.ownBlock = none ∨ v.ownBlock ≠ row) : Ob w' base e v l := World.ownsRow.kept h hg hne
theorem Ob.below {w w' : World} {base : Nat} {e : TypeId} {v : Value} {l : List UInt8} (h : Ob w base e v l) (hb : Below w.heap.size w w') : Ob w' base e v l :=
  h.grown (row := none) ⟨hb.os, hb.tape, hb.output, hb.size, fun i hi _ => hb.block i hi⟩ (by cases hv : v.ownBlock <;> simp)
theorem Ob.nil (w : World) (base : Nat) (e : TypeId) : Ob w base e (.slice none 0 0) [] := World.ownsRow_nil w base e 1

/-- append(own, src..): src nil, empty or not. -/
theorem run_appendB {P : Program} {w : World} (base : Nat) (t ty e : TypeId) (i : TypeInfo) (z : Value) (ht : P.underlying t = some (.slice e)) (hi : P.info? e = some i) (hz : i.zero = some z)
    (hsize : i.size = 1) (hby : i.bytes = 1) (hzs : z.cells.size = 1) {v : Value} {l : List UInt8} (hown : Ob w base e v l)
    {A : Option Addr} {m c : Nat} {r : List UInt8} (hr : Bs w A m r) (hb : l.length + m ≤ 140737488355328) (hbase : base ≤ w.heap.size) :
    ∃ v' w', (Builtin.append_ #[t, t] ty #[v, .slice A m c]).run P w = .ok v' w' ∧ Ob w' base e v' (l ++ r) ∧ w.grownBy w' v.ownBlock ∧
      (v' = .slice none 0 0 ↔ v = .slice none 0 0 ∧ m = 0) ∧ (v'.ownBlock = v.ownBlock ∨ v'.ownBlock = some w.heap.size) := by
  obtain ⟨rfl, hr⟩ := hr
  have hml : l.length + r.length ≤ maxLen := by unfold maxLen; omega
  rcases A with _ | ad
  · have hn : r = [] := by
      rcases r with _ | ⟨x, r⟩
      · rfl
      · obtain ⟨_, _, e, _⟩ := hr 0 x rfl; cases e
    subst hn
    refine ⟨v, w, ?_, by simpa using hown, World.grownBy.refl w _, by simp, .inl rfl⟩
    rcases hown.2 with ⟨rfl, h0⟩ | ⟨g, cap, cur, rfl, _, _, hnc, _⟩
    · simp [Builtin.append_, run_underlying ht, sizeOf, typeInfo, hi, Builtin.lenOf, Builtin.firstCells]
    · simp [Builtin.append_, run_underlying ht, sizeOf, typeInfo, hi, Builtin.lenOf, Builtin.firstCells, hnc, storeCells]
  · have hcells : ∀ j u, (r.map byteV)[j]? = some u → w.cell? (ad.add j) = some u := by
      intro j u hu
      rw [List.getElem?_map] at hu
      obtain ⟨x, hx, rfl⟩ := Option.map_eq_some_iff.1 hu
      obtain ⟨b, o, e', hc⟩ := hr j x hx
      cases e'
      rw [Addr.add_none]; exact hc
    obtain ⟨v', w', hrun, h2, h3, h4, h5⟩ := run_append_own_at (P := P) w base t ty e i z 1 1 ht hi hz hsize hby hzs (by omega) v l.length (l.map byteV) hown ad r.length c (r.map byteV) (by simp) hcells
      (by intro u hu; obtain ⟨x, _, rfl⟩ := List.mem_map.1 hu; rfl) hml (by omega) hbase
    exact ⟨v', w', hrun, by simpa [Ob] using h2, h3, h4, h5⟩

theorem wp_appendB {P : Program} {w : World} {o : Oper} {a : Act} {K : Act → World → Prop} {Q : Exit → Act → World → Prop} (s x : Operand) (t : TypeId)
    (ho : o.op = .call { callee := .builtin .append, args := #[s, x], argTypes := #[t, t] })
    (base : Nat) (e : TypeId) (i : TypeInfo) (z : Value) (ht : P.underlying t = some (.slice e)) (hi : P.info? e = some i) (hz : i.zero = some z)
    (hsize : i.size = 1) (hby : i.bytes = 1) (hzs : z.cells.size = 1) (v : Value) (l : List UInt8) (hs : a.eval s = v) (hown : Ob w base e v l)
    (A : Option Addr) (m c : Nat) (r : List UInt8) (hx : a.eval x = .slice A m c) (hr : Bs w A m r) (hb : l.length + m ≤ 140737488355328) (hbase : base ≤ w.heap.size)
    (h : ∀ v' w', Ob w' base e v' (l ++ r) → w.grownBy w' v.ownBlock → (v' = .slice none 0 0 ↔ v = .slice none 0 0 ∧ m = 0) → (v'.ownBlock = v.ownBlock ∨ v'.ownBlock = some w.heap.size) → K (a.put o.dst v') w') : o.wp P a w K Q := by
  obtain ⟨v', w', hrun, h2, h3, h4, h5⟩ := run_appendB (P := P) base t o.type e i z ht hi hz hsize hby hzs hown (c := c) hr hb hbase
  unfold Oper.wp execOp
  simp only [ho, resolve, invoke, builtin, Sem.run_bind, Sem.run_pure, Result.andThen_ok, List.map_toArray, List.map_cons, List.map_nil, hs, hx, hrun]
  exact h v' w' h2 h3 h4 h5

theorem wpList_appendB {P : Program} {w : World} {ops : Array Oper} {rest : List Oper} {o : Oper} {a : Act} {Q : Exit → Act → World → Prop} (hgd : o.guard = none) (s x : Operand) (t : TypeId)
    (ho : o.op = .call { callee := .builtin .append, args := #[s, x], argTypes := #[t, t] })
    (base : Nat) (e : TypeId) (i : TypeInfo) (z : Value) (ht : P.underlying t = some (.slice e)) (hi : P.info? e = some i) (hz : i.zero = some z)
    (hsize : i.size = 1) (hby : i.bytes = 1) (hzs : z.cells.size = 1) (v : Value) (l : List UInt8) (hs : a.eval s = v) (hown : Ob w base e v l)
    (A : Option Addr) (m c : Nat) (r : List UInt8) (hx : a.eval x = .slice A m c) (hr : Bs w A m r) (hb : l.length + m ≤ 140737488355328) (hbase : base ≤ w.heap.size)
    (h : ∀ v' w', Ob w' base e v' (l ++ r) → w.grownBy w' v.ownBlock → (v' = .slice none 0 0 ↔ v = .slice none 0 0 ∧ m = 0) → (v'.ownBlock = v.ownBlock ∨ v'.ownBlock = some w.heap.size) → wpList P ops Q rest (a.put o.dst v') w') : wpList P ops Q (o :: rest) a w :=
  wpList_plain hgd fun _ hK => wp_appendB s x t ho base e i z ht hi hz hsize hby hzs v l hs hown A m c r hx hr hb hbase fun v' w' h2 h3 h4 h5 => hK _ _ (h v' w' h2 h3 h4 h5)

theorem step_appendB {P : Program} {w : World} {ops : Array Oper} {o : Oper} {a : Act} {K : Act → World → Prop} {Q : Exit → Act → World → Prop} {E : Prop} (hgd : o.guard = none) (s x : Operand) (t : TypeId)
    (ho : o.op = .call { callee := .builtin .append, args := #[s, x], argTypes := #[t, t] })
    (base : Nat) (e : TypeId) (i : TypeInfo) (z : Value) (ht : P.underlying t = some (.slice e)) (hi : P.info? e = some i) (hz : i.zero = some z)
    (hsize : i.size = 1) (hby : i.bytes = 1) (hzs : z.cells.size = 1) (v : Value) (l : List UInt8) (hs : a.eval s = v) (hown : Ob w base e v l)
    (A : Option Addr) (m c : Nat) (r : List UInt8) (hx : a.eval x = .slice A m c) (hr : Bs w A m r) (hb : l.length + m ≤ 140737488355328) (hbase : base ≤ w.heap.size)
    (h : ∀ v' w', Ob w' base e v' (l ++ r) → w.grownBy w' v.ownBlock → (v' = .slice none 0 0 ↔ v = .slice none 0 0 ∧ m = 0) → (v'.ownBlock = v.ownBlock ∨ v'.ownBlock = some w.heap.size) → K (a.put o.dst v') w') :
    if Region.wanted o (yielded ops a.tmps) = true then Oper.wp P o a w K Q else E := by
  have hw : Region.wanted o (yielded ops a.tmps) = true := by simp [Region.wanted, hgd]
  rw [if_pos hw]
  exact wp_appendB s x t ho base e i z ht hi hz hsize hby hzs v l hs hown A m c r hx hr hb hbase h


/-- The cells of a new row of bytes. -/
def zeroB (n : Nat) : Array Value := madeCells #[.int .u8 0] n
/-- make([]byte, 0, x). -/
theorem run_makeB {P : Program} (t e : TypeId) (i : TypeInfo) (ht : P.underlying t = some (.slice e)) (hi : P.info? e = some i) (hz : i.zero = some (.int .u8 0))
    (hsize : i.size = 1) (hby : i.bytes = 1) (x : Int) (h0 : 0 ≤ x) (hx : x ≤ 140737488355328) (W : World) :
    (Instr.makeSlice t (.int .i64 0) (.int .i64 x)).run P W = .ok (.slice (some ⟨W.heap.size, 0, none⟩) 0 x.toNat) (W.alloc (.cells (zeroB x.toNat) e)) := by
  have := run_make (P := P) W t e i _ ht hi hz .i64 .i64 0 x (by omega) h0 (by rw [hby]; omega) (by omega)
  rw [hsize, Nat.mul_one] at this
  exact this
theorem Ob.made (w : World) (base n : Nat) (e : TypeId) (hb : base ≤ w.heap.size) (hn : n ≤ 140737488355328) : Ob (w.alloc (.cells (zeroB n) e)) base e (.slice (some ⟨w.heap.size, 0, none⟩) 0 n) [] :=
  World.ownsRow_made w _ n hb (by unfold maxLen; omega) (by rw [zeroB, size_madeCells, Nat.mul_one])
theorem Ob.alloc {w : World} {base : Nat} {e : TypeId} {v : Value} {l : List UInt8} (h : Ob w base e v l) (o : Obj) : Ob (w.alloc o) base e v l := World.ownsRow.alloc h o

theorem Bs.newF (w : World) (l : List UInt8) (e : TypeId) (f : Nat × Nat) : Bs (w.alloc (.cells (l.map byteV).toArray e f)) (some ⟨w.heap.size, 0, none⟩) l.length l :=
  ⟨rfl, fun i x hx => ⟨_, _, rfl, by
    unfold World.cell?
    rw [heap_alloc_new]
    simp [hx, byteV]⟩⟩
theorem Bs.newL (w : World) (l : List UInt8) (e : TypeId) : Bs (w.alloc (.cells (l.map byteV).toArray e)) (some ⟨w.heap.size, 0, none⟩) l.length l := Bs.newF w l e _
/-- Behind an append onto a row of the call's own, nothing old has changed. -/
theorem Ob.grew {w w1 w2 : World} {B : Nat} {e : TypeId} {v : Value} {l : List UInt8} (h : Ob w1 B e v l) (hb : Below B w w1) (hB : B ≤ w.heap.size) (hg : w1.grownBy w2 v.ownBlock) : Below B w w2 :=
  hb.grown hg (Nat.le_trans hB hb.size) fun k hk => (h.lt k hk).1

theorem Ob.drew {w : World} {base : Nat} {e : TypeId} {v : Value} {l : List UInt8} (h : Ob w base e v l) : Ob w.drew base e v l := h
theorem Ob.drewN {w : World} {base : Nat} {e : TypeId} {v : Value} {l : List UInt8} (h : Ob w base e v l) (n : Nat) : Ob (w.drewN n) base e v l := h

theorem Bs.new2 (w : World) (a b : UInt8) (x y : Int) (e : TypeId) (hx : x = (a.toNat : Int)) (hy : y = (b.toNat : Int)) : Bs (w.alloc (.cells #[.int .u8 x, .int .u8 y] e)) (some ⟨w.heap.size, 0, none⟩) 2 [a, b] := by
  subst hx hy; exact Bs.newL w [a, b] e
theorem Bs.new1 (w : World) (a : UInt8) (x : Int) (e : TypeId) (hx : x = (a.toNat : Int)) : Bs (w.alloc (.cells #[.int .u8 x] e)) (some ⟨w.heap.size, 0, none⟩) 1 [a] := by
  subst hx; exact Bs.newL w [a] e

/-- A slice of integers that came in: nil, or a row of 'cap' cells, the first 'len' of them its elements. -/
def IsRow (k : IntKind) (w : World) (a : Option Addr) (len cap : Nat) (zs : List Int) : Prop :=
  (a = none ∧ len = 0 ∧ cap = 0 ∧ zs = []) ∨
  ∃ x, a = some x ∧ len ≤ cap ∧ cap ≤ maxLen ∧ zs.length = cap ∧ (∀ i, i < zs.length → w.cell? (x.add i) = some (.int k (zs.getD i 0))) ∧ ∀ n ∈ zs, (Lit.int k n).wf = true
theorem IsRow.bs {w : World} {a : Option Addr} {len cap : Nat} {zs : List Int} (h : IsRow .u8 w a len cap zs) : ∃ l, Bs w a len l ∧ len ≤ cap := by
  rcases h with ⟨rfl, rfl, rfl, rfl⟩ | ⟨x, rfl, hl, hm, hz, hc, hw⟩
  · exact ⟨[], Bs.nil _ _, Nat.le_refl _⟩
  · refine ⟨(zs.take len).map fun z => UInt8.ofNat z.toNat, ⟨by simp; omega, fun i y hy => ?_⟩, hl⟩
    rw [List.getElem?_map] at hy
    obtain ⟨z, hz', rfl⟩ := Option.map_eq_some_iff.1 hy
    rw [List.getElem?_take] at hz'
    split at hz'
    · have hil : i < zs.length := (List.getElem?_eq_some_iff.1 hz').1
      have hci := hc i hil
      have hg : zs.getD i 0 = z := by rw [List.getD_eq_getElem?_getD, hz']; rfl
      rw [hg] at hci
      obtain ⟨b, o, sp⟩ := x
      have hsp : sp = none := by
        have := World.cell?_spot hci
        unfold Addr.add at this
        split at this <;> simp_all
        have h0 := hc 0 (by omega)
        have := World.cell?_spot h0
        simpa [Addr.add] using this
      subst hsp
      rw [Addr.add_none] at hci
      have hb := hw z (List.mem_of_getElem? hz')
      have hb2 : 0 ≤ z ∧ z ≤ 255 := bounds_u8 hb
      refine ⟨b, o, rfl, ?_⟩
      rw [hci, UInt8.toNat_ofNat']
      congr 2
      omega
    · cases hz'

end Go.Proofs.Ytlmmoinmlcpmnaa
