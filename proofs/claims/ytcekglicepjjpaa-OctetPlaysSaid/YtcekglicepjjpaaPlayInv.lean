/-
  Both calls of a round, in whatever order their operands are evaluated: what holds when which of the operations have been done.
-/
import Derived.Test.YtcekglicepjjpaaPlayBoth
import Derived.Test.YtcekglicepjjpaaInv
namespace Go.Proofs.Ytcekglicepjjpaa
open Go.RowKit
set_option linter.unusedVariables false
set_option linter.unusedSimpArgs false

/-- Only the blocks g and g2, and what is new, may have changed. -/
structure Two (g g2 : Nat) (w w' : World) : Prop where
  os : w'.os = w.os
  tape : w'.tape = w.tape
  output : w'.output = w.output
  size : w.heap.size ≤ w'.heap.size
  block : ∀ k, k < w.heap.size → k ≠ g → k ≠ g2 → w'.heap[k]? = w.heap[k]?
theorem Two.refl (g g2 : Nat) (w : World) : Two g g2 w w := ⟨rfl, rfl, rfl, Nat.le_refl _, fun _ _ _ _ => rfl⟩
theorem Two.grown {g g2 : Nat} {w w1 w2 : World} {row : Option Nat} (h : Two g g2 w w1) (hg : w1.grownBy w2 row) (hr : ∀ b, row = some b → b = g ∨ b = g2 ∨ w.heap.size ≤ b) : Two g g2 w w2 :=
  ⟨hg.os.trans h.os, hg.tape.trans h.tape, hg.output.trans h.output, Nat.le_trans h.size hg.size, fun i hi n1 n2 =>
    (hg.block i (Nat.lt_of_lt_of_le hi h.size) (fun e => by rcases hr i e.symm with h | h | h <;> omega)).trans (h.block i hi n1 n2)⟩
theorem Two.only1 {g g2 : Nat} {w w1 w2 : World} (h : Two g g2 w w1) (hg : Only g w1 w2) : Two g g2 w w2 := h.grown hg (by intro b e; cases e; exact .inl rfl)
theorem Two.only2 {g g2 : Nat} {w w1 w2 : World} (h : Two g g2 w w1) (hg : Only g2 w1 w2) : Two g g2 w w2 := h.grown hg (by intro b e; cases e; exact .inr (.inl rfl))
theorem Two.bel {g g2 : Nat} {w w1 w2 : World} (h : Two g g2 w w1) (hb : Below w1.heap.size w1 w2) : Two g g2 w w2 :=
  h.grown (row := none) ⟨hb.os, hb.tape, hb.output, hb.size, fun i hi _ => hb.block i hi⟩ (by intro b e; cases e)
theorem Two.below {g g2 B : Nat} {a w w' : World} (h : Two g g2 w w') (hb : Below B a w) (h1 : B ≤ g) (h2 : B ≤ g2) (hB : B ≤ w.heap.size) : Below B a w' :=
  ⟨h.os.trans hb.os, h.tape.trans hb.tape, h.output.trans hb.output, Nat.le_trans hb.size h.size, fun i hi => (h.block i (by omega) (by omega) (by omega)).trans (hb.block i hi)⟩
theorem Two.symm {g g2 : Nat} {w w' : World} (h : Two g g2 w w') : Two g2 g w w' := ⟨h.os, h.tape, h.output, h.size, fun k hk a b => h.block k hk b a⟩
theorem Bs.two {w w' : World} {A : Option Addr} {n g g2 : Nat} {l : List UInt8} (h : Bs w A n l) (hb : Two g g2 w w')
    (hg : ∀ o (x : UInt8), w.cell? ⟨g, o, none⟩ ≠ some (.int .u8 (x.toNat : Int))) (hg2 : ∀ o (x : UInt8), w.cell? ⟨g2, o, none⟩ ≠ some (.int .u8 (x.toNat : Int))) : Bs w' A n l :=
  ⟨h.1, fun i x hx => by
    obtain ⟨b, o, e, hc⟩ := h.2 i x hx
    refine ⟨b, o, e, ?_⟩
    have n1 : b ≠ g := by rintro rfl; exact hg _ _ hc
    have n2 : b ≠ g2 := by rintro rfl; exact hg2 _ _ hc
    exact (World.cell?_of_block (hb.block b (World.block_lt_of_cell? w _ hc) n1 n2)).trans hc⟩
/-- While other blocks are written, the cursor stays. -/
theorem Cur.two {w w1 w2 : World} {g g2 k k' q : Nat} {s s2 : Value} {l l2 : List UInt8} {row : Option Nat} (h0 : Cur w g s l k) (h2 : Cur w g2 s2 l2 q) (hT : Two g g2 w w1) (h1 : Cur w1 g s l k') (hg : w1.grownBy w2 row) (hr : ∀ b, row = some b → w.heap.size ≤ b) : Cur w2 g s l k' := by
  have hlt := h0.lt
  have n1 := h0.noByte
  have n2 := h2.noByte
  have hT2 : Two g g2 w w2 := hT.grown hg (fun b hb => .inr (.inr (hr b hb)))
  obtain ⟨A, n, c, t, rfl, _, hbs, _⟩ := h0
  obtain ⟨A', n', c', t', e, hg', _, hnc, hk, hn⟩ := h1
  cases e
  exact ⟨A, n, c, t', rfl, (hg.block g (Nat.lt_of_lt_of_le hlt hT.size) (fun e => by have := hr g e.symm; omega)).trans hg', hbs.two hT2 n1 n2, hnc, hk, hn⟩

/-- An answer that lies in block x. -/
def PB (w : World) (x : Nat) (i : Int) (v : Value) (e : Int) : Prop := (∃ A n c, v = .slice A n c) ∧ w.heap[x]? = some (.cells #[.int .i64 i, v, .int .i64 e] 34 (0, 0))
theorem PB.grown {w w' : World} {x : Nat} {i e : Int} {v : Value} {row : Option Nat} (h : PB w x i v e) (hg : w.grownBy w' row) (hr : some x ≠ row) : PB w' x i v e :=
  ⟨h.1, (hg.block x (Array.getElem?_eq_some_iff.1 h.2).1 hr).trans h.2⟩
theorem PB.noByte {w : World} {x : Nat} {i e : Int} {v : Value} (h : PB w x i v e) : ∀ o (y : UInt8), w.cell? ⟨x, o, none⟩ ≠ some (.int .u8 (y.toNat : Int)) := by
  obtain ⟨⟨A, n, c, rfl⟩, hg⟩ := h
  intro o y
  rw [blk_cell hg]
  match o with
  | 0 => simp
  | 1 => simp
  | 2 => simp
  | o + 3 => simp
theorem PB.qt {w w' : World} {x : Nat} {i e : Int} {v : Value} (h : PB w x i v e) (hq : Qt w w') : PB w' x i v e := by
  obtain ⟨n, rfl⟩ := hq; exact h
theorem PB.drew {w : World} {x : Nat} {i e : Int} {v : Value} (h : PB w x i v e) : PB w.drew x i v e := h
theorem PB.lt {w : World} {x : Nat} {i e : Int} {v : Value} (h : PB w x i v e) : x < w.heap.size := (Array.getElem?_eq_some_iff.1 h.2).1
theorem PB.set {w : World} {x : Nat} {i e : Int} {v : Value} (h : PB w x i v e) (i' e' : Int) (A : Option Addr) (n c : Nat) : PB (set3 w x (.int .i64 i') (.slice A n c) (.int .i64 e')) x i' (.slice A n c) e' := by
  refine ⟨⟨A, n, c, rfl⟩, ?_⟩
  unfold set3
  simp [World.setCell, Array.getElem?_modify, h.2]
theorem Ob.ne_block {w : World} {base x : Nat} {e t : TypeId} {v : Value} {l : List UInt8} {cs : Array Value} {f : Nat × Nat} (h : Ob w base e v l) (hx : w.heap[x]? = some (.cells cs t f)) (hne : e ≠ t) : v.ownBlock ≠ some x := by
  rcases h.2 with ⟨rfl, _⟩ | ⟨g, cap, cur, rfl, _, hh, _⟩
  · simp [Value.ownBlock]
  · intro he
    have : g = x := by simpa [Value.ownBlock] using he
    subst this
    rw [hh] at hx
    injection hx with hx
    injection hx with _ ht
    exact hne ht

/-- A byte of a row of the call's own. -/
theorem Ob.at_ {w : World} {base : Nat} {e : TypeId} {A : Option Addr} {n c : Nat} {l : List UInt8} (h : Ob w base e (.slice A n c) l) {k : Nat} (hk : k < n) :
    ∃ b cur, A = some ⟨b, 0, none⟩ ∧ base ≤ b ∧ w.heap[b]? = some (.cells cur e (0, 0)) ∧ w.cell? ⟨b, k, none⟩ = some (.int .u8 (nth l k)) ∧ w.frozen? ⟨b, k, none⟩ = false := by
  obtain ⟨hbs, _⟩ := h.bs
  obtain ⟨b, o, e1, hc⟩ := hbs.at_ hk
  rcases h.2 with ⟨hv, _⟩ | ⟨g, cap, cur, hv, hb, hh, _⟩
  · cases hv; cases e1
  · cases hv
    cases e1
    rw [Nat.zero_add] at hc
    exact ⟨b, cur, rfl, hb, hh, hc, blk_frozen hh _⟩
/-- A byte of it is written. -/
theorem Ob.put {w : World} {base b : Nat} {e : TypeId} {n c k : Nat} {l : List UInt8} (h : Ob w base e (.slice (some ⟨b, 0, none⟩) n c) l) (hk : k < n) (v : Int) (h0 : 0 ≤ v) (h1 : v < 256) :
    Ob (w.setCell ⟨b, k, none⟩ (.int .u8 v)) base e (.slice (some ⟨b, 0, none⟩) n c) (l.set k (UInt8.ofNat v.toNat)) := by
  rcases h with ⟨hl, h2⟩
  rcases h2 with ⟨hv, _⟩ | ⟨g, cap, cur, hv, hb, hh, hle, hm, hs, ht⟩
  · cases hv
  · cases hv
    refine ⟨by simp, .inr ⟨b, c, cur.setIfInBounds k (.int .u8 v), by simp, hb, ?_, by simpa using hle, hm, by simpa using hs, ?_⟩⟩
    · simp [World.setCell, Array.getElem?_modify, hh]
    · have hbv : byteV (UInt8.ofNat v.toNat) = .int .u8 v := by
        unfold byteV
        rw [UInt8.toNat_ofNat']
        congr 1
        omega
      simp only [Nat.mul_one, List.length_set] at ht ⊢
      rw [List.map_set, hbv, ← ht]
      simp only [Array.toList_setIfInBounds]
      rw [List.take_set]

section
variable (g g2 X k rk : Nat) (s s2 : Value) (a : List UInt8) (rN rE : Int) (rB : List UInt8) (K y : Int) (w3 : World)

/-- What holds before the answers are stored. -/
structure StA (L : List Bool) (f : Nat → Option Value) (w : World) : Prop where
  two : Two g g2 w3 w
  c1 : Cur w g s a (if L.getD 2 false then rk else k)
  c2 : Cur w g2 s2 a (if L.getD 5 false then rk else k)
  blk : w.heap[X]? = some (.cells #[.int .i64 K, .int .i64 y] 32 (0, 0))
  f46 : L.getD 0 false = true → f 46 = some (.pointer (some ⟨g, 0, none⟩))
  f47 : L.getD 1 false = true → f 47 = some (.agg #[.int .i64 K, .int .i64 y])
  f48 : L.getD 2 false = true → ∃ A n c, f 48 = some (.agg #[.int .i64 rN, .slice A n c, .int .i64 rE]) ∧ Ob w w3.heap.size 5 (.slice A n c) rB
  f49 : L.getD 3 false = true → f 49 = some (.pointer (some ⟨g2, 0, none⟩))
  f50 : L.getD 4 false = true → f 50 = some (.agg #[.int .i64 K, .int .i64 y])
  f51 : L.getD 5 false = true → ∃ A n c, f 51 = some (.agg #[.int .i64 rN, .slice A n c, .int .i64 rE]) ∧ Bs w A n rB
  f10 : L.getD 6 false = true → ∃ x, f 10 = some (.pointer (some ⟨x, 0, none⟩)) ∧ w3.heap.size ≤ x ∧ PB w x 0 (.slice none 0 0) 0
  f11 : L.getD 7 false = true → ∃ x, f 11 = some (.pointer (some ⟨x, 0, none⟩)) ∧ w3.heap.size ≤ x ∧ PB w x 0 (.slice none 0 0) 0
  ne : L.getD 6 false = true → L.getD 7 false = true → f 10 ≠ f 11
  ord : L.getD 5 false = true → L.getD 2 false = true ∧ L.getD 3 false = true ∧ L.getD 4 false = true

/-- What holds when both calls are done; d1, d2: which answers are stored. -/
def StC (d1 d2 : Bool) (f : Nat → Option Value) (w : World) : Prop :=
  ∃ x1 x2 A1 n1 c1 A2 n2 c2 i1 v1 e1 i2 v2 e2, f 10 = some (.pointer (some ⟨x1, 0, none⟩)) ∧ f 11 = some (.pointer (some ⟨x2, 0, none⟩)) ∧ x1 ≠ x2 ∧ w3.heap.size ≤ x1 ∧ w3.heap.size ≤ x2 ∧
    f 48 = some (.agg #[.int .i64 rN, .slice A1 n1 c1, .int .i64 rE]) ∧ f 51 = some (.agg #[.int .i64 rN, .slice A2 n2 c2, .int .i64 rE]) ∧
    PB w x1 i1 v1 e1 ∧ PB w x2 i2 v2 e2 ∧ (d1 = true → i1 = rN ∧ v1 = .slice A1 n1 c1 ∧ e1 = rE) ∧ (d2 = true → i2 = rN ∧ v2 = .slice A2 n2 c2 ∧ e2 = rE) ∧
    Ob w w3.heap.size 5 (.slice A1 n1 c1) rB ∧ Bs w A2 n2 rB ∧ Cur w g s a rk ∧ Cur w g2 s2 a rk ∧ Two g g2 w3 w

/-- The slots that the statement writes. -/
def Fs (f : Nat → Option Value) : Prop := ∀ d, d ≠ 46 → d ≠ 47 → d ≠ 48 → d ≠ 49 → d ≠ 50 → d ≠ 51 → d ≠ 10 → d ≠ 11 → f d = none
theorem Fs.set {f : Nat → Option Value} (h : Fs f) {d : Nat} (v : Value) (hd : d = 46 ∨ d = 47 ∨ d = 48 ∨ d = 49 ∨ d = 50 ∨ d = 51 ∨ d = 10 ∨ d = 11) : Fs (fset f d v) := by
  intro i h1 h2 h3 h4 h5 h6 h7 h8
  rw [fset_other f v (by omega)]
  exact h i h1 h2 h3 h4 h5 h6 h7 h8

variable {g g2 X k rk s s2 a rN rE rB K y w3}
variable {b0 b1 b2 b3 b4 b5 b6 b7 : Bool} {f : Nat → Option Value} {w : World}

theorem StA.step0 (h : StA g g2 X k rk s s2 a rN rE rB K y w3 [b0, b1, b2, b3, b4, b5, b6, b7] f w) : StA g g2 X k rk s s2 a rN rE rB K y w3 [true, b1, b2, b3, b4, b5, b6, b7] (fset f 46 (.pointer (some ⟨g, 0, none⟩))) w := by
  have e : ∀ d, d ≠ 46 → fset f 46 (.pointer (some ⟨g, 0, none⟩)) d = f d := fun d hd => fset_other f _ hd
  exact ⟨h.two, h.c1, h.c2, h.blk, fun _ => fset_same _ _ _, by rw [e _ (by decide)]; exact h.f47, by rw [e _ (by decide)]; exact h.f48, by rw [e _ (by decide)]; exact h.f49, by rw [e _ (by decide)]; exact h.f50,
    by rw [e _ (by decide)]; exact h.f51, by rw [e _ (by decide)]; exact h.f10, by rw [e _ (by decide)]; exact h.f11, by rw [e _ (by decide), e _ (by decide)]; exact h.ne, h.ord⟩
theorem StA.step1 (h : StA g g2 X k rk s s2 a rN rE rB K y w3 [b0, b1, b2, b3, b4, b5, b6, b7] f w) : StA g g2 X k rk s s2 a rN rE rB K y w3 [b0, true, b2, b3, b4, b5, b6, b7] (fset f 47 (.agg #[.int .i64 K, .int .i64 y])) w := by
  have e : ∀ d, d ≠ 47 → fset f 47 (.agg #[.int .i64 K, .int .i64 y]) d = f d := fun d hd => fset_other f _ hd
  exact ⟨h.two, h.c1, h.c2, h.blk, by rw [e _ (by decide)]; exact h.f46, fun _ => fset_same _ _ _, by rw [e _ (by decide)]; exact h.f48, by rw [e _ (by decide)]; exact h.f49, by rw [e _ (by decide)]; exact h.f50,
    by rw [e _ (by decide)]; exact h.f51, by rw [e _ (by decide)]; exact h.f10, by rw [e _ (by decide)]; exact h.f11, by rw [e _ (by decide), e _ (by decide)]; exact h.ne, h.ord⟩
theorem StA.step3 (h : StA g g2 X k rk s s2 a rN rE rB K y w3 [b0, b1, b2, b3, b4, b5, b6, b7] f w) : StA g g2 X k rk s s2 a rN rE rB K y w3 [b0, b1, b2, true, b4, b5, b6, b7] (fset f 49 (.pointer (some ⟨g2, 0, none⟩))) w := by
  have e : ∀ d, d ≠ 49 → fset f 49 (.pointer (some ⟨g2, 0, none⟩)) d = f d := fun d hd => fset_other f _ hd
  exact ⟨h.two, h.c1, h.c2, h.blk, by rw [e _ (by decide)]; exact h.f46, by rw [e _ (by decide)]; exact h.f47, by rw [e _ (by decide)]; exact h.f48, fun _ => fset_same _ _ _, by rw [e _ (by decide)]; exact h.f50,
    by rw [e _ (by decide)]; exact h.f51, by rw [e _ (by decide)]; exact h.f10, by rw [e _ (by decide)]; exact h.f11, by rw [e _ (by decide), e _ (by decide)]; exact h.ne, fun h5 => ⟨(h.ord h5).1, rfl, (h.ord h5).2.2⟩⟩
theorem StA.step4 (h : StA g g2 X k rk s s2 a rN rE rB K y w3 [b0, b1, b2, b3, b4, b5, b6, b7] f w) : StA g g2 X k rk s s2 a rN rE rB K y w3 [b0, b1, b2, b3, true, b5, b6, b7] (fset f 50 (.agg #[.int .i64 K, .int .i64 y])) w := by
  have e : ∀ d, d ≠ 50 → fset f 50 (.agg #[.int .i64 K, .int .i64 y]) d = f d := fun d hd => fset_other f _ hd
  exact ⟨h.two, h.c1, h.c2, h.blk, by rw [e _ (by decide)]; exact h.f46, by rw [e _ (by decide)]; exact h.f47, by rw [e _ (by decide)]; exact h.f48, by rw [e _ (by decide)]; exact h.f49, fun _ => fset_same _ _ _,
    by rw [e _ (by decide)]; exact h.f51, by rw [e _ (by decide)]; exact h.f10, by rw [e _ (by decide)]; exact h.f11, by rw [e _ (by decide), e _ (by decide)]; exact h.ne, fun h5 => ⟨(h.ord h5).1, (h.ord h5).2.1, rfl⟩⟩

/-- The program's own call. -/
theorem StA.step2 {k0 : Nat} (hg : Cur w3 g s a k0) (hg2 : Cur w3 g2 s2 a k0) (hgg : g ≠ g2) (hX : w3.heap.size ≤ X) (hn : b2 = false) {w1 : World} {A : Option Addr} {n c : Nat}
    (h : StA g g2 X k rk s s2 a rN rE rB K y w3 [b0, b1, b2, b3, b4, b5, b6, b7] f w)
    (hob : Ob w1 w.heap.size 5 (.slice A n c) rB) (hc : Cur w1 g s a rk) (hon : Only g w w1) :
    StA g g2 X k rk s s2 a rN rE rB K y w3 [b0, b1, true, b3, b4, b5, b6, b7] (fset f 48 (.agg #[.int .i64 rN, .slice A n c, .int .i64 rE])) w1 := by
  subst hn
  have e : ∀ d, d ≠ 48 → fset f 48 (.agg #[.int .i64 rN, .slice A n c, .int .i64 rE]) d = f d := fun d hd => fset_other f _ hd
  have h5 : b5 = false := by
    rcases hb : b5 with _ | _
    · rfl
    · have := (h.ord (by rw [hb]; rfl)).1; cases this
  subst h5
  have c1 : Cur w g s a k := h.c1
  have c2 : Cur w g2 s2 a k := h.c2
  have glt := hg.lt
  refine ⟨h.two.only1 hon, hc, c2.only hon (fun e => hgg e.symm) c1.noByte, ?_, by rw [e _ (by decide)]; exact h.f46, by rw [e _ (by decide)]; exact h.f47, fun _ => ⟨A, n, c, fset_same _ _ _, hob.mono h.two.size⟩, by rw [e _ (by decide)]; exact h.f49, by rw [e _ (by decide)]; exact h.f50,
    fun h => (by cases h), ?_, ?_, by rw [e _ (by decide), e _ (by decide)]; exact h.ne, fun h => (by cases h)⟩
  · exact (hon.block X (Array.getElem?_eq_some_iff.1 h.blk).1 (by simp; omega)).trans h.blk
  · intro hb
    obtain ⟨x, e1, e2, e3⟩ := h.f10 hb
    exact ⟨x, by rw [e _ (by decide)]; exact e1, e2, e3.grown hon (by simp; omega)⟩
  · intro hb
    obtain ⟨x, e1, e2, e3⟩ := h.f11 hb
    exact ⟨x, by rw [e _ (by decide)]; exact e1, e2, e3.grown hon (by simp; omega)⟩

/-- The document's call. -/
theorem StA.step5 {k0 : Nat} (hg : Cur w3 g s a k0) (hg2 : Cur w3 g2 s2 a k0) (hgg : g ≠ g2) (hX : w3.heap.size ≤ X) (hn : b5 = false) (h2 : b2 = true) (h3 : b3 = true) (h4 : b4 = true) {w1 : World} {A : Option Addr} {n c : Nat}
    (h : StA g g2 X k rk s s2 a rN rE rB K y w3 [b0, b1, b2, b3, b4, b5, b6, b7] f w)
    (hbs : Bs w1 A n rB) (hc : Cur w1 g2 s2 a rk) (hon : Only g2 w w1) :
    StA g g2 X k rk s s2 a rN rE rB K y w3 [b0, b1, b2, b3, b4, true, b6, b7] (fset f 51 (.agg #[.int .i64 rN, .slice A n c, .int .i64 rE])) w1 := by
  subst hn h2 h3 h4
  have e : ∀ d, d ≠ 51 → fset f 51 (.agg #[.int .i64 rN, .slice A n c, .int .i64 rE]) d = f d := fun d hd => fset_other f _ hd
  have c1 : Cur w g s a rk := h.c1
  have c2 : Cur w g2 s2 a k := h.c2
  have glt := hg2.lt
  refine ⟨h.two.only2 hon, c1.only hon hgg c2.noByte, hc, ?_, by rw [e _ (by decide)]; exact h.f46, by rw [e _ (by decide)]; exact h.f47, ?_, by rw [e _ (by decide)]; exact h.f49, by rw [e _ (by decide)]; exact h.f50,
    fun _ => ⟨A, n, c, fset_same _ _ _, hbs⟩, ?_, ?_, by rw [e _ (by decide), e _ (by decide)]; exact h.ne, fun _ => ⟨rfl, rfl, rfl⟩⟩
  · exact (hon.block X (Array.getElem?_eq_some_iff.1 h.blk).1 (by simp; omega)).trans h.blk
  · intro hb
    obtain ⟨A1, n1, c1', e1, e2⟩ := h.f48 hb
    exact ⟨A1, n1, c1', by rw [e _ (by decide)]; exact e1, e2.grown hon (.inr fun he => by have := (e2.lt _ he).1; omega)⟩
  · intro hb
    obtain ⟨x, e1, e2, e3⟩ := h.f10 hb
    exact ⟨x, by rw [e _ (by decide)]; exact e1, e2, e3.grown hon (by simp; omega)⟩
  · intro hb
    obtain ⟨x, e1, e2, e3⟩ := h.f11 hb
    exact ⟨x, by rw [e _ (by decide)]; exact e1, e2, e3.grown hon (by simp; omega)⟩

/-- A new variable. -/
theorem StA.fresh {k0 : Nat} (hg : Cur w3 g s a k0) (hg2 : Cur w3 g2 s2 a k0) {L : List Bool} (h : StA g g2 X k rk s s2 a rN rE rB K y w3 L f w) (o : Obj) : StA g g2 X k rk s s2 a rN rE rB K y w3 L f (w.alloc o) := by
  have hb : Below w.heap.size w (w.alloc o) := (Below.refl _ _).alloc (Nat.le_refl _) _
  have hgr := World.grownBy_alloc w o none
  refine ⟨h.two.bel hb, h.c1.below hb, h.c2.below hb, (hb.block X (Array.getElem?_eq_some_iff.1 h.blk).1).trans h.blk, h.f46, h.f47, ?_, h.f49, h.f50, ?_, ?_, ?_, h.ne, h.ord⟩
  · intro hb'
    obtain ⟨A1, n1, c1', e1, e2⟩ := h.f48 hb'
    exact ⟨A1, n1, c1', e1, e2.below hb⟩
  · intro hb'
    obtain ⟨A1, n1, c1', e1, e2⟩ := h.f51 hb'
    exact ⟨A1, n1, c1', e1, e2.below hb⟩
  · intro hb'
    obtain ⟨x, e1, e2, e3⟩ := h.f10 hb'
    exact ⟨x, e1, e2, e3.grown hgr (by simp)⟩
  · intro hb'
    obtain ⟨x, e1, e2, e3⟩ := h.f11 hb'
    exact ⟨x, e1, e2, e3.grown hgr (by simp)⟩

theorem StA.step6 {k0 : Nat} (hg : Cur w3 g s a k0) (hg2 : Cur w3 g2 s2 a k0) (h : StA g g2 X k rk s s2 a rN rE rB K y w3 [b0, b1, b2, b3, b4, b5, b6, b7] f w) :
    StA g g2 X k rk s s2 a rN rE rB K y w3 [b0, b1, b2, b3, b4, b5, true, b7] (fset f 10 (.pointer (some ⟨w.heap.size, 0, none⟩))) (w.alloc (.cells #[.int .i64 0, .slice none 0 0, .int .i64 0] 34)) := by
  have e : ∀ d, d ≠ 10 → fset f 10 (.pointer (some ⟨w.heap.size, 0, none⟩)) d = f d := fun d hd => fset_other f _ hd
  have h' := h.fresh hg hg2 (.cells #[.int .i64 0, .slice none 0 0, .int .i64 0] 34)
  refine ⟨h'.two, h'.c1, h'.c2, h'.blk, by rw [e _ (by decide)]; exact h'.f46, by rw [e _ (by decide)]; exact h'.f47, by rw [e _ (by decide)]; exact h'.f48, by rw [e _ (by decide)]; exact h'.f49, by rw [e _ (by decide)]; exact h'.f50,
    by rw [e _ (by decide)]; exact h'.f51, fun _ => ⟨w.heap.size, fset_same _ _ _, h.two.size, ⟨none, 0, 0, rfl⟩, heap_alloc_new _ _⟩, by rw [e _ (by decide)]; exact h'.f11, ?_, h'.ord⟩
  intro _ hb
  obtain ⟨x, e1, e2, e3⟩ := h.f11 hb
  have := e3.lt
  rw [fset_same, e _ (by decide), e1]
  simp <;> omega
theorem StA.step7 {k0 : Nat} (hg : Cur w3 g s a k0) (hg2 : Cur w3 g2 s2 a k0) (h : StA g g2 X k rk s s2 a rN rE rB K y w3 [b0, b1, b2, b3, b4, b5, b6, b7] f w) :
    StA g g2 X k rk s s2 a rN rE rB K y w3 [b0, b1, b2, b3, b4, b5, b6, true] (fset f 11 (.pointer (some ⟨w.heap.size, 0, none⟩))) (w.alloc (.cells #[.int .i64 0, .slice none 0 0, .int .i64 0] 34)) := by
  have e : ∀ d, d ≠ 11 → fset f 11 (.pointer (some ⟨w.heap.size, 0, none⟩)) d = f d := fun d hd => fset_other f _ hd
  have h' := h.fresh hg hg2 (.cells #[.int .i64 0, .slice none 0 0, .int .i64 0] 34)
  refine ⟨h'.two, h'.c1, h'.c2, h'.blk, by rw [e _ (by decide)]; exact h'.f46, by rw [e _ (by decide)]; exact h'.f47, by rw [e _ (by decide)]; exact h'.f48, by rw [e _ (by decide)]; exact h'.f49, by rw [e _ (by decide)]; exact h'.f50,
    by rw [e _ (by decide)]; exact h'.f51, by rw [e _ (by decide)]; exact h'.f10, fun _ => ⟨w.heap.size, fset_same _ _ _, h.two.size, ⟨none, 0, 0, rfl⟩, heap_alloc_new _ _⟩, ?_, h'.ord⟩
  intro hb _
  obtain ⟨x, e1, e2, e3⟩ := h.f10 hb
  have := e3.lt
  rw [fset_same, e _ (by decide), e1]
  simp <;> omega

theorem StA.done (h : StA g g2 X k rk s s2 a rN rE rB K y w3 [true, true, true, true, true, true, true, true] f w) : StC g g2 rk s s2 a rN rE rB w3 false false f w := by
  obtain ⟨x1, p1, p2, p3⟩ := h.f10 rfl
  obtain ⟨x2, q1, q2, q3⟩ := h.f11 rfl
  obtain ⟨A1, n1, c1, u1, u2⟩ := h.f48 rfl
  obtain ⟨A2, n2, c2, v1, v2⟩ := h.f51 rfl
  have hne := h.ne rfl rfl
  exact ⟨x1, x2, A1, n1, c1, A2, n2, c2, _, _, _, _, _, _, p1, q1, fun e => hne (by rw [p1, q1, e]), p2, q2, u1, v1, p3, q3, fun h => (by cases h), fun h => (by cases h), u2, v2, h.c1, h.c2, h.two⟩

/-- An answer is stored. -/
theorem StC.store1 {k0 : Nat} (hg : Cur w3 g s a k0) (hg2 : Cur w3 g2 s2 a k0) {d2 : Bool} {x1 : Nat} {A1 : Option Addr} {n1 c1 : Nat} (h : StC g g2 rk s s2 a rN rE rB w3 false d2 f w) (hx : f 10 = some (.pointer (some ⟨x1, 0, none⟩))) (hv : f 48 = some (.agg #[.int .i64 rN, .slice A1 n1 c1, .int .i64 rE])) :
    StC g g2 rk s s2 a rN rE rB w3 true d2 f (set3 w x1 (.int .i64 rN) (.slice A1 n1 c1) (.int .i64 rE)) := by
  obtain ⟨x1', x2, A1', n1', c1', A2, n2, c2, i1, v1, e1, i2, v2, e2, p1, p2, hne, l1, l2, q1, q2, B1, B2, hd1, hd2, hob, hbs, cu1, cu2, htw⟩ := h
  rw [hx] at p1
  cases p1
  rw [hv] at q1
  cases q1
  have hgr := grown_set3 w x1 (.int .i64 rN) (.slice A1 n1 c1) (.int .i64 rE)
  have hr : ∀ b, some x1 = some b → w3.heap.size ≤ b := by intro b hb; cases hb; exact l1
  exact ⟨x1, x2, A1, n1, c1, A2, n2, c2, _, _, _, i2, v2, e2, hx, p2, hne, l1, l2, hv, q2, B1.set rN rE A1 n1 c1, B2.grown hgr (by simpa using fun e => hne e.symm), fun _ => ⟨rfl, rfl, rfl⟩, hd2,
    hob.grown hgr (.inr (hob.ne_block B1.2 (by decide))), hbs.only hgr B1.noByte, hg.two hg2 htw cu1 hgr hr, hg2.two hg htw.symm cu2 hgr hr, htw.grown hgr (fun b hb => .inr (.inr (hr b hb)))⟩
theorem StC.store2 {k0 : Nat} (hg : Cur w3 g s a k0) (hg2 : Cur w3 g2 s2 a k0) {d1 : Bool} {x2 : Nat} {A2 : Option Addr} {n2 c2 : Nat} (h : StC g g2 rk s s2 a rN rE rB w3 d1 false f w) (hx : f 11 = some (.pointer (some ⟨x2, 0, none⟩))) (hv : f 51 = some (.agg #[.int .i64 rN, .slice A2 n2 c2, .int .i64 rE])) :
    StC g g2 rk s s2 a rN rE rB w3 d1 true f (set3 w x2 (.int .i64 rN) (.slice A2 n2 c2) (.int .i64 rE)) := by
  obtain ⟨x1, x2', A1, n1, c1, A2', n2', c2', i1, v1, e1, i2, v2, e2, p1, p2, hne, l1, l2, q1, q2, B1, B2, hd1, hd2, hob, hbs, cu1, cu2, htw⟩ := h
  rw [hx] at p2
  cases p2
  rw [hv] at q2
  cases q2
  have hgr := grown_set3 w x2 (.int .i64 rN) (.slice A2 n2 c2) (.int .i64 rE)
  have hr : ∀ b, some x2 = some b → w3.heap.size ≤ b := by intro b hb; cases hb; exact l2
  exact ⟨x1, x2, A1, n1, c1, A2, n2, c2, i1, v1, e1, _, _, _, p1, hx, hne, l1, l2, q1, hv, B1.grown hgr (by simpa using hne), B2.set rN rE A2 n2 c2, hd1, fun _ => ⟨rfl, rfl, rfl⟩,
    hob.grown hgr (.inr (hob.ne_block B2.2 (by decide))), hbs.only hgr B2.noByte, hg.two hg2 htw cu1 hgr hr, hg2.two hg htw.symm cu2 hgr hr, htw.grown hgr (fun b hb => .inr (.inr (hr b hb)))⟩

variable (g g2 X k rk s s2 a rN rE rB K y w3) in
/-- What holds when the operations of L have been done, whatever their order. -/
def InvP (t : Array Value) (ds : List Deferred) (L : List Bool) (ac : Act) (w : World) : Prop :=
  ∃ f, ac = ⟨upd t f, ds⟩ ∧ Fs f ∧ ((∃ b0 b1 b2 b3 b4 b5 b6 b7, L = [b0, b1, b2, b3, b4, b5, b6, b7, false, false] ∧ StA g g2 X k rk s s2 a rN rE rB K y w3 [b0, b1, b2, b3, b4, b5, b6, b7] f w) ∨
    (L = [true, true, true, true, true, true, true, true, true, false] ∧ StC g g2 rk s s2 a rN rE rB w3 true false f w) ∨
    (L = [true, true, true, true, true, true, true, true, true, true] ∧ StC g g2 rk s s2 a rN rE rB w3 true true f w))
end
end Go.Proofs.Ytcekglicepjjpaa
