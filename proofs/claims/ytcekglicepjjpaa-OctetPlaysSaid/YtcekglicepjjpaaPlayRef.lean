/-
  quittanceref01's Cursor.Do.
-/
import Derived.Test.YtcekglicepjjpaaPlayDo
import Derived.BigRegion
namespace Go.Proofs.Ytcekglicepjjpaa
open Go.RowKit
set_option linter.unusedVariables false
set_option linter.unusedSimpArgs false

/-- What the document's answer is: a number, bytes, an error; its cursor is then at rk. -/
def RefOk (w : World) (g : Nat) (s : Value) (l : List UInt8) (rN : Int) (rB : List UInt8) (rE : Int) (rk : Nat) (e : Ending) (w' : World) : Prop :=
  ∃ A n c, e = .returned (.agg #[.int .i64 rN, .slice A n c, .int .i64 rE]) ∧ Bs w' A n rB ∧ Cur w' g s l rk ∧ Only g w w'

/-- The two blocks that Do makes first. -/
def DoF (W : World) (R : Nat) (K N : Int) : Prop :=
    W.cell? ⟨R, 0, none⟩ = some (.int .i64 K) ∧ W.cell? ⟨R, 1, none⟩ = some (.int .i64 N) ∧
    W.cell? ⟨R + 1, 0, none⟩ = some (.int .i64 0) ∧ W.cell? ⟨R + 1, 1, none⟩ = some (.slice none 0 0) ∧ W.cell? ⟨R + 1, 2, none⟩ = some (.int .i64 0) ∧
    W.frozen? ⟨R + 1, 0, none⟩ = false ∧ W.frozen? ⟨R + 1, 1, none⟩ = false ∧ W.frozen? ⟨R + 1, 2, none⟩ = false
theorem DoF.drewN {W : World} {R : Nat} {K N : Int} (h : DoF W R K N) (n : Nat) : DoF (W.drewN n) R K N := h

theorem doW_open (w : World) (K N : Int) {g k : Nat} {s : Value} {l : List UInt8} (h : Cur w g s l k) : ∃ (W : World) (R : Nat), Hid (doW w K N = W) ∧ Hid (R = w.heap.size) ∧ R + 2 ≤ W.heap.size ∧ Cur W g s l k ∧ Only g w W ∧
    DoF W R K N ∧ g < R ∧ ¬ g = R ∧ ¬ g = R + 1 := by
  have hb := doW_blk w (doW w K N) K N none (World.grownBy.refl _ _) (by simp)
  have hb2 : (doW w K N).heap[w.heap.size]? = some (.cells #[.int .i64 K, .int .i64 N] 32 (0, 0)) := by
    unfold doW
    rw [Below.heap_alloc _ _ _ (by simp), heap_alloc_new]
  have hg := h.lt
  exact ⟨doW w K N, w.heap.size, rfl, rfl, by rw [doW_size]; omega, h.below (doW_below w K N), Only.of_below (doW_below w K N), ⟨by rw [blk_cell hb2]; rfl, by rw [blk_cell hb2]; rfl,
    by rw [blk_cell hb]; rfl, by rw [blk_cell hb]; rfl, by rw [blk_cell hb]; rfl, blk_frozen hb _, blk_frozen hb _, blk_frozen hb _⟩, hg, by omega, by omega⟩

/-- The answer is stored: the cursor stays. -/
theorem rf_tail {w W1 : World} {g k k' R : Nat} {s : Value} {l : List UInt8} (h : Cur w g s l k) (hR : R = w.heap.size) (hon : Only g w W1) (hcur : Cur W1 g s l k') (x y z : Value) :
    Cur (set3 W1 (R + 1) x y z) g s l k' ∧ Only g w (set3 W1 (R + 1) x y z) := by
  have hg := grown_set3 W1 (R + 1) x y z
  have hr : ∀ b, some (R + 1) = some b → w.heap.size ≤ b := by intro b hb; cases hb; omega
  exact ⟨h.frame hon hcur hg hr, hon.grown hg hr⟩
theorem bs_tail {W1 : World} {A : Option Addr} {n R : Nat} {l : List UInt8} (h : Bs W1 A n l) (hr : ∀ o (x : UInt8), W1.cell? ⟨R + 1, o, none⟩ ≠ some (.int .u8 (x.toNat : Int))) (x y z : Value) : Bs (set3 W1 (R + 1) x y z) A n l :=
  h.only (grown_set3 W1 (R + 1) x y z) hr

/-- A new answer of the call's own, at block X, beside what was there. -/
theorem rf_new {W1 W2 : World} {g k R : Nat} {s : Value} {l : List UInt8} {K N : Int} {v0 v1 v2 : Value} {t : TypeId} (hW : W2 = (W1.alloc (.cells #[v0, v1, v2] t)).drew) (hF : DoF W1 R K N) (hC : Cur W1 g s l k) :
    DoF W2 R K N ∧ Cur W2 g s l k ∧ Below W1.heap.size W1 W2 ∧ W2.cell? ⟨W1.heap.size, 0, none⟩ = some v0 ∧ W2.cell? ⟨W1.heap.size, 1, none⟩ = some v1 ∧ W2.cell? ⟨W1.heap.size, 2, none⟩ = some v2 := by
  have hb : Below W1.heap.size W1 W2 := by subst hW; exact ((Below.refl _ _).alloc (Nat.le_refl _) _).drew
  have hx : W2.heap[W1.heap.size]? = some (.cells #[v0, v1, v2] t (0, 0)) := by subst hW; exact heap_alloc_new W1 _
  have keep : ∀ {p : Addr} {v : Value}, W1.cell? p = some v → W2.cell? p = some v := fun hp => (hb.cell (World.block_lt_of_cell? W1 _ hp)).trans hp
  have keepf : ∀ {p : Addr} {v : Value}, W1.cell? p = some v → W2.frozen? p = W1.frozen? p := fun hp => hb.frozen (World.block_lt_of_cell? W1 _ hp)
  obtain ⟨a0, a1, r0, r1, r2, z0, z1, z2⟩ := hF
  exact ⟨⟨keep a0, keep a1, keep r0, keep r1, keep r2, (keepf r0).trans z0, (keepf r1).trans z1, (keepf r2).trans z2⟩, hC.below hb, hb, by rw [blk_cell hx]; rfl, by rw [blk_cell hx]; rfl, by rw [blk_cell hx]; rfl⟩

/-- The cursor's place is stored: the blocks of the call's own stay. -/
theorem rf_move {W2 W3 : World} {g k j R X : Nat} {s : Value} {l : List UInt8} {K N x : Int} {v0 v1 v2 : Value} (hW : W3 = W2.drew.setCell ⟨g, 1, none⟩ (.int .i64 x)) (hx : x = j) (hj : j ≤ l.length) (hF : DoF W2 R K N) (hC : Cur W2 g s l k)
    (hg : ¬ g = R) (hg1 : ¬ g = R + 1) (hgX : ¬ g = X) (x0 : W2.cell? ⟨X, 0, none⟩ = some v0) (x1 : W2.cell? ⟨X, 1, none⟩ = some v1) (x2 : W2.cell? ⟨X, 2, none⟩ = some v2) :
    DoF W3 R K N ∧ Cur W3 g s l j ∧ Only g W2 W3 ∧ W3.cell? ⟨X, 0, none⟩ = some v0 ∧ W3.cell? ⟨X, 1, none⟩ = some v1 ∧ W3.cell? ⟨X, 2, none⟩ = some v2 := by
  subst hx
  have hb : Only g W2 W3 := by subst hW; exact (Only.refl g W2).drew.setCell rfl _
  have hc : Cur W3 g s l j := by subst hW; exact Cur.set (w := W2.drew) hC hj
  have keep : ∀ {p : Addr} {v : Value}, W2.cell? p = some v → ¬ g = p.block → W3.cell? p = some v := fun hp hne => hb.cell hp (by simpa using fun e => hne e.symm)
  have keepf : ∀ {p : Addr} {v : Value}, W2.cell? p = some v → ¬ g = p.block → W3.frozen? p = W2.frozen? p := fun {p} {v} hp hne => World.frozen?_of_block (hb.block p.block (World.block_lt_of_cell? W2 _ hp) (by simpa using fun e => hne e.symm))
  obtain ⟨a0, a1, r0, r1, r2, z0, z1, z2⟩ := hF
  exact ⟨⟨keep a0 hg, keep a1 hg, keep r0 hg1, keep r1 hg1, keep r2 hg1, (keepf r0 hg1).trans z0, (keepf r1 hg1).trans z1, (keepf r2 hg1).trans z2⟩, hc, hb, keep x0 hgX, keep x1 hgX, keep x2 hgX⟩

theorem Cur.open2 {w : World} {g k : Nat} {s : Value} {l : List UInt8} (h : Cur w g s l k) : ∃ A n c, s = .slice A n c ∧ w.cell? ⟨g, 0, none⟩ = some (.slice A n c) ∧ w.cell? ⟨g, 1, none⟩ = some (.int .i64 (k : Int)) ∧
    w.frozen? ⟨g, 1, none⟩ = false ∧ Bs w A n l ∧ n ≤ c ∧ k ≤ n ∧ n ≤ 1099511627776 := by
  obtain ⟨A, n, c, t, hs, hg, r⟩ := h
  exact ⟨A, n, c, hs, by rw [blk_cell hg]; rfl, by rw [blk_cell hg]; rfl, blk_frozen hg _, r⟩
theorem Cur.bs {w : World} {g k : Nat} {s : Value} {l : List UInt8} {A : Option Addr} {n c : Nat} (h : Cur w g s l k) (hs : s = .slice A n c) : Bs w A n l := by
  obtain ⟨A', n', c', t, e, _, hb, _⟩ := h
  rw [hs] at e
  cases e
  exact hb
theorem Bs.piece {w : World} {A : Option Addr} {n : Nat} {l : List UInt8} (h : Bs w A n l) {k m : Nat} (hm : k + m ≤ n) : Bs w (Option.map (fun x => x.add k) A) m ((l.drop k).take m) := by
  have := h.cut (i := k) (j := k + m) (by omega) hm
  rwa [Nat.add_sub_cancel_left] at this
theorem Bs.rest {w : World} {A : Option Addr} {n : Nat} {l : List UInt8} (h : Bs w A n l) {k : Nat} (hk : k ≤ n) : Bs w (Option.map (fun x => x.add k) A) (n - k) (l.drop k) := by
  have := h.cut (i := k) (j := n) hk (Nat.le_refl _)
  rwa [List.take_of_length_le (by simp [h.1])] at this
theorem Cur.drew {w : World} {g k : Nat} {s : Value} {l : List UInt8} (h : Cur w g s l k) : Cur w.drew g s l k := h
theorem drew_drewN (w : World) : w.drew = w.drewN 1 := rfl

set_option maxRecDepth 100000 in
set_option maxHeartbeats 1600000 in
theorem rf0 (g k : Nat) (N : Int) (l : List UInt8) (w : World) {s : Value} (h : Cur w g s l k) :
    Calls Try.prog 13 #[.pointer (some ⟨g, 0, none⟩), .agg #[.int .i64 0, .int .i64 N]] w (RefOk w g s l ((l.length : Int) - k) [] 0 k) := by
  obtain ⟨W, R, hW, hR, hS, hC, hO, hF, hgR, ng0, ng1⟩ := doW_open w 0 N h
  obtain ⟨A, n, c, hs, h0, h1, hf, hbs, hnc, hkn, hn⟩ := hC.open2
  have hEn := h.bs hs
  clear hs
  have HF := Lib.hid hF; clear hF
  go_enter Try.func13, Try.ntmps13
  go_wp2
  change Code.wp _ _ _ _ (doW w 0 N)
  rw [hW.out, ← hR.out]
  go_quiet (fail)
  have hF := HF.out.drewN nq
  have hC := hC.qt (Qt.of _ nq)
  have hO := hO.drewN nq
  have hS := (show R + 2 ≤ (W.drewN nq).heap.size from hS)
  have h0 := (show (W.drewN nq).cell? ⟨g, 0, none⟩ = some (.slice A n c) from h0)
  have h1 := (show (W.drewN nq).cell? ⟨g, 1, none⟩ = some (.int .i64 (k : Nat)) from h1)
  have hf := (show (W.drewN nq).frozen? ⟨g, 1, none⟩ = false from hf)
  have hbs := hbs.drewN nq
  clear HF
  generalize W.drewN nq = W1 at *
  obtain ⟨a0, a1, r0, r1, r2, z0, z1, z2⟩ := hF
  have hl := Lib.hid hbs.len
  go_wp2
  rw [hl.out]
  refine bodyPost_ret (v := .agg #[.int .i64 ((n : Int) - k), .slice none 0 0, .int .i64 0]) (by simp [results, Try.results13, go_sem, r0, r1, r2]) rfl ?_
  obtain ⟨t1, t2⟩ := rf_tail h hR.out hO hC (.int .i64 ((n : Int) - k)) (.slice none 0 0) (.int .i64 0)
  exact ⟨_, _, _, rfl, Bs.nil _ _, t1, t2⟩

set_option maxRecDepth 100000 in
set_option maxHeartbeats 1600000 in
theorem rf1 (g k : Nat) (N : Int) (l : List UInt8) (w : World) {s : Value} (h : Cur w g s l k) :
    Calls Try.prog 13 #[.pointer (some ⟨g, 0, none⟩), .agg #[.int .i64 1, .int .i64 N]] w (RefOk w g s l (k : Int) [] 0 k) := by
  obtain ⟨W, R, hW, hR, hS, hC, hO, hF, hgR, ng0, ng1⟩ := doW_open w 1 N h
  obtain ⟨A, n, c, hs, h0, h1, hf, hbs, hnc, hkn, hn⟩ := hC.open2
  have hEn := h.bs hs
  clear hs
  have HF := Lib.hid hF; clear hF
  go_enter Try.func13, Try.ntmps13
  go_wp2
  change Code.wp _ _ _ _ (doW w 1 N)
  rw [hW.out, ← hR.out]
  go_quiet (fail)
  have hF := HF.out.drewN nq
  have hC := hC.qt (Qt.of _ nq)
  have hO := hO.drewN nq
  have hS := (show R + 2 ≤ (W.drewN nq).heap.size from hS)
  have h0 := (show (W.drewN nq).cell? ⟨g, 0, none⟩ = some (.slice A n c) from h0)
  have h1 := (show (W.drewN nq).cell? ⟨g, 1, none⟩ = some (.int .i64 (k : Nat)) from h1)
  have hf := (show (W.drewN nq).frozen? ⟨g, 1, none⟩ = false from hf)
  have hbs := hbs.drewN nq
  clear HF
  generalize W.drewN nq = W1 at *
  obtain ⟨a0, a1, r0, r1, r2, z0, z1, z2⟩ := hF
  have hl := Lib.hid hbs.len
  go_wp2
  refine bodyPost_ret (v := .agg #[.int .i64 (k : Int), .slice none 0 0, .int .i64 0]) (by simp [results, Try.results13, go_sem, r0, r1, r2]) rfl ?_
  obtain ⟨t1, t2⟩ := rf_tail h hR.out hO hC (.int .i64 (k : Int)) (.slice none 0 0) (.int .i64 0)
  exact ⟨_, _, _, rfl, Bs.nil _ _, t1, t2⟩

set_option maxRecDepth 100000 in
set_option maxHeartbeats 1600000 in
theorem rf2 (g k : Nat) (N : Int) (l : List UInt8) (w : World) {s : Value} (h : Cur w g s l k) (hk : k < l.length) :
    Calls Try.prog 13 #[.pointer (some ⟨g, 0, none⟩), .agg #[.int .i64 2, .int .i64 N]] w (RefOk w g s l (nth l k) [] 0 k) := by
  obtain ⟨W, R, hW, hR, hS, hC, hO, hF, hgR, ng0, ng1⟩ := doW_open w 2 N h
  obtain ⟨A, n, c, hs, h0, h1, hf, hbs, hnc, hkn, hn⟩ := hC.open2
  have hEn := h.bs hs
  clear hs
  have HF := Lib.hid hF; clear hF
  go_enter Try.func13, Try.ntmps13
  go_wp2
  change Code.wp _ _ _ _ (doW w 2 N)
  rw [hW.out, ← hR.out]
  go_quiet (fail)
  have hF := HF.out.drewN nq
  have hC := hC.qt (Qt.of _ nq)
  have hO := hO.drewN nq
  have hS := (show R + 2 ≤ (W.drewN nq).heap.size from hS)
  have h0 := (show (W.drewN nq).cell? ⟨g, 0, none⟩ = some (.slice A n c) from h0)
  have h1 := (show (W.drewN nq).cell? ⟨g, 1, none⟩ = some (.int .i64 (k : Nat)) from h1)
  have hf := (show (W.drewN nq).frozen? ⟨g, 1, none⟩ = false from hf)
  have hbs := hbs.drewN nq
  clear HF
  generalize W.drewN nq = W1 at *
  obtain ⟨a0, a1, r0, r1, r2, z0, z1, z2⟩ := hF
  have hl := Lib.hid hbs.len
  have hk' : k < n := by have := hl.out; omega
  obtain ⟨b, o, rfl, hc⟩ := hbs.at_ hk'
  have e1 : (((n : Int) - k) == 0) = false := by rw [beq_eq_false_iff_ne]; omega
  have i1 : (k : Int) < n := by omega
  have nb := nth_bound l k
  obtain ⟨nb0, nb1⟩ := nb
  have hwr : IntKind.i64.wrap (nth l k) = nth l k := by rw [IntKind.wrap_i64]; omega
  have ne0 := World.new_ne W1 _ h0
  have ne1 := World.new_ne W1 _ h1
  have ne2 := World.new_ne W1 _ hc
  go_wp2
  go_region_held3 (fun w' => w'.cell? ⟨g, 0, none⟩ = some (.slice (some ⟨b, o, none⟩) n c) ∧ w'.cell? ⟨g, 1, none⟩ = some (.int .i64 k) ∧ w'.cell? ⟨b, o + k, none⟩ = some (.int .u8 (nth l k))) (go_keep) (first | fail)
  all_goals
    generalize hW2 : (W1.alloc (.cells #[.int .i64 (nth l k), .slice none 0 0, .int .i64 0] 34)).drew = W2
    obtain ⟨hF2, hC2, hB2, x0, x1, x2⟩ := rf_new hW2.symm ⟨a0, a1, r0, r1, r2, z0, z1, z2⟩ hC
    have hO2 := hO.trans (Only.of_below hB2)
    clear hbs hc ne0 ne1 ne2 hwr
    generalize hX : W1.heap.size = X at *
    have hgX : ¬ g = X := by omega
    have hRX : ¬ R + 1 = X := by omega
    have HX := Lib.hid hX
    clear hX hW2 h0 h1 hf a0 a1 r0 r1 r2 z0 z1 z2 hB2 hO
    obtain ⟨a0, a1, r0, r1, r2, z0, z1, z2⟩ := hF2
    obtain ⟨A2, n2, c2, h0, h1, hf, hbs2, hnc2, hkn2, hn2⟩ := hC2.open_
    go_wp2
    go_still_tail 11, (by kernel_rfl)
    go_wp2
    refine bodyPost_ret (v := .agg #[.int .i64 (nth l k), .slice none 0 0, .int .i64 0]) (by simp [results, Try.results13, go_sem, r0, r1, r2]) rfl ?_
    have hcs : Cur (W2.setCell ⟨g, 1, none⟩ (.int .i64 (k : Int))) g s l k := by
      have hj := hC2.set (j := k) (by have := hl.out; omega)
      rw [show (((k : Nat)) : Int) = (k : Int) by omega] at hj
      exact hj
    have hos := hO2.setCell (p := ⟨g, 1, none⟩) rfl (.int .i64 (k : Int))
    obtain ⟨t1, t2⟩ := rf_tail h hR.out hos hcs (.int .i64 (nth l k)) (.slice none 0 0) (.int .i64 0)
    exact ⟨_, _, _, rfl, Bs.nil _ _, t1.drew, t2.drew⟩

set_option maxRecDepth 100000 in
set_option maxHeartbeats 1600000 in
theorem rf2e (g k : Nat) (N : Int) (l : List UInt8) (w : World) {s : Value} (h : Cur w g s l l.length) :
    Calls Try.prog 13 #[.pointer (some ⟨g, 0, none⟩), .agg #[.int .i64 2, .int .i64 N]] w (RefOk w g s l 0 [] 3 l.length) := by
  obtain ⟨W, R, hW, hR, hS, hC, hO, hF, hgR, ng0, ng1⟩ := doW_open w 2 N h
  obtain ⟨A, n, c, hs, h0, h1, hf, hbs, hnc, hkn, hn⟩ := hC.open2
  have hEn := h.bs hs
  clear hs
  have HF := Lib.hid hF; clear hF
  go_enter Try.func13, Try.ntmps13
  go_wp2
  change Code.wp _ _ _ _ (doW w 2 N)
  rw [hW.out, ← hR.out]
  go_quiet (fail)
  have hF := HF.out.drewN nq
  have hC := hC.qt (Qt.of _ nq)
  have hO := hO.drewN nq
  have hS := (show R + 2 ≤ (W.drewN nq).heap.size from hS)
  have h0 := (show (W.drewN nq).cell? ⟨g, 0, none⟩ = some (.slice A n c) from h0)
  have h1 := (show (W.drewN nq).cell? ⟨g, 1, none⟩ = some (.int .i64 (l.length : Nat)) from h1)
  have hf := (show (W.drewN nq).frozen? ⟨g, 1, none⟩ = false from hf)
  have hbs := hbs.drewN nq
  clear HF
  generalize W.drewN nq = W1 at *
  obtain ⟨a0, a1, r0, r1, r2, z0, z1, z2⟩ := hF
  have hl := Lib.hid hbs.len
  have e1 : (((n : Int) - (l.length : Int)) == 0) = true := by rw [beq_iff_eq, hl.out]; omega
  go_wp2
  refine bodyPost_ret (v := .agg #[.int .i64 0, .slice none 0 0, .int .i64 3]) (by simp [results, Try.results13, go_sem, r0, r1, r2]) rfl ?_
  obtain ⟨t1, t2⟩ := rf_tail h hR.out hO hC (.int .i64 0) (.slice none 0 0) (.int .i64 3)
  exact ⟨_, _, _, rfl, Bs.nil _ _, t1, t2⟩

set_option maxRecDepth 100000 in
set_option maxHeartbeats 1600000 in
theorem rf3 (g k : Nat) (N : Int) (l : List UInt8) (w : World) {s : Value} (h : Cur w g s l k) (hk : k < l.length) :
    Calls Try.prog 13 #[.pointer (some ⟨g, 0, none⟩), .agg #[.int .i64 3, .int .i64 N]] w (RefOk w g s l (nth l k) [] 0 (k + 1)) := by
  obtain ⟨W, R, hW, hR, hS, hC, hO, hF, hgR, ng0, ng1⟩ := doW_open w 3 N h
  obtain ⟨A, n, c, hs, h0, h1, hf, hbs, hnc, hkn, hn⟩ := hC.open2
  have hEn := h.bs hs
  clear hs
  have HF := Lib.hid hF; clear hF
  go_enter Try.func13, Try.ntmps13
  go_wp2
  change Code.wp _ _ _ _ (doW w 3 N)
  rw [hW.out, ← hR.out]
  go_quiet (fail)
  have hF := HF.out.drewN nq
  have hC := hC.qt (Qt.of _ nq)
  have hO := hO.drewN nq
  have hS := (show R + 2 ≤ (W.drewN nq).heap.size from hS)
  have h0 := (show (W.drewN nq).cell? ⟨g, 0, none⟩ = some (.slice A n c) from h0)
  have h1 := (show (W.drewN nq).cell? ⟨g, 1, none⟩ = some (.int .i64 (k : Nat)) from h1)
  have hf := (show (W.drewN nq).frozen? ⟨g, 1, none⟩ = false from hf)
  have hbs := hbs.drewN nq
  clear HF
  generalize W.drewN nq = W1 at *
  obtain ⟨a0, a1, r0, r1, r2, z0, z1, z2⟩ := hF
  have hl := Lib.hid hbs.len
  have hk' : k < n := by have := hl.out; omega
  obtain ⟨b, o, rfl, hc⟩ := hbs.at_ hk'
  have e1 : (((n : Int) - k) == 0) = false := by rw [beq_eq_false_iff_ne]; omega
  have i1 : (k : Int) < n := by omega
  have nb := nth_bound l k
  obtain ⟨nb0, nb1⟩ := nb
  have hwr : IntKind.i64.wrap (nth l k) = nth l k := by rw [IntKind.wrap_i64]; omega
  have ne0 := World.new_ne W1 _ h0
  have ne1 := World.new_ne W1 _ h1
  have ne2 := World.new_ne W1 _ hc
  go_wp2
  go_region_held3 (fun w' => w'.cell? ⟨g, 0, none⟩ = some (.slice (some ⟨b, o, none⟩) n c) ∧ w'.cell? ⟨g, 1, none⟩ = some (.int .i64 k) ∧ w'.cell? ⟨b, o + k, none⟩ = some (.int .u8 (nth l k))) (go_keep) (first | fail)
  all_goals
    generalize hW2 : (W1.alloc (.cells #[.int .i64 (nth l k), .slice none 0 0, .int .i64 0] 34)).drew = W2
    obtain ⟨hF2, hC2, hB2, x0, x1, x2⟩ := rf_new hW2.symm ⟨a0, a1, r0, r1, r2, z0, z1, z2⟩ hC
    have hO2 := hO.trans (Only.of_below hB2)
    clear hbs hc ne0 ne1 ne2 hwr
    generalize hX : W1.heap.size = X at *
    have hgX : ¬ g = X := by omega
    have hRX : ¬ R + 1 = X := by omega
    have HX := Lib.hid hX
    clear hX hW2 h0 h1 hf a0 a1 r0 r1 r2 z0 z1 z2 hB2 hO
    obtain ⟨a0, a1, r0, r1, r2, z0, z1, z2⟩ := hF2
    obtain ⟨A2, n2, c2, h0, h1, hf, hbs2, hnc2, hkn2, hn2⟩ := hC2.open_
    go_wp2
    go_still_tail 11, (by kernel_rfl)
    go_wp2
    refine bodyPost_ret (v := .agg #[.int .i64 (nth l k), .slice none 0 0, .int .i64 0]) (by simp [results, Try.results13, go_sem, r0, r1, r2]) rfl ?_
    have hcs : Cur (W2.setCell ⟨g, 1, none⟩ (.int .i64 ((k : Int) + 3 - 2))) g s l (k + 1) := by
      have hj := hC2.set (j := (k + 1)) (by have := hl.out; omega)
      rw [show ((((k + 1) : Nat)) : Int) = ((k : Int) + 3 - 2) by omega] at hj
      exact hj
    have hos := hO2.setCell (p := ⟨g, 1, none⟩) rfl (.int .i64 ((k : Int) + 3 - 2))
    obtain ⟨t1, t2⟩ := rf_tail h hR.out hos hcs (.int .i64 (nth l k)) (.slice none 0 0) (.int .i64 0)
    exact ⟨_, _, _, rfl, Bs.nil _ _, t1.drew, t2.drew⟩

set_option maxRecDepth 100000 in
set_option maxHeartbeats 1600000 in
theorem rf3e (g k : Nat) (N : Int) (l : List UInt8) (w : World) {s : Value} (h : Cur w g s l l.length) :
    Calls Try.prog 13 #[.pointer (some ⟨g, 0, none⟩), .agg #[.int .i64 3, .int .i64 N]] w (RefOk w g s l 0 [] 3 l.length) := by
  obtain ⟨W, R, hW, hR, hS, hC, hO, hF, hgR, ng0, ng1⟩ := doW_open w 3 N h
  obtain ⟨A, n, c, hs, h0, h1, hf, hbs, hnc, hkn, hn⟩ := hC.open2
  have hEn := h.bs hs
  clear hs
  have HF := Lib.hid hF; clear hF
  go_enter Try.func13, Try.ntmps13
  go_wp2
  change Code.wp _ _ _ _ (doW w 3 N)
  rw [hW.out, ← hR.out]
  go_quiet (fail)
  have hF := HF.out.drewN nq
  have hC := hC.qt (Qt.of _ nq)
  have hO := hO.drewN nq
  have hS := (show R + 2 ≤ (W.drewN nq).heap.size from hS)
  have h0 := (show (W.drewN nq).cell? ⟨g, 0, none⟩ = some (.slice A n c) from h0)
  have h1 := (show (W.drewN nq).cell? ⟨g, 1, none⟩ = some (.int .i64 (l.length : Nat)) from h1)
  have hf := (show (W.drewN nq).frozen? ⟨g, 1, none⟩ = false from hf)
  have hbs := hbs.drewN nq
  clear HF
  generalize W.drewN nq = W1 at *
  obtain ⟨a0, a1, r0, r1, r2, z0, z1, z2⟩ := hF
  have hl := Lib.hid hbs.len
  have e1 : (((n : Int) - (l.length : Int)) == 0) = true := by rw [beq_iff_eq, hl.out]; omega
  go_wp2
  refine bodyPost_ret (v := .agg #[.int .i64 0, .slice none 0 0, .int .i64 3]) (by simp [results, Try.results13, go_sem, r0, r1, r2]) rfl ?_
  obtain ⟨t1, t2⟩ := rf_tail h hR.out hO hC (.int .i64 0) (.slice none 0 0) (.int .i64 3)
  exact ⟨_, _, _, rfl, Bs.nil _ _, t1, t2⟩

set_option maxRecDepth 100000 in
set_option maxHeartbeats 1600000 in
theorem rf4n (g k : Nat) (E : Int) (N : Int) (l : List UInt8) (w : World) {s : Value} (h : Cur w g s l k) (hm : N < 0 ∨ (l.length : Int) - k < N) (hE : (if N < 0 then (1 : Int) else 3) = E) :
    Calls Try.prog 13 #[.pointer (some ⟨g, 0, none⟩), .agg #[.int .i64 4, .int .i64 N]] w (RefOk w g s l 0 [] E k) := by
  obtain ⟨W, R, hW, hR, hS, hC, hO, hF, hgR, ng0, ng1⟩ := doW_open w 4 N h
  obtain ⟨A, n, c, hs, h0, h1, hf, hbs, hnc, hkn, hn⟩ := hC.open2
  have hEn := h.bs hs
  clear hs
  have HF := Lib.hid hF; clear hF
  go_enter Try.func13, Try.ntmps13
  go_wp2
  change Code.wp _ _ _ _ (doW w 4 N)
  rw [hW.out, ← hR.out]
  go_quiet (fail)
  have hF := HF.out.drewN nq
  have hC := hC.qt (Qt.of _ nq)
  have hO := hO.drewN nq
  have hS := (show R + 2 ≤ (W.drewN nq).heap.size from hS)
  have h0 := (show (W.drewN nq).cell? ⟨g, 0, none⟩ = some (.slice A n c) from h0)
  have h1 := (show (W.drewN nq).cell? ⟨g, 1, none⟩ = some (.int .i64 (k : Nat)) from h1)
  have hf := (show (W.drewN nq).frozen? ⟨g, 1, none⟩ = false from hf)
  have hbs := hbs.drewN nq
  clear HF
  generalize W.drewN nq = W1 at *
  obtain ⟨a0, a1, r0, r1, r2, z0, z1, z2⟩ := hF
  have hl := Lib.hid hbs.len
  by_cases h0n : N < 0
  · rw [if_pos h0n] at hE
    subst hE
    go_wp2
    refine bodyPost_ret (v := .agg #[.int .i64 0, .slice none 0 0, .int .i64 1]) (by simp [results, Try.results13, go_sem, r0, r1, r2]) rfl ?_
    obtain ⟨t1, t2⟩ := rf_tail h hR.out hO hC (.int .i64 0) (.slice none 0 0) (.int .i64 1)
    exact ⟨_, _, _, rfl, Bs.nil _ _, t1, t2⟩
  · rw [if_neg h0n] at hE
    subst hE
    have hgt : (n : Int) - k < N := by have := hl.out; omega
    clear hm
    go_wp2
    refine bodyPost_ret (v := .agg #[.int .i64 0, .slice none 0 0, .int .i64 3]) (by simp [results, Try.results13, go_sem, r0, r1, r2]) rfl ?_
    obtain ⟨t1, t2⟩ := rf_tail h hR.out hO hC (.int .i64 0) (.slice none 0 0) (.int .i64 3)
    exact ⟨_, _, _, rfl, Bs.nil _ _, t1, t2⟩

set_option maxRecDepth 100000 in
set_option maxHeartbeats 1600000 in
theorem rf5n (g k : Nat) (E : Int) (N : Int) (l : List UInt8) (w : World) {s : Value} (h : Cur w g s l k) (hm : N < 0 ∨ (l.length : Int) - k < N) (hE : (if N < 0 then (1 : Int) else 3) = E) :
    Calls Try.prog 13 #[.pointer (some ⟨g, 0, none⟩), .agg #[.int .i64 5, .int .i64 N]] w (RefOk w g s l 0 [] E k) := by
  obtain ⟨W, R, hW, hR, hS, hC, hO, hF, hgR, ng0, ng1⟩ := doW_open w 5 N h
  obtain ⟨A, n, c, hs, h0, h1, hf, hbs, hnc, hkn, hn⟩ := hC.open2
  have hEn := h.bs hs
  clear hs
  have HF := Lib.hid hF; clear hF
  go_enter Try.func13, Try.ntmps13
  go_wp2
  change Code.wp _ _ _ _ (doW w 5 N)
  rw [hW.out, ← hR.out]
  go_quiet (fail)
  have hF := HF.out.drewN nq
  have hC := hC.qt (Qt.of _ nq)
  have hO := hO.drewN nq
  have hS := (show R + 2 ≤ (W.drewN nq).heap.size from hS)
  have h0 := (show (W.drewN nq).cell? ⟨g, 0, none⟩ = some (.slice A n c) from h0)
  have h1 := (show (W.drewN nq).cell? ⟨g, 1, none⟩ = some (.int .i64 (k : Nat)) from h1)
  have hf := (show (W.drewN nq).frozen? ⟨g, 1, none⟩ = false from hf)
  have hbs := hbs.drewN nq
  clear HF
  generalize W.drewN nq = W1 at *
  obtain ⟨a0, a1, r0, r1, r2, z0, z1, z2⟩ := hF
  have hl := Lib.hid hbs.len
  by_cases h0n : N < 0
  · rw [if_pos h0n] at hE
    subst hE
    go_wp2
    refine bodyPost_ret (v := .agg #[.int .i64 0, .slice none 0 0, .int .i64 1]) (by simp [results, Try.results13, go_sem, r0, r1, r2]) rfl ?_
    obtain ⟨t1, t2⟩ := rf_tail h hR.out hO hC (.int .i64 0) (.slice none 0 0) (.int .i64 1)
    exact ⟨_, _, _, rfl, Bs.nil _ _, t1, t2⟩
  · rw [if_neg h0n] at hE
    subst hE
    have hgt : (n : Int) - k < N := by have := hl.out; omega
    clear hm
    go_wp2
    refine bodyPost_ret (v := .agg #[.int .i64 0, .slice none 0 0, .int .i64 3]) (by simp [results, Try.results13, go_sem, r0, r1, r2]) rfl ?_
    obtain ⟨t1, t2⟩ := rf_tail h hR.out hO hC (.int .i64 0) (.slice none 0 0) (.int .i64 3)
    exact ⟨_, _, _, rfl, Bs.nil _ _, t1, t2⟩

set_option maxRecDepth 100000 in
set_option maxHeartbeats 1600000 in
theorem rf7 (g k : Nat) (j : Nat) (N : Int) (l : List UInt8) (w : World) {s : Value} (h : Cur w g s l k) (hj : j ≤ k) (hN : N = j) :
    Calls Try.prog 13 #[.pointer (some ⟨g, 0, none⟩), .agg #[.int .i64 7, .int .i64 N]] w (RefOk w g s l 0 [] 0 j) := by
  have HN := Lib.hid hN; clear hN
  obtain ⟨W, R, hW, hR, hS, hC, hO, hF, hgR, ng0, ng1⟩ := doW_open w 7 N h
  obtain ⟨A, n, c, hs, h0, h1, hf, hbs, hnc, hkn, hn⟩ := hC.open2
  have hEn := h.bs hs
  clear hs
  have HF := Lib.hid hF; clear hF
  go_enter Try.func13, Try.ntmps13
  go_wp2
  change Code.wp _ _ _ _ (doW w 7 N)
  rw [hW.out, ← hR.out]
  go_quiet (fail)
  have hF := HF.out.drewN nq
  have hC := hC.qt (Qt.of _ nq)
  have hO := hO.drewN nq
  have hS := (show R + 2 ≤ (W.drewN nq).heap.size from hS)
  have h0 := (show (W.drewN nq).cell? ⟨g, 0, none⟩ = some (.slice A n c) from h0)
  have h1 := (show (W.drewN nq).cell? ⟨g, 1, none⟩ = some (.int .i64 (k : Nat)) from h1)
  have hf := (show (W.drewN nq).frozen? ⟨g, 1, none⟩ = false from hf)
  have hbs := hbs.drewN nq
  clear HF
  generalize W.drewN nq = W1 at *
  obtain ⟨a0, a1, r0, r1, r2, z0, z1, z2⟩ := hF
  have hl := Lib.hid hbs.len
  have hN := HN.out
  subst hN
  have e1 : decide ((j : Int) < 0) = false := by simp
  have e2 : decide (k < j) = false := by simp; omega
  go_wp2
  go_quiet (fail)
  go_wp2
  refine bodyPost_ret (v := .agg #[.int .i64 0, .slice none 0 0, .int .i64 0]) (by simp [results, Try.results13, go_sem, r0, r1, r2]) rfl ?_
  have hcs : Cur ((W1.drewN nq).setCell ⟨g, 1, none⟩ (.int .i64 (j : Int))) g s l j := (hC.qt (Qt.of _ nq)).set (by have := hl.out; omega)
  have hos := (hO.drewN nq).setCell (p := ⟨g, 1, none⟩) rfl (.int .i64 (j : Int))
  obtain ⟨t1, t2⟩ := rf_tail h hR.out hos hcs (.int .i64 0) (.slice none 0 0) (.int .i64 0)
  exact ⟨_, _, _, rfl, Bs.nil _ _, t1, t2⟩

set_option maxRecDepth 100000 in
set_option maxHeartbeats 1600000 in
theorem rf7n (g k : Nat) (N : Int) (l : List UInt8) (w : World) {s : Value} (h : Cur w g s l k) (hx : N < 0 ∨ (k : Int) < N) :
    Calls Try.prog 13 #[.pointer (some ⟨g, 0, none⟩), .agg #[.int .i64 7, .int .i64 N]] w (RefOk w g s l 0 [] 1 k) := by
  obtain ⟨W, R, hW, hR, hS, hC, hO, hF, hgR, ng0, ng1⟩ := doW_open w 7 N h
  obtain ⟨A, n, c, hs, h0, h1, hf, hbs, hnc, hkn, hn⟩ := hC.open2
  have hEn := h.bs hs
  clear hs
  have HF := Lib.hid hF; clear hF
  go_enter Try.func13, Try.ntmps13
  go_wp2
  change Code.wp _ _ _ _ (doW w 7 N)
  rw [hW.out, ← hR.out]
  go_quiet (fail)
  have hF := HF.out.drewN nq
  have hC := hC.qt (Qt.of _ nq)
  have hO := hO.drewN nq
  have hS := (show R + 2 ≤ (W.drewN nq).heap.size from hS)
  have h0 := (show (W.drewN nq).cell? ⟨g, 0, none⟩ = some (.slice A n c) from h0)
  have h1 := (show (W.drewN nq).cell? ⟨g, 1, none⟩ = some (.int .i64 (k : Nat)) from h1)
  have hf := (show (W.drewN nq).frozen? ⟨g, 1, none⟩ = false from hf)
  have hbs := hbs.drewN nq
  clear HF
  generalize W.drewN nq = W1 at *
  obtain ⟨a0, a1, r0, r1, r2, z0, z1, z2⟩ := hF
  have hl := Lib.hid hbs.len
  by_cases h0n : N < 0
  · have e1 : decide (N < 0) = true := by simp; omega
    go_wp2
    go_quiet (fail)
    go_wp2
    refine bodyPost_ret (v := .agg #[.int .i64 0, .slice none 0 0, .int .i64 1]) (by simp [results, Try.results13, go_sem, r0, r1, r2]) rfl ?_
    obtain ⟨t1, t2⟩ := rf_tail h hR.out (hO.drewN nq) (hC.qt (Qt.of _ nq)) (.int .i64 0) (.slice none 0 0) (.int .i64 1)
    exact ⟨_, _, _, rfl, Bs.nil _ _, t1, t2⟩
  · have e1 : decide (N < 0) = false := by simp; omega
    have e2 : (k : Int) < N := by omega
    clear hx
    go_wp2
    go_quiet (fail)
    go_wp2
    refine bodyPost_ret (v := .agg #[.int .i64 0, .slice none 0 0, .int .i64 1]) (by simp [results, Try.results13, go_sem, r0, r1, r2]) rfl ?_
    obtain ⟨t1, t2⟩ := rf_tail h hR.out (hO.drewN nq) (hC.qt (Qt.of _ nq)) (.int .i64 0) (.slice none 0 0) (.int .i64 1)
    exact ⟨_, _, _, rfl, Bs.nil _ _, t1, t2⟩

end Go.Proofs.Ytcekglicepjjpaa
