/-
  The contracts of the project's head: the next tag, kept.
-/
import Derived.Test.YtbhfaakhcnkegaaHdTag
namespace Go.Proofs.Ytbhfaakhcnkegaa
open Go.RowKit
set_option linter.unusedVariables false
set_option linter.unusedSimpArgs false
set_option maxRecDepth 4000

theorem digs_no (l : List UInt8) (k : Nat) (c : Int) (b : Bool) : ∀ (f i : Nat) (z : Int), (digs2 l k c b f i z).2.2 ≠ 0 → digs2 l k c b f i z = (tg0, k, (digs2 l k c b f i z).2.2)
  | 0, i, z => by unfold digs2; split <;> intro _ <;> rfl
  | f + 1, i, z => by
    have ih := digs_no l k c b f (i + 1) (128 * z + nth l (k + i) % 128)
    unfold digs2
    split
    · intro _; rfl
    · split
      · intro _; rfl
      · split
        · split
          · intro _; rfl
          · intro h; simp at h
        · exact ih
theorem rTag_no (l : List UInt8) (k : Nat) (h : (rTag l k).2.2 ≠ 0) : rTag l k = (tg0, k, (rTag l k).2.2) := by
  unfold rTag at *
  split
  · rfl
  · rename_i h0
    rw [if_neg h0] at h
    split
    · rename_i h1; rw [if_pos h1] at h; simp at h
    · rename_i h1; rw [if_neg h1] at h; exact digs_no _ _ _ _ _ _ _ h

/-- What reading a tag hands back, ahead of going back. -/
def TagRaw (w : World) (g : Nat) (s : Value) (l : List UInt8) (k : Nat) (e : Ending) (w' : World) : Prop :=
  ∃ (t : Tg) (E : Int) (k' : Nat), e = .returned (.tuple #[t.v, .int .i64 E]) ∧ Cur w' g s l k' ∧ k ≤ k' ∧ Only g w w' ∧ (rTag l k).2.2 = E ∧ (E = 0 → rTag l k = (t, k', 0))

theorem Own3.only {W W' : World} {R g : Nat} {a b c : Value} (h : Own3 W R a b c) (hb : Only g W W') (hne : R ≠ g) : Own3 W' R a b c := by
  obtain ⟨h0, h1, h2, f0, f1, f2⟩ := h
  have keep : ∀ {i : Nat} {v : Value}, W.cell? ⟨R, i, none⟩ = some v → W'.cell? ⟨R, i, none⟩ = some v := fun hp => hb.cell hp (by simpa using hne)
  have hlt : R < W.heap.size := World.block_lt_of_cell? W _ h0
  have hbl := hb.block R hlt (by simpa using hne)
  have keepf : ∀ {i : Nat}, W'.frozen? ⟨R, i, none⟩ = W.frozen? ⟨R, i, none⟩ := by intro i; simp only [World.frozen?, hbl]
  exact ⟨keep h0, keep h1, keep h2, keepf.trans f0, keepf.trans f1, keepf.trans f2⟩

theorem bit32 (x : Int) (h0 : 0 ≤ x) (h1 : x < 256) : (bits .and .u8 x 32 != 0) = (x / 32 % 2 == 1) := by
  obtain ⟨n, rfl⟩ : ∃ n : Nat, x = n := ⟨x.toNat, by omega⟩
  have key : ∀ n, n < 256 → (bits .and .u8 ((n : Nat) : Int) 32 != 0) = (((n : Nat) : Int) / 32 % 2 == 1) := by decide +kernel
  exact key n (by omega)
theorem Only.set3 {R : Nat} {w W : World} (h : Only R w W) (x y z : Value) : Only R w (((W.setCell ⟨R, 0, none⟩ x).setCell ⟨R, 1, none⟩ y).setCell ⟨R, 2, none⟩ z) :=
  ((h.setCell rfl x).setCell rfl y).setCell rfl z

set_option maxHeartbeats 1600000 in
theorem hdReadTagRaw (g k : Nat) (l : List UInt8) (w : World) {s : Value} (h : Cur w g s l k) :
    Calls Try.prog 107 #[.pointer (some ⟨g, 0, none⟩)] w (TagRaw w g s l k) := by
  have hg := h.lt
  go_enter Try.func107, Try.ntmps107
  have h1 := h.below (below_alloc1 w (Obj.cells #[Value.int IntKind.i64 0, Value.int IntKind.i64 0, Value.bool false] 36))
  have o1 := Own3.new w (Value.int IntKind.i64 0) (Value.int IntKind.i64 0) (Value.bool false) 36
  have b1 : Only g w (w.alloc (Obj.cells #[Value.int IntKind.i64 0, Value.int IntKind.i64 0, Value.bool false] 36)) := Only.of_below (below_alloc1 _ _)
  by_cases hend : l.length ≤ k
  · have hl : k = l.length := by
      obtain ⟨_, _, _, _, _, _, hb, _, hk, _⟩ := h; have := hb.len; omega
    subst hl
    have hR : Hid (rTag l l.length = (tg0, l.length, 3)) := by unfold Hid rTag; rw [if_pos (Nat.le_refl _)]
    go_wp2_with fail
    refine (curByteEnd g l _ h1).mono ?_
    rintro e w2 ⟨rfl, hq⟩
    have o2 := o1.below hq.below
    have h2 := h1.qt hq
    have hO := b1.trans (Only.of_qt hq)
    obtain ⟨r0, r1, r2, f0, f1, f2⟩ := o2
    clear h1 o1 b1 hq
    go_wp2
    refine bodyPost_ret (v := .tuple #[tg0.v, .int .i64 3]) (by simp [results, Try.results107, go_sem, tg0, Tg.v, r0, r1, r2]) rfl ?_
    have hset := (Only.refl w.heap.size w2).set3 (.int .i64 0) (.int .i64 0) (.bool false)
    exact ⟨tg0, 3, l.length, rfl, Cur.frame h hO h2 hset (by intro b e; cases e; omega), Nat.le_refl _, Only.grown hO hset (by intro b e; cases e; omega), by rw [hR.out], fun e => by simp at e⟩
  · have hbd := nth_bound l k
    have hbit := bit32 (nth l k) hbd.1 hbd.2
    go_wp2_with fail
    refine (curByte g _ l _ h1 (by omega)).mono ?_
    rintro e w2 ⟨rfl, hc2, ho2⟩
    have o2 := (o1.only ho2 (by omega)).below (below_alloc1 w2 (Obj.cells #[Value.int IntKind.i64 (nth l k / 64), Value.int IntKind.i64 (nth l k % 32), Value.bool (nth l k / 32 % 2 == 1)] 36))
    have hO2 := b1.trans ho2
    have hsz : w.heap.size < w2.heap.size := by have := ho2.size; simp at this; omega
    have hO3 := Only.grown hO2 (Only.of_below (g := w.heap.size) (below_alloc1 w2 (Obj.cells #[Value.int IntKind.i64 (nth l k / 64), Value.int IntKind.i64 (nth l k % 32), Value.bool (nth l k / 32 % 2 == 1)] 36))) (by intro b e; cases e; omega)
    have hc3 := hc2.below (below_alloc1 w2 (Obj.cells #[Value.int IntKind.i64 (nth l k / 64), Value.int IntKind.i64 (nth l k % 32), Value.bool (nth l k / 32 % 2 == 1)] 36))
    clear h1 b1 ho2 o1
    by_cases q : nth l k % 32 = 31
    · have hR : Hid (rTag l k = digs2 l k (nth l k / 64) (nth l k / 32 % 2 == 1) 3 1 0) := by unfold Hid rTag; rw [if_neg hend, if_neg (by omega)]
      have e1 : (nth l k % 32 == 31) = true := by simp; omega
      have ot := Own3.new w2 (Value.int IntKind.i64 (nth l k / 64)) (Value.int IntKind.i64 (nth l k % 32)) (Value.bool (nth l k / 32 % 2 == 1)) 36
      have Q := Lib.hid q
      clear q
      go_wp2_with fail
      refine (hdReadNumber g k l (nth l k / 64) (nth l k / 32 % 2 == 1) _ hc3).mono ?_
      rintro e w4 ⟨N, E, k', rfl, hc4, hk4, hO4, hE, hok⟩
      have o4 := (o2.only hO4 (by omega)).only ((Only.refl w2.heap.size w4).setCell (p := ⟨w2.heap.size, 1, none⟩) rfl (.int .i64 N)) (by omega)
      have hO5 := Only.grown (hO3.trans hO4) ((Only.refl w2.heap.size w4).setCell (p := ⟨w2.heap.size, 1, none⟩) rfl (.int .i64 N)) (by intro b e; cases e; omega)
      have hc5 := Cur.frame h (hO3.trans hO4) hc4 ((Only.refl w2.heap.size w4).setCell (p := ⟨w2.heap.size, 1, none⟩) rfl (.int .i64 N)) (by intro b e; cases e; omega)
      obtain ⟨t0, t1, t2, tf0, tf1, tf2⟩ := ot.only hO4 (by omega)
      obtain ⟨r0, r1, r2, f0, f1, f2⟩ := o4
      have HE := Lib.hid hE
      have HOK := Lib.hid hok
      clear hE hok hc4 hO4 o2 ot hO3 hc3 hc2 hO2
      go_wp2
      refine bodyPost_ret (v := .tuple #[Tg.v ⟨nth l k / 64, N, nth l k / 32 % 2 == 1⟩, .int .i64 E]) (by simp [results, Try.results107, go_sem, Tg.v, r0, r1, r2]) rfl ?_
      have hset := (Only.refl w.heap.size (w4.setCell ⟨w2.heap.size, 1, none⟩ (.int .i64 N))).set3 (.int .i64 (nth l k / 64)) (.int .i64 N) (.bool (nth l k / 32 % 2 == 1))
      exact ⟨_, E, k', rfl, Cur.frame h hO5 hc5 hset (by intro b e; cases e; omega), hk4, Only.grown hO5 hset (by intro b e; cases e; omega), by rw [hR.out]; exact HE.out, fun e => by rw [hR.out]; exact HOK.out e⟩
    · have hR : Hid (rTag l k = (tg1 (nth l k), k + 1, 0)) := by unfold Hid rTag; rw [if_neg hend, if_pos (by omega)]
      have e1 : (nth l k % 32 == 31) = false := by simp; omega
      clear hsz
      obtain ⟨r0, r1, r2, f0, f1, f2⟩ := o2
      go_wp2
      refine bodyPost_ret (v := .tuple #[(tg1 (nth l k)).v, .int .i64 0]) (by simp [results, Try.results107, go_sem, tg1, Tg.v, r0, r1, r2]) rfl ?_
      have hset := (Only.refl w.heap.size (w2.alloc (Obj.cells #[Value.int IntKind.i64 (nth l k / 64), Value.int IntKind.i64 (nth l k % 32), Value.bool (nth l k / 32 % 2 == 1)] 36))).set3 (.int .i64 (nth l k / 64)) (.int .i64 (nth l k % 32)) (.bool (nth l k / 32 % 2 == 1))
      exact ⟨_, 0, k + 1, rfl, Cur.frame h hO3 hc3 hset (by intro b e; cases e; omega), by omega, Only.grown hO3 hset (by intro b e; cases e; omega), by rw [hR.out], fun e => hR.out⟩

end Go.Proofs.Ytbhfaakhcnkegaa
