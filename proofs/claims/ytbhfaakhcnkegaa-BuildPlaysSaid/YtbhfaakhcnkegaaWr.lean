/-
  Tags and lengths as bytes, as the document says them, and the calls of the reference that answer so.
-/
import Derived.Test.YtbhfaakhcnkegaaLen
import Derived.Laws.OwnMore
namespace Go.Proofs.Ytbhfaakhcnkegaa
open Go.RowKit
set_option linter.unusedVariables false
set_option linter.unusedSimpArgs false
set_option maxRecDepth 4000

/-- A number as a byte. -/
def u8 (z : Int) : UInt8 := UInt8.ofNat z.toNat
theorem u8_val (z : Int) (h0 : 0 ≤ z) (h1 : z < 256) : z = ((u8 z).toNat : Int) := by
  unfold u8; rw [UInt8.toNat_ofNat']; omega
theorem Ob.lit (w : World) (base : Nat) (e : TypeId) (l : List UInt8) (cs : Array Value) (hb : base ≤ w.heap.size) (hcs : cs = (l.map byteV).toArray) (hl : l.length ≤ 1000) :
    Ob (w.alloc (.cells cs e)) base e (.slice (some ⟨w.heap.size, 0, none⟩) l.length l.length) l := by
  subst hcs
  have := World.ownsRow_lit (base := base) (e := e) (size := 1) w (l.map byteV).toArray l.length hb (by unfold maxLen; omega) (by simp)
  simpa [Ob] using this

/-- A length's bytes. -/
def lenB (n : Int) : List UInt8 :=
  if n < 128 then [u8 n] else if n < 256 then [129, u8 n] else if n < 65536 then [130, u8 (n / 256), u8 (n % 256)]
  else if n < 16777216 then [131, u8 (n / 65536), u8 (n / 256 % 256), u8 (n % 256)]
  else [132, u8 (n / 16777216), u8 (n / 65536 % 256), u8 (n / 256 % 256), u8 (n % 256)]

theorem byteV_u8 (z : Int) (h0 : 0 ≤ z) (h1 : z < 256) : byteV (u8 z) = .int .u8 z := by unfold byteV; rw [← u8_val z h0 h1]

set_option maxHeartbeats 1600000 in
theorem refLength (n : Int) (w : World) (h0 : 0 ≤ n) (h1 : n ≤ 16777217) :
    Calls Try.prog 63 #[.int .i64 n] w (NewBs w (lenB n)) := by
  have fin : Hid (∀ (l : List UInt8) (cs : Array Value), lenB n = l → cs = (l.map byteV).toArray → l.length ≤ 1000 → NewBs w (lenB n) (.returned (.slice (some ⟨w.heap.size, 0, none⟩) l.length l.length)) (w.alloc (.cells cs 5))) := by
    rintro l cs rfl hcs hl
    exact ⟨_, _, _, rfl, Ob.lit w _ _ _ cs (Nat.le_refl _) hcs hl, below_alloc1 _ _⟩
  go_enter Try.func63, Try.ntmps63
  by_cases a1 : n < 128
  · have hR : Hid (lenB n = [u8 n]) := by unfold Hid lenB; rw [if_pos a1]
    go_wp2
    go_ret
    exact fin.out [u8 n] _ hR.out (by simp [byteV_u8 n h0 (by omega)]) (by simp)
  · by_cases a2 : n < 256
    · have hR : Hid (lenB n = [129, u8 n]) := by unfold Hid lenB; rw [if_neg a1, if_pos a2]
      go_wp2
      go_ret
      exact fin.out [129, u8 n] _ hR.out (by simp [byteV_u8 n h0 (by omega)]; rfl) (by simp)
    · by_cases a3 : n < 65536
      · have hR : Hid (lenB n = [130, u8 (n / 256), u8 (n % 256)]) := by unfold Hid lenB; rw [if_neg a1, if_neg a2, if_pos a3]
        have b1 : 0 ≤ n / 256 ∧ n / 256 < 256 := by omega
        have b2 : 0 ≤ n % 256 ∧ n % 256 < 256 := by omega
        go_wp2
        go_ret
        exact fin.out [130, u8 (n / 256), u8 (n % 256)] _ hR.out (by simp [byteV_u8 _ b1.1 b1.2, byteV_u8 _ b2.1 b2.2]; rfl) (by simp)
      · by_cases a4 : n < 16777216
        · have hR : Hid (lenB n = [131, u8 (n / 65536), u8 (n / 256 % 256), u8 (n % 256)]) := by unfold Hid lenB; rw [if_neg a1, if_neg a2, if_neg a3, if_pos a4]
          have b1 : 0 ≤ n / 65536 ∧ n / 65536 < 256 := by omega
          have b2 : 0 ≤ n % 256 ∧ n % 256 < 256 := by omega
          have b3 : 0 ≤ n / 256 % 256 ∧ n / 256 % 256 < 256 := by omega
          go_wp2
          go_ret
          exact fin.out [131, u8 (n / 65536), u8 (n / 256 % 256), u8 (n % 256)] _ hR.out (by simp [byteV_u8 _ b1.1 b1.2, byteV_u8 _ b2.1 b2.2, byteV_u8 _ b3.1 b3.2]; rfl) (by simp)
        · have hR : Hid (lenB n = [132, u8 (n / 16777216), u8 (n / 65536 % 256), u8 (n / 256 % 256), u8 (n % 256)]) := by unfold Hid lenB; rw [if_neg a1, if_neg a2, if_neg a3, if_neg a4]
          have b1 : 0 ≤ n / 16777216 ∧ n / 16777216 < 256 := by omega
          have b2 : 0 ≤ n % 256 ∧ n % 256 < 256 := by omega
          have b3 : 0 ≤ n / 256 % 256 ∧ n / 256 % 256 < 256 := by omega
          have b4 : 0 ≤ n / 65536 % 256 ∧ n / 65536 % 256 < 256 := by omega
          go_wp2
          go_ret
          exact fin.out [132, u8 (n / 16777216), u8 (n / 65536 % 256), u8 (n / 256 % 256), u8 (n % 256)] _ hR.out (by simp [byteV_u8 _ b1.1 b1.2, byteV_u8 _ b2.1 b2.2, byteV_u8 _ b3.1 b3.2, byteV_u8 _ b4.1 b4.2]; rfl) (by simp)


/-- A tag's bytes. -/
def tagB (t : Tg) : List UInt8 :=
  if t.num < 31 then [u8 (64 * t.cls + (if t.made then 32 else 0) + t.num)]
  else [u8 (64 * t.cls + (if t.made then 32 else 0) + 31)] ++ (if 16384 ≤ t.num then [u8 (128 + t.num / 16384)] else []) ++ (if 128 ≤ t.num then [u8 (128 + t.num / 128 % 128)] else []) ++ [u8 (t.num % 128)]
/-- A tag that may be. -/
def Tg.right (t : Tg) : Prop := 0 ≤ t.cls ∧ t.cls < 4 ∧ 0 ≤ t.num ∧ t.num < 2097152

/-- The blocks of Bytes: its tag, and the row of its own. -/
def WrSt (w W : World) (x y z v : Value) (l : List UInt8) : Prop := Below w.heap.size w W ∧ Own3 W w.heap.size x y z ∧ Ob W (w.heap.size + 1) 5 v l
theorem Own3.grown {W W' : World} {R : Nat} {a b c : Value} {row : Option Nat} (h : Own3 W R a b c) (hg : W.grownBy W' row) (hne : some R ≠ row) : Own3 W' R a b c := by
  obtain ⟨h0, h1, h2, f0, f1, f2⟩ := h
  have keep : ∀ {i : Nat} {v : Value}, W.cell? ⟨R, i, none⟩ = some v → W'.cell? ⟨R, i, none⟩ = some v := fun hp => hg.cell hp hne
  have keepf : ∀ {i : Nat} {v : Value}, W.cell? ⟨R, i, none⟩ = some v → W'.frozen? ⟨R, i, none⟩ = W.frozen? ⟨R, i, none⟩ := fun hp => World.frozen?_of_block (hg.block R (World.block_lt_of_cell? W _ hp) hne)
  exact ⟨keep h0, keep h1, keep h2, (keepf h0).trans f0, (keepf h1).trans f1, (keepf h2).trans f2⟩
theorem WrSt.step {w W W' : World} {x y z v v' : Value} {l l' : List UInt8} {o : Obj} (h : WrSt w W x y z v l) (hob : Ob W' (w.heap.size + 1) 5 v' l') (hg : (W.alloc o).grownBy W' v.ownBlock) : WrSt w W' x y z v' l' := by
  obtain ⟨hB, ho, hb⟩ := h
  have hlt : ∀ k, v.ownBlock = some k → w.heap.size + 1 ≤ k := fun k hk => (hb.lt k hk).1
  refine ⟨(hB.alloc hB.size o).grown hg (by have := hB.size; simp; omega) (fun k hk => by have := hlt k hk; omega), (ho.below (below_alloc1 W o)).grown hg (fun e => by have := hlt _ e.symm; omega), hob⟩
theorem Bs.new1m {W : World} {m : Nat} {x : Int} {e : TypeId} (a : UInt8) (hx : x = (a.toNat : Int)) (hm : W.heap.size = m) : Bs (W.alloc (.cells #[.int .u8 x] e)) (some ⟨m, 0, none⟩) 1 [a] := by
  subst hm; exact Bs.new1 W a x e hx
theorem WrSt.start (w : World) (x y z : Value) (t : TypeId) (b : UInt8) (u : Int) (hu : u = (b.toNat : Int)) : WrSt w ((w.alloc (.cells #[x, y, z] t)).alloc (.cells #[.int .u8 u] 5)) x y z (.slice (some ⟨w.heap.size + 1, 0, none⟩) 1 1) [b] := by
  refine ⟨below_alloc2 _ _ _, (Own3.new w x y z t).below (below_alloc1 _ _), ?_⟩
  have := Ob.lit (w.alloc (.cells #[x, y, z] t)) (w.heap.size + 1) 5 [b] #[.int .u8 u] (by simp) (by subst hu; rfl) (by simp)
  simpa using this

set_option maxHeartbeats 1600000 in
theorem refBytesF0 (tc tn : Int) (w : World) (c0 : 0 ≤ tc) (c1 : tc < 4) (n0 : 0 ≤ tn) (n1 : tn < 2097152) (a : tn < 31) :
    Calls Try.prog 62 #[.agg #[.int .i64 tc, .int .i64 tn, .bool false]] w (NewBs w (tagB ⟨tc, tn, false⟩)) := by
  have hR : Hid (tagB ⟨tc, tn, false⟩ = [u8 (64 * tc + tn)]) := by simp [Hid, tagB, a]
  have hob := Lib.hid ((Ob.lit (w.alloc (.cells #[.int .i64 tc, .int .i64 tn, .bool false] 29)) w.heap.size 5 [u8 (64 * tc + tn)] #[.int .u8 (64 * tc + tn)] (by simp) (by simp [byteV_u8 (64 * tc + tn) (by omega) (by omega)]) (by simp)))
  go_enter Try.func62, Try.ntmps62
  go_wp2
  go_ret
  rw [hR.out]
  exact ⟨_, _, _, rfl, by simpa using hob.out, below_alloc2 _ _ _⟩

set_option maxHeartbeats 1600000 in
theorem refBytesF1 (tc tn : Int) (w : World) (c0 : 0 ≤ tc) (c1 : tc < 4) (n0 : 0 ≤ tn) (n1 : tn < 2097152) (a : 31 ≤ tn) (b : tn < 128) :
    Calls Try.prog 62 #[.agg #[.int .i64 tc, .int .i64 tn, .bool false]] w (NewBs w (tagB ⟨tc, tn, false⟩)) := by
  obtain ⟨i0, hi, hz0, hz1, hz2⟩ := info_parts u8_info
  have hR : Hid (tagB ⟨tc, tn, false⟩ = [u8 (64 * tc + 31), u8 (tn % 128)]) := by
    have q1 : ¬ tn < 31 := by omega
    have q2 : ¬ (128 : Int) ≤ tn := by omega
    have q3 : ¬ (16384 : Int) ≤ tn := by omega
    simp only [Hid, tagB, if_neg q1, if_neg q2, if_neg q3]
    simp
  have b1 : 0 ≤ tn / 128 % 128 ∧ tn / 128 % 128 < 128 := by omega
  have b2 : 0 ≤ tn % 128 ∧ tn % 128 < 128 := by omega
  have b3 : 0 ≤ tn / 16384 ∧ tn / 16384 < 128 := by omega
  have b4 : 0 ≤ tn / 128 ∧ tn / 128 < 16384 := by omega
  have hst0 := WrSt.start w (.int .i64 tc) (.int .i64 tn) (.bool false) 29 (u8 (64 * tc + 31)) (64 * tc + 31) (u8_val _ (by omega) (by omega))
  go_enter Try.func62, Try.ntmps62
  go_wp2_with (at_builtin; refine wpList_appendB rfl _ _ 41 rfl (w.heap.size + 1) 5 i0 (.int .u8 0) Try.underlying41 hi hz0 hz1 hz2 rfl _ [u8 (64 * tc + 31)] rfl (hst0.2.2.alloc _) _ _ _ [u8 (tn % 128)] rfl (Bs.new1m (u8 (tn % 128)) ?ab3 ?ab4) ?ab1 ?ab2 ?_)
  case ab1 => simp
  case ab2 => have := hst0.1.size; simp at this ⊢ <;> omega
  case ab3 => exact u8_val _ (by omega) (by omega)
  case ab4 => simp
  intro v1 w1 hob1 hg1 _ _
  have hst1 := hst0.step hob1 hg1
  have ⟨r0_1, r1_1, r2_1, _, _, _⟩ := hst1.2.1
  go_wp2
  go_ret
  rw [hR.out]
  obtain ⟨A', c', hv, _, _⟩ := hob1.slice
  subst hv
  exact ⟨_, _, _, rfl, hob1.mono (by omega), hst1.1⟩

set_option maxHeartbeats 1600000 in
theorem refBytesF2 (tc tn : Int) (w : World) (c0 : 0 ≤ tc) (c1 : tc < 4) (n0 : 0 ≤ tn) (n1 : tn < 2097152) (a : 128 ≤ tn) (b : tn < 16384) :
    Calls Try.prog 62 #[.agg #[.int .i64 tc, .int .i64 tn, .bool false]] w (NewBs w (tagB ⟨tc, tn, false⟩)) := by
  obtain ⟨i0, hi, hz0, hz1, hz2⟩ := info_parts u8_info
  have hR : Hid (tagB ⟨tc, tn, false⟩ = [u8 (64 * tc + 31), u8 (128 + tn / 128 % 128), u8 (tn % 128)]) := by
    have q1 : ¬ tn < 31 := by omega
    have q2 : (128 : Int) ≤ tn := by omega
    have q3 : ¬ (16384 : Int) ≤ tn := by omega
    simp only [Hid, tagB, if_neg q1, if_pos q2, if_neg q3]
    simp
  have b1 : 0 ≤ tn / 128 % 128 ∧ tn / 128 % 128 < 128 := by omega
  have b2 : 0 ≤ tn % 128 ∧ tn % 128 < 128 := by omega
  have b3 : 0 ≤ tn / 16384 ∧ tn / 16384 < 128 := by omega
  have b4 : 0 ≤ tn / 128 ∧ tn / 128 < 16384 := by omega
  have hst0 := WrSt.start w (.int .i64 tc) (.int .i64 tn) (.bool false) 29 (u8 (64 * tc + 31)) (64 * tc + 31) (u8_val _ (by omega) (by omega))
  go_enter Try.func62, Try.ntmps62
  go_wp2_with (at_builtin; refine wpList_appendB rfl _ _ 41 rfl (w.heap.size + 1) 5 i0 (.int .u8 0) Try.underlying41 hi hz0 hz1 hz2 rfl _ [u8 (64 * tc + 31)] rfl (hst0.2.2.alloc _) _ _ _ [u8 (128 + tn / 128 % 128)] rfl (Bs.new1m (u8 (128 + tn / 128 % 128)) ?ab3 ?ab4) ?ab1 ?ab2 ?_)
  case ab1 => simp
  case ab2 => have := hst0.1.size; simp at this ⊢ <;> omega
  case ab3 => exact u8_val _ (by omega) (by omega)
  case ab4 => simp
  intro v1 w1 hob1 hg1 _ _
  have hst1 := hst0.step hob1 hg1
  have ⟨r0_1, r1_1, r2_1, _, _, _⟩ := hst1.2.1
  go_wp2_with (at_builtin; refine wpList_appendB rfl _ _ 41 rfl (w.heap.size + 1) 5 i0 (.int .u8 0) Try.underlying41 hi hz0 hz1 hz2 rfl _ ([u8 (64 * tc + 31)] ++ [u8 (128 + tn / 128 % 128)]) rfl (hst1.2.2.alloc _) _ _ _ [u8 (tn % 128)] rfl (Bs.new1m (u8 (tn % 128)) ?ab3 ?ab4) ?ab1 ?ab2 ?_)
  case ab1 => simp
  case ab2 => have := hst1.1.size; simp at this ⊢ <;> omega
  case ab3 => exact u8_val _ (by omega) (by omega)
  case ab4 => simp
  intro v2 w2 hob2 hg2 _ _
  have hst2 := hst1.step hob2 hg2
  have ⟨r0_2, r1_2, r2_2, _, _, _⟩ := hst2.2.1
  go_wp2
  go_ret
  rw [hR.out]
  obtain ⟨A', c', hv, _, _⟩ := hob2.slice
  subst hv
  exact ⟨_, _, _, rfl, hob2.mono (by omega), hst2.1⟩

set_option maxHeartbeats 1600000 in
theorem refBytesF3 (tc tn : Int) (w : World) (c0 : 0 ≤ tc) (c1 : tc < 4) (n0 : 0 ≤ tn) (n1 : tn < 2097152) (a : 16384 ≤ tn) :
    Calls Try.prog 62 #[.agg #[.int .i64 tc, .int .i64 tn, .bool false]] w (NewBs w (tagB ⟨tc, tn, false⟩)) := by
  obtain ⟨i0, hi, hz0, hz1, hz2⟩ := info_parts u8_info
  have hR : Hid (tagB ⟨tc, tn, false⟩ = [u8 (64 * tc + 31), u8 (128 + tn / 16384), u8 (128 + tn / 128 % 128), u8 (tn % 128)]) := by
    have q1 : ¬ tn < 31 := by omega
    have q2 : (128 : Int) ≤ tn := by omega
    have q3 : (16384 : Int) ≤ tn := by omega
    simp only [Hid, tagB, if_neg q1, if_pos q2, if_pos q3]
    simp
  have b1 : 0 ≤ tn / 128 % 128 ∧ tn / 128 % 128 < 128 := by omega
  have b2 : 0 ≤ tn % 128 ∧ tn % 128 < 128 := by omega
  have b3 : 0 ≤ tn / 16384 ∧ tn / 16384 < 128 := by omega
  have b4 : 0 ≤ tn / 128 ∧ tn / 128 < 16384 := by omega
  have hst0 := WrSt.start w (.int .i64 tc) (.int .i64 tn) (.bool false) 29 (u8 (64 * tc + 31)) (64 * tc + 31) (u8_val _ (by omega) (by omega))
  go_enter Try.func62, Try.ntmps62
  go_wp2_with (at_builtin; refine wpList_appendB rfl _ _ 41 rfl (w.heap.size + 1) 5 i0 (.int .u8 0) Try.underlying41 hi hz0 hz1 hz2 rfl _ [u8 (64 * tc + 31)] rfl (hst0.2.2.alloc _) _ _ _ [u8 (128 + tn / 16384)] rfl (Bs.new1m (u8 (128 + tn / 16384)) ?ab3 ?ab4) ?ab1 ?ab2 ?_)
  case ab1 => simp
  case ab2 => have := hst0.1.size; simp at this ⊢ <;> omega
  case ab3 => exact u8_val _ (by omega) (by omega)
  case ab4 => simp
  intro v1 w1 hob1 hg1 _ _
  have hst1 := hst0.step hob1 hg1
  have ⟨r0_1, r1_1, r2_1, _, _, _⟩ := hst1.2.1
  go_wp2_with (at_builtin; refine wpList_appendB rfl _ _ 41 rfl (w.heap.size + 1) 5 i0 (.int .u8 0) Try.underlying41 hi hz0 hz1 hz2 rfl _ ([u8 (64 * tc + 31)] ++ [u8 (128 + tn / 16384)]) rfl (hst1.2.2.alloc _) _ _ _ [u8 (128 + tn / 128 % 128)] rfl (Bs.new1m (u8 (128 + tn / 128 % 128)) ?ab3 ?ab4) ?ab1 ?ab2 ?_)
  case ab1 => simp
  case ab2 => have := hst1.1.size; simp at this ⊢ <;> omega
  case ab3 => exact u8_val _ (by omega) (by omega)
  case ab4 => simp
  intro v2 w2 hob2 hg2 _ _
  have hst2 := hst1.step hob2 hg2
  have ⟨r0_2, r1_2, r2_2, _, _, _⟩ := hst2.2.1
  go_wp2_with (at_builtin; refine wpList_appendB rfl _ _ 41 rfl (w.heap.size + 1) 5 i0 (.int .u8 0) Try.underlying41 hi hz0 hz1 hz2 rfl _ ([u8 (64 * tc + 31)] ++ [u8 (128 + tn / 16384)] ++ [u8 (128 + tn / 128 % 128)]) rfl (hst2.2.2.alloc _) _ _ _ [u8 (tn % 128)] rfl (Bs.new1m (u8 (tn % 128)) ?ab3 ?ab4) ?ab1 ?ab2 ?_)
  case ab1 => simp
  case ab2 => have := hst2.1.size; simp at this ⊢ <;> omega
  case ab3 => exact u8_val _ (by omega) (by omega)
  case ab4 => simp
  intro v3 w3 hob3 hg3 _ _
  have hst3 := hst2.step hob3 hg3
  have ⟨r0_3, r1_3, r2_3, _, _, _⟩ := hst3.2.1
  go_wp2
  go_ret
  rw [hR.out]
  obtain ⟨A', c', hv, _, _⟩ := hob3.slice
  subst hv
  exact ⟨_, _, _, rfl, hob3.mono (by omega), hst3.1⟩

set_option maxHeartbeats 1600000 in
theorem refBytesT0 (tc tn : Int) (w : World) (c0 : 0 ≤ tc) (c1 : tc < 4) (n0 : 0 ≤ tn) (n1 : tn < 2097152) (a : tn < 31) :
    Calls Try.prog 62 #[.agg #[.int .i64 tc, .int .i64 tn, .bool true]] w (NewBs w (tagB ⟨tc, tn, true⟩)) := by
  have hR : Hid (tagB ⟨tc, tn, true⟩ = [u8 (64 * tc + 32 + tn)]) := by simp [Hid, tagB, a]
  have hob := Lib.hid ((Ob.lit (w.alloc (.cells #[.int .i64 tc, .int .i64 tn, .bool true] 29)) w.heap.size 5 [u8 (64 * tc + 32 + tn)] #[.int .u8 (64 * tc + 32 + tn)] (by simp) (by simp [byteV_u8 (64 * tc + 32 + tn) (by omega) (by omega)]) (by simp)))
  go_enter Try.func62, Try.ntmps62
  go_wp2
  go_ret
  rw [hR.out]
  exact ⟨_, _, _, rfl, by simpa using hob.out, below_alloc2 _ _ _⟩

set_option maxHeartbeats 1600000 in
theorem refBytesT1 (tc tn : Int) (w : World) (c0 : 0 ≤ tc) (c1 : tc < 4) (n0 : 0 ≤ tn) (n1 : tn < 2097152) (a : 31 ≤ tn) (b : tn < 128) :
    Calls Try.prog 62 #[.agg #[.int .i64 tc, .int .i64 tn, .bool true]] w (NewBs w (tagB ⟨tc, tn, true⟩)) := by
  obtain ⟨i0, hi, hz0, hz1, hz2⟩ := info_parts u8_info
  have hR : Hid (tagB ⟨tc, tn, true⟩ = [u8 (64 * tc + 32 + 31), u8 (tn % 128)]) := by
    have q1 : ¬ tn < 31 := by omega
    have q2 : ¬ (128 : Int) ≤ tn := by omega
    have q3 : ¬ (16384 : Int) ≤ tn := by omega
    simp only [Hid, tagB, if_neg q1, if_neg q2, if_neg q3]
    simp
  have b1 : 0 ≤ tn / 128 % 128 ∧ tn / 128 % 128 < 128 := by omega
  have b2 : 0 ≤ tn % 128 ∧ tn % 128 < 128 := by omega
  have b3 : 0 ≤ tn / 16384 ∧ tn / 16384 < 128 := by omega
  have b4 : 0 ≤ tn / 128 ∧ tn / 128 < 16384 := by omega
  have hst0 := WrSt.start w (.int .i64 tc) (.int .i64 tn) (.bool true) 29 (u8 (64 * tc + 32 + 31)) (64 * tc + 32 + 31) (u8_val _ (by omega) (by omega))
  go_enter Try.func62, Try.ntmps62
  go_wp2_with (at_builtin; refine wpList_appendB rfl _ _ 41 rfl (w.heap.size + 1) 5 i0 (.int .u8 0) Try.underlying41 hi hz0 hz1 hz2 rfl _ [u8 (64 * tc + 32 + 31)] rfl (hst0.2.2.alloc _) _ _ _ [u8 (tn % 128)] rfl (Bs.new1m (u8 (tn % 128)) ?ab3 ?ab4) ?ab1 ?ab2 ?_)
  case ab1 => simp
  case ab2 => have := hst0.1.size; simp at this ⊢ <;> omega
  case ab3 => exact u8_val _ (by omega) (by omega)
  case ab4 => simp
  intro v1 w1 hob1 hg1 _ _
  have hst1 := hst0.step hob1 hg1
  have ⟨r0_1, r1_1, r2_1, _, _, _⟩ := hst1.2.1
  go_wp2
  go_ret
  rw [hR.out]
  obtain ⟨A', c', hv, _, _⟩ := hob1.slice
  subst hv
  exact ⟨_, _, _, rfl, hob1.mono (by omega), hst1.1⟩

set_option maxHeartbeats 1600000 in
theorem refBytesT2 (tc tn : Int) (w : World) (c0 : 0 ≤ tc) (c1 : tc < 4) (n0 : 0 ≤ tn) (n1 : tn < 2097152) (a : 128 ≤ tn) (b : tn < 16384) :
    Calls Try.prog 62 #[.agg #[.int .i64 tc, .int .i64 tn, .bool true]] w (NewBs w (tagB ⟨tc, tn, true⟩)) := by
  obtain ⟨i0, hi, hz0, hz1, hz2⟩ := info_parts u8_info
  have hR : Hid (tagB ⟨tc, tn, true⟩ = [u8 (64 * tc + 32 + 31), u8 (128 + tn / 128 % 128), u8 (tn % 128)]) := by
    have q1 : ¬ tn < 31 := by omega
    have q2 : (128 : Int) ≤ tn := by omega
    have q3 : ¬ (16384 : Int) ≤ tn := by omega
    simp only [Hid, tagB, if_neg q1, if_pos q2, if_neg q3]
    simp
  have b1 : 0 ≤ tn / 128 % 128 ∧ tn / 128 % 128 < 128 := by omega
  have b2 : 0 ≤ tn % 128 ∧ tn % 128 < 128 := by omega
  have b3 : 0 ≤ tn / 16384 ∧ tn / 16384 < 128 := by omega
  have b4 : 0 ≤ tn / 128 ∧ tn / 128 < 16384 := by omega
  have hst0 := WrSt.start w (.int .i64 tc) (.int .i64 tn) (.bool true) 29 (u8 (64 * tc + 32 + 31)) (64 * tc + 32 + 31) (u8_val _ (by omega) (by omega))
  go_enter Try.func62, Try.ntmps62
  go_wp2_with (at_builtin; refine wpList_appendB rfl _ _ 41 rfl (w.heap.size + 1) 5 i0 (.int .u8 0) Try.underlying41 hi hz0 hz1 hz2 rfl _ [u8 (64 * tc + 32 + 31)] rfl (hst0.2.2.alloc _) _ _ _ [u8 (128 + tn / 128 % 128)] rfl (Bs.new1m (u8 (128 + tn / 128 % 128)) ?ab3 ?ab4) ?ab1 ?ab2 ?_)
  case ab1 => simp
  case ab2 => have := hst0.1.size; simp at this ⊢ <;> omega
  case ab3 => exact u8_val _ (by omega) (by omega)
  case ab4 => simp
  intro v1 w1 hob1 hg1 _ _
  have hst1 := hst0.step hob1 hg1
  have ⟨r0_1, r1_1, r2_1, _, _, _⟩ := hst1.2.1
  go_wp2_with (at_builtin; refine wpList_appendB rfl _ _ 41 rfl (w.heap.size + 1) 5 i0 (.int .u8 0) Try.underlying41 hi hz0 hz1 hz2 rfl _ ([u8 (64 * tc + 32 + 31)] ++ [u8 (128 + tn / 128 % 128)]) rfl (hst1.2.2.alloc _) _ _ _ [u8 (tn % 128)] rfl (Bs.new1m (u8 (tn % 128)) ?ab3 ?ab4) ?ab1 ?ab2 ?_)
  case ab1 => simp
  case ab2 => have := hst1.1.size; simp at this ⊢ <;> omega
  case ab3 => exact u8_val _ (by omega) (by omega)
  case ab4 => simp
  intro v2 w2 hob2 hg2 _ _
  have hst2 := hst1.step hob2 hg2
  have ⟨r0_2, r1_2, r2_2, _, _, _⟩ := hst2.2.1
  go_wp2
  go_ret
  rw [hR.out]
  obtain ⟨A', c', hv, _, _⟩ := hob2.slice
  subst hv
  exact ⟨_, _, _, rfl, hob2.mono (by omega), hst2.1⟩

set_option maxHeartbeats 1600000 in
theorem refBytesT3 (tc tn : Int) (w : World) (c0 : 0 ≤ tc) (c1 : tc < 4) (n0 : 0 ≤ tn) (n1 : tn < 2097152) (a : 16384 ≤ tn) :
    Calls Try.prog 62 #[.agg #[.int .i64 tc, .int .i64 tn, .bool true]] w (NewBs w (tagB ⟨tc, tn, true⟩)) := by
  obtain ⟨i0, hi, hz0, hz1, hz2⟩ := info_parts u8_info
  have hR : Hid (tagB ⟨tc, tn, true⟩ = [u8 (64 * tc + 32 + 31), u8 (128 + tn / 16384), u8 (128 + tn / 128 % 128), u8 (tn % 128)]) := by
    have q1 : ¬ tn < 31 := by omega
    have q2 : (128 : Int) ≤ tn := by omega
    have q3 : (16384 : Int) ≤ tn := by omega
    simp only [Hid, tagB, if_neg q1, if_pos q2, if_pos q3]
    simp
  have b1 : 0 ≤ tn / 128 % 128 ∧ tn / 128 % 128 < 128 := by omega
  have b2 : 0 ≤ tn % 128 ∧ tn % 128 < 128 := by omega
  have b3 : 0 ≤ tn / 16384 ∧ tn / 16384 < 128 := by omega
  have b4 : 0 ≤ tn / 128 ∧ tn / 128 < 16384 := by omega
  have hst0 := WrSt.start w (.int .i64 tc) (.int .i64 tn) (.bool true) 29 (u8 (64 * tc + 32 + 31)) (64 * tc + 32 + 31) (u8_val _ (by omega) (by omega))
  go_enter Try.func62, Try.ntmps62
  go_wp2_with (at_builtin; refine wpList_appendB rfl _ _ 41 rfl (w.heap.size + 1) 5 i0 (.int .u8 0) Try.underlying41 hi hz0 hz1 hz2 rfl _ [u8 (64 * tc + 32 + 31)] rfl (hst0.2.2.alloc _) _ _ _ [u8 (128 + tn / 16384)] rfl (Bs.new1m (u8 (128 + tn / 16384)) ?ab3 ?ab4) ?ab1 ?ab2 ?_)
  case ab1 => simp
  case ab2 => have := hst0.1.size; simp at this ⊢ <;> omega
  case ab3 => exact u8_val _ (by omega) (by omega)
  case ab4 => simp
  intro v1 w1 hob1 hg1 _ _
  have hst1 := hst0.step hob1 hg1
  have ⟨r0_1, r1_1, r2_1, _, _, _⟩ := hst1.2.1
  go_wp2_with (at_builtin; refine wpList_appendB rfl _ _ 41 rfl (w.heap.size + 1) 5 i0 (.int .u8 0) Try.underlying41 hi hz0 hz1 hz2 rfl _ ([u8 (64 * tc + 32 + 31)] ++ [u8 (128 + tn / 16384)]) rfl (hst1.2.2.alloc _) _ _ _ [u8 (128 + tn / 128 % 128)] rfl (Bs.new1m (u8 (128 + tn / 128 % 128)) ?ab3 ?ab4) ?ab1 ?ab2 ?_)
  case ab1 => simp
  case ab2 => have := hst1.1.size; simp at this ⊢ <;> omega
  case ab3 => exact u8_val _ (by omega) (by omega)
  case ab4 => simp
  intro v2 w2 hob2 hg2 _ _
  have hst2 := hst1.step hob2 hg2
  have ⟨r0_2, r1_2, r2_2, _, _, _⟩ := hst2.2.1
  go_wp2_with (at_builtin; refine wpList_appendB rfl _ _ 41 rfl (w.heap.size + 1) 5 i0 (.int .u8 0) Try.underlying41 hi hz0 hz1 hz2 rfl _ ([u8 (64 * tc + 32 + 31)] ++ [u8 (128 + tn / 16384)] ++ [u8 (128 + tn / 128 % 128)]) rfl (hst2.2.2.alloc _) _ _ _ [u8 (tn % 128)] rfl (Bs.new1m (u8 (tn % 128)) ?ab3 ?ab4) ?ab1 ?ab2 ?_)
  case ab1 => simp
  case ab2 => have := hst2.1.size; simp at this ⊢ <;> omega
  case ab3 => exact u8_val _ (by omega) (by omega)
  case ab4 => simp
  intro v3 w3 hob3 hg3 _ _
  have hst3 := hst2.step hob3 hg3
  have ⟨r0_3, r1_3, r2_3, _, _, _⟩ := hst3.2.1
  go_wp2
  go_ret
  rw [hR.out]
  obtain ⟨A', c', hv, _, _⟩ := hob3.slice
  subst hv
  exact ⟨_, _, _, rfl, hob3.mono (by omega), hst3.1⟩

theorem refBytes (t : Tg) (w : World) (h : t.right) : Calls Try.prog 62 #[t.v] w (NewBs w (tagB t)) := by
  obtain ⟨c0, c1, n0, n1⟩ := h
  obtain ⟨tc, tn, tm⟩ := t
  simp only at c0 c1 n0 n1
  unfold Tg.v
  by_cases a1 : tn < 31
  · cases tm
    · exact refBytesF0 tc tn w c0 c1 n0 n1 a1
    · exact refBytesT0 tc tn w c0 c1 n0 n1 a1
  · by_cases a2 : tn < 128
    · cases tm
      · exact refBytesF1 tc tn w c0 c1 n0 n1 (by omega) a2
      · exact refBytesT1 tc tn w c0 c1 n0 n1 (by omega) a2
    · by_cases a3 : tn < 16384
      · cases tm
        · exact refBytesF2 tc tn w c0 c1 n0 n1 (by omega) a3
        · exact refBytesT2 tc tn w c0 c1 n0 n1 (by omega) a3
      · cases tm
        · exact refBytesF3 tc tn w c0 c1 n0 n1 (by omega)
        · exact refBytesT3 tc tn w c0 c1 n0 n1 (by omega)

end Go.Proofs.Ytbhfaakhcnkegaa
