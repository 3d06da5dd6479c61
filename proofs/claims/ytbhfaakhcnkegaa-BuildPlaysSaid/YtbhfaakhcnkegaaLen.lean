/-
  The next length of any bytes, and both, as the document says them: the plain functions, and the calls of the reference that answer so.
-/
import Derived.Test.YtbhfaakhcnkegaaTag
namespace Go.Proofs.Ytbhfaakhcnkegaa
open Go.RowKit
set_option linter.unusedVariables false
set_option linter.unusedSimpArgs false
set_option maxRecDepth 4000

/-- The number of f digits in base 256 from place p on, behind z. -/
def bign (l : List UInt8) : Nat → Nat → Int → Int
  | _, 0, z => z
  | p, f + 1, z => bign l (p + 1) f (256 * z + nth l p)

/-- The length at place k, the place behind it, the error's number. -/
def rLen (l : List UInt8) (k : Nat) : Int × Nat × Int :=
  if l.length ≤ k then (0, k, 3)
  else if nth l k < 128 then (nth l k, k + 1, 0)
  else if nth l k = 128 ∨ 132 < nth l k then (0, k, 5)
  else if l.length < k + 1 + (nth l k - 128).toNat then (0, k, 3)
  else if nth l (k + 1) = 0 ∨ bign l (k + 1) (nth l k - 128).toNat 0 < 128 then (0, k, 5)
  else if 16777216 < bign l (k + 1) (nth l k - 128).toNat 0 then (0, k, 2)
  else (bign l (k + 1) (nth l k - 128).toNat 0, k + (nth l k - 128).toNat + 1, 0)

def lenV (r : Int × Nat × Int) : Ending := .returned (.tuple #[.int .i64 r.1, .int .i64 (r.2.1 : Int), .int .i64 r.2.2])

set_option maxHeartbeats 1600000 in
theorem refReadLength (A : Option Addr) (n c k : Nat) (x : Int) (l : List UInt8) (w : World) (h : Bs w A n l) (hn : n ≤ 1099511627776) (hk : k ≤ 1099511627776) (hx : x = k) :
    Calls Try.prog 80 #[.slice A n c, .int .i64 x] w fun e w' => e = lenV (rLen l k) ∧ Qt w w' := by
  subst hx
  have hl := Lib.hid h.len
  go_enter Try.func80, Try.ntmps80
  by_cases h0 : n ≤ k
  · have hR : Hid (rLen l k = (0, k, 3)) := by unfold Hid rLen; rw [hl.out, if_pos h0]
    go_wp2
    rw [hR.out]
    refine bodyPost_ret (v := .tuple #[.int .i64 0, .int .i64 (k : Int), .int .i64 3]) (by simp [results, Try.results80, go_sem]) rfl ?_
    exact ⟨rfl, Qt.refl _⟩
  · obtain ⟨b, o, rfl, hc⟩ := h.at_ (k := k) (by omega)
    have hb := nth_bound l k
    by_cases h1 : nth l k < 128
    · have hR : Hid (rLen l k = (nth l k, k + 1, 0)) := by unfold Hid rLen; rw [hl.out, if_neg h0, if_pos h1]
      go_wp2
      rw [hR.out]
      refine bodyPost_ret (v := .tuple #[.int .i64 (nth l k), .int .i64 ((k + 1 : Nat) : Int), .int .i64 0]) (by simp [results, Try.results80, go_sem]) rfl ?_
      exact ⟨rfl, Qt.refl _⟩
    · by_cases h2 : nth l k = 128 ∨ 132 < nth l k
      · have hR : Hid (rLen l k = (0, k, 5)) := by unfold Hid rLen; rw [hl.out, if_neg h0, if_neg h1, if_pos h2]
        rcases h2 with h2 | h2
        · rw [h2] at hc
          go_wp2
          rw [hR.out]
          refine bodyPost_ret (v := .tuple #[.int .i64 0, .int .i64 (k : Int), .int .i64 5]) (by simp [results, Try.results80, go_sem]) rfl ?_
          exact ⟨rfl, Qt.refl _⟩
        · have e1 : (nth l k == 128) = false := by simp; omega
          go_wp2
          rw [hR.out]
          refine bodyPost_ret (v := .tuple #[.int .i64 0, .int .i64 (k : Int), .int .i64 5]) (by simp [results, Try.results80, go_sem]) rfl ?_
          exact ⟨rfl, Qt.refl _⟩
      · have hR : Hid (rLen l k = if l.length < k + 1 + (nth l k - 128).toNat then (0, k, 3)
            else if nth l (k + 1) = 0 ∨ bign l (k + 1) (nth l k - 128).toNat 0 < 128 then (0, k, 5)
            else if 16777216 < bign l (k + 1) (nth l k - 128).toNat 0 then (0, k, 2)
            else (bign l (k + 1) (nth l k - 128).toNat 0, k + (nth l k - 128).toNat + 1, 0)) := by unfold Hid rLen; rw [if_neg (hl.out ▸ h0), if_neg h1, if_neg h2]
        rw [hl.out] at hR
        obtain ⟨q, hq⟩ : ∃ q, q = nth l k := ⟨_, rfl⟩
        have e1 : (q == 128) = false := by simp; omega
        have hq1 : 129 ≤ q := by omega
        have hq2 : q ≤ 132 := by omega
        rw [← hq] at hR hc hb
        clear h1 h2 hq
        obtain ⟨r, hr⟩ : ∃ r : Nat, r = (q - 128).toNat := ⟨_, rfl⟩
        rw [← hr] at hR
        have Hr : Hid ((r : Int) = q - 128) := by unfold Hid; omega
        clear hr
        by_cases h3 : n < k + 1 + r
        · rw [if_pos h3] at hR
          have h3' : (n : Int) - k - 1 < q - 128 := by have := Hr.out; omega
          go_wp2
          rw [hR.out]
          refine bodyPost_ret (v := .tuple #[.int .i64 0, .int .i64 (k : Int), .int .i64 3]) (by simp [results, Try.results80, go_sem]) rfl ?_
          exact ⟨rfl, Qt.refl _⟩
        · rw [if_neg h3] at hR
          have h3' : q - 128 ≤ (n : Int) - k - 1 := by have := Hr.out; omega
          go_wp2
          go_loopw [9, 10] (fun v i wr => ∃ (m f : Nat) (z : Int), i = .int .i64 (m : Int) ∧ v = .int .i64 z ∧ m + f = r + 1 ∧ 1 ≤ m ∧ m ≤ 5 ∧ 0 ≤ z ∧ z < 4294967296 ∧ (m = 1 → z = 0) ∧ (m = 2 → z < 256) ∧ (m = 3 → z < 65536) ∧ (m = 4 → z < 16777216) ∧ Qt w wr ∧
             Hid (bign l (k + 1) r 0 = bign l (k + m) f z)) (fun _ i _ => 6 - (intOf i).toNat)
          case atStart => exact ⟨1, r, 0, rfl, rfl, by omega, by omega, by omega, by omega, by omega, by omega, by omega, by omega, by omega, Qt.refl _, rfl⟩
          case round =>
            obtain ⟨m, f, z, rfl, rfl, hmf, hm1, hm5, hz0, hz1, hz2, hz3, hz4, hz5, hqt, hun⟩ := hrel
            rcases f with _ | f
            · have e2 : (q - 128 : Int) < m := by have := Hr.out; omega
              have hv : Hid (bign l (k + 1) r 0 = z) := hun
              rw [hv.out] at hR
              obtain ⟨b', o', hbo, hc2⟩ := h.at_ (k := k + 1) (by omega)
              cases hbo
              have hc3 : wr.cell? _ = some _ := (Below.cell (hqt.below (B := w.heap.size)) (World.block_lt_of_cell? w _ hc2)).trans hc2
              generalize nth l (k + 1) = d at *
              go_wp2
              · rw [hR.out, if_pos (Or.inl ‹d = 0›)]
                refine bodyPost_ret (v := .tuple #[.int .i64 0, .int .i64 (k : Int), .int .i64 5]) (by simp [results, Try.results80, go_sem]) rfl ?_
                exact ⟨rfl, hqt⟩
              · rw [hR.out, if_pos (by simp_all)]
                refine bodyPost_ret (v := .tuple #[.int .i64 0, .int .i64 (k : Int), .int .i64 5]) (by simp [results, Try.results80, go_sem]) rfl ?_
                exact ⟨rfl, hqt⟩
              · rw [hR.out, if_neg (by simp_all), if_pos (by omega)]
                refine bodyPost_ret (v := .tuple #[.int .i64 0, .int .i64 (k : Int), .int .i64 2]) (by simp [results, Try.results80, go_sem]) rfl ?_
                exact ⟨rfl, hqt⟩
              · rw [hR.out, if_neg (by simp_all), if_neg (by omega)]
                refine bodyPost_ret (v := .tuple #[.int .i64 z, .int .i64 ((k : Int) + (q - 128) + 1), .int .i64 0]) (by simp [results, Try.results80, go_sem]) rfl ?_
                refine ⟨?_, hqt⟩
                have := Hr.out
                simp [lenV]
                omega
            · have e2 : (m : Int) ≤ q - 128 := by have := Hr.out; omega
              obtain ⟨b', o', hbo, hc2⟩ := h.at_ (k := k + m) (by have := Hr.out; omega)
              cases hbo
              have hc3 : wr.cell? _ = some _ := (Below.cell (hqt.below (B := w.heap.size)) (World.block_lt_of_cell? w _ hc2)).trans hc2
              have hb2 := nth_bound l (k + m)
              have hun2 : Hid (bign l (k + 1) r 0 = bign l (k + m + 1) f (256 * z + nth l (k + m))) := hun
              clear hun
              generalize nth l (k + m) = d at *
              have y1 : 256 * z + d < 4294967296 := by have := Hr.out; omega
              have y2 : (k : Int) + m < n := by have := Hr.out; omega
              go_wp2
              go_roundw
              case rel => exact ⟨m + 1, f, _, by go_num, rfl, by omega, by omega, by have := Hr.out; omega, by omega, by omega, by omega, by omega, by omega, by omega, hqt, hun2⟩
              case measure => simp [intOf]; omega


/-- Both. -/
def rHead (l : List UInt8) (k : Nat) : Tg × Int × Nat × Int :=
  if (rTag l k).2.2 = 0 then
    (if (rLen l (rTag l k).2.1).2.2 = 0 then ((rTag l k).1, (rLen l (rTag l k).2.1).1, (rLen l (rTag l k).2.1).2.1, 0) else (tg0, 0, k, (rLen l (rTag l k).2.1).2.2))
  else (tg0, 0, k, (rTag l k).2.2)
def headV (r : Tg × Int × Nat × Int) : Ending := .returned (.tuple #[r.1.v, .int .i64 r.2.1, .int .i64 (r.2.2.1 : Int), .int .i64 r.2.2.2])

theorem rTag_le (l : List UInt8) (k : Nat) (hk : k ≤ l.length) : (rTag l k).2.1 ≤ l.length := by
  have hd : ∀ f i z c m, (digs2 l k c m f i z).2.1 ≤ l.length := by
    intro f
    induction f with
    | zero => intro i z c m; unfold digs2; split <;> simpa using hk
    | succ f ih =>
      intro i z c m
      unfold digs2
      split
      · simpa using hk
      · split
        · simpa using hk
        · split
          · split
            · simpa using hk
            · show k + i + 1 ≤ _; omega
          · exact ih _ _ _ _
  unfold rTag
  split
  · simpa using hk
  · split
    · show k + 1 ≤ _; omega
    · exact hd _ _ _ _ _

/-- A block of three cells that the call itself made stays as it is while others only make new ones. -/
def Own3 (W : World) (R : Nat) (a b c : Value) : Prop :=
  W.cell? ⟨R, 0, none⟩ = some a ∧ W.cell? ⟨R, 1, none⟩ = some b ∧ W.cell? ⟨R, 2, none⟩ = some c ∧ W.frozen? ⟨R, 0, none⟩ = false ∧ W.frozen? ⟨R, 1, none⟩ = false ∧ W.frozen? ⟨R, 2, none⟩ = false
theorem Own3.new (w : World) (a b c : Value) (t : TypeId) : Own3 (w.alloc (.cells #[a, b, c] t)) w.heap.size a b c := by
  have hb := heap_alloc_new w (.cells #[a, b, c] t)
  exact ⟨by rw [blk_cell hb]; rfl, by rw [blk_cell hb]; rfl, by rw [blk_cell hb]; rfl, blk_frozen hb _, blk_frozen hb _, blk_frozen hb _⟩
theorem Own3.below {W W' : World} {R : Nat} {a b c : Value} (h : Own3 W R a b c) (hb : Below W.heap.size W W') : Own3 W' R a b c := by
  obtain ⟨h0, h1, h2, f0, f1, f2⟩ := h
  have keep : ∀ {p : Addr} {v : Value}, W.cell? p = some v → W'.cell? p = some v := fun hp => (hb.cell (World.block_lt_of_cell? W _ hp)).trans hp
  have keepf : ∀ {p : Addr} {v : Value}, W.cell? p = some v → W'.frozen? p = W.frozen? p := fun hp => hb.frozen (World.block_lt_of_cell? W _ hp)
  exact ⟨keep h0, keep h1, keep h2, (keepf h0).trans f0, (keepf h1).trans f1, (keepf h2).trans f2⟩

theorem below_set3 {B R : Nat} {w W : World} (hB : Below B w W) (hs : B ≤ W.heap.size) (hR : B ≤ R) (x y z : Value) : Below B w (((W.setCell ⟨R, 0, none⟩ x).setCell ⟨R, 1, none⟩ y).setCell ⟨R, 2, none⟩ z) :=
  Only.below ((((Only.refl R W).setCell rfl x).setCell rfl y).setCell rfl z) hB hR hs

set_option maxHeartbeats 1600000 in
theorem refRead (A : Option Addr) (n c k : Nat) (x : Int) (l : List UInt8) (w : World) (h : Bs w A n l) (hn : n ≤ 1099511627776) (hk : k ≤ n) (hx : x = k) :
    Calls Try.prog 61 #[.slice A n c, .int .i64 x] w fun e w' => e = headV (rHead l k) ∧ Below w.heap.size w w' := by
  have hX := Lib.hid hx; clear hx
  have hle := Lib.hid (rTag_le l k (by rw [h.len]; exact hk))
  have hl := Lib.hid h.len
  go_enter Try.func61, Try.ntmps61
  go_wp2_with fail
  refine (refReadTag A n c k x l _ (h.below (below_alloc1 _ _)) hn (by omega) hX.out).mono ?_
  rintro e w1 ⟨rfl, hb1⟩
  have ho := (Own3.new w _ _ _ _).below hb1
  have hB1 : Below w.heap.size w w1 := (below_alloc1 _ _).trans (Below.mono hb1 (by simp))
  have hH : Hid (rHead l k = if (rTag l k).2.2 = 0 then
      (if (rLen l (rTag l k).2.1).2.2 = 0 then ((rTag l k).1, (rLen l (rTag l k).2.1).1, (rLen l (rTag l k).2.1).2.1, 0) else (tg0, 0, k, (rLen l (rTag l k).2.1).2.2))
      else (tg0, 0, k, (rTag l k).2.2)) := rfl
  generalize rTag l k = T at *
  obtain ⟨t, k1, e1⟩ := T
  obtain ⟨tc, tn, tm⟩ := t
  simp only at hH hle
  unfold tagV Tg.v
  clear hb1
  have ho2 := ho.below (below_alloc1 w1 (Obj.cells #[Value.int IntKind.i64 tc, Value.int IntKind.i64 tn, Value.bool tm] 29))
  have hB2 : Below w.heap.size w (w1.alloc (Obj.cells #[Value.int IntKind.i64 tc, Value.int IntKind.i64 tn, Value.bool tm] 29)) := hB1.alloc hB1.size _
  by_cases he : e1 = 0
  · subst he
    rw [if_pos rfl] at hH
    have ho := Lib.hid ho2
    clear ho2
    go_wp2_with fail
    have hk1 : k1 ≤ 1099511627776 := by have h1 := hle.out; have h2 := hl.out; omega
    refine (refReadLength A n c k1 _ l _ (h.below hB2) hn hk1 rfl).mono ?_
    rintro e w2 ⟨rfl, hq⟩
    have hB3 : Below w.heap.size w w2 := hB2.trans hq.below
    have ho := ho.out.below hq.below
    have hot := (Own3.new w1 (Value.int IntKind.i64 tc) (Value.int IntKind.i64 tn) (Value.bool tm) 29).below hq.below
    generalize rLen l k1 = T at *
    obtain ⟨y, k2, e2⟩ := T
    simp only at hH
    unfold lenV
    clear hB1 hB2 hq
    by_cases he : e2 = 0
    · subst he
      rw [if_pos rfl] at hH
      obtain ⟨r0, r1, r2, f0, f1, f2⟩ := ho
      obtain ⟨t0, t1, t2, _, _, _⟩ := hot
      go_wp2
      rw [hH.out]
      refine bodyPost_ret (v := .tuple #[Tg.v ⟨tc, tn, tm⟩, .int .i64 y, .int .i64 (k2 : Int), .int .i64 0]) (by simp [results, Try.results61, go_sem, tg0, Tg.v, r0, r1, r2]) rfl ?_
      exact ⟨rfl, below_set3 hB3 hB3.size (Nat.le_refl _) _ _ _⟩
    · rw [if_neg he] at hH
      have e3 : (e2 == 0) = false := by simp; exact he
      have e4 : (e2 != 0) = true := by simp; exact he
      obtain ⟨r0, r1, r2, f0, f1, f2⟩ := ho
      clear hot
      go_wp2
      rw [hH.out, hX.out]
      refine bodyPost_ret (v := .tuple #[tg0.v, .int .i64 0, .int .i64 (k : Int), .int .i64 e2]) (by simp [results, Try.results61, go_sem, tg0, Tg.v, r0, r1, r2]) rfl ?_
      exact ⟨rfl, below_set3 hB3 hB3.size (Nat.le_refl _) _ _ _⟩
  · rw [if_neg he] at hH
    have e2 : (e1 == 0) = false := by simp; exact he
    have e3 : (e1 != 0) = true := by simp; exact he
    obtain ⟨r0, r1, r2, f0, f1, f2⟩ := ho2
    clear ho
    go_wp2
    rw [hH.out, hX.out]
    refine bodyPost_ret (v := .tuple #[tg0.v, .int .i64 0, .int .i64 (k : Int), .int .i64 e1]) (by simp [results, Try.results61, go_sem, tg0, Tg.v, r0, r1, r2]) rfl ?_
    exact ⟨rfl, below_set3 hB2 hB2.size (Nat.le_refl _) _ _ _⟩

end Go.Proofs.Ytbhfaakhcnkegaa
