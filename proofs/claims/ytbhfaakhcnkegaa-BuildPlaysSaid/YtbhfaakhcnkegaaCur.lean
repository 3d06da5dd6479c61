/-
  The contracts of octet's cursor.
-/
import Derived.Test.YtbhfaakhcnkegaaOct
import Derived.StillTailTactics
import Derived.Deep.RegionHeld3
namespace Go.Proofs.Ytbhfaakhcnkegaa
open Go.RowKit
set_option linter.unusedVariables false
set_option linter.unusedSimpArgs false
set_option maxRecDepth 4000

/-- A function handed back a slice of new bytes l; nothing old was changed. -/
def NewBs (w : World) (l : List UInt8) (e : Ending) (w' : World) : Prop :=
  ∃ A n c, e = .returned (.slice A n c) ∧ Ob w' w.heap.size 5 (.slice A n c) l ∧ Below w.heap.size w w'

set_option maxHeartbeats 800000 in
theorem bytesClone (A : Option Addr) (n c : Nat) (l : List UInt8) (w : World) (h : Bs w A n l) (hn : n ≤ 1099511627776) :
    Calls Try.prog 64 #[.slice A n c] w (NewBs w l) := by
  have q : ∀ (w : World) (a : Option Addr) (n c : Nat), (binOp .eql 41 (.slice a n c) (.slice none 0 0)).run Try.prog w = .ok (.bool a.isNone) w := fun w a n c => Lib.run_eql_slice_nil w _ _ a n c 0 0 Try.underlying41
  obtain ⟨i0, hi, hz0, hz1, hz2⟩ := info_parts u8_info
  rcases A with _ | a
  · have : n = 0 := by
      rcases Nat.eq_zero_or_pos n with h0 | h0
      · exact h0
      · obtain ⟨_, _, e, _⟩ := h.at_ h0; cases e
    subst this
    go_enter Try.func64, Try.ntmps64
    go_wp2
    go_ret
    have : l = [] := List.eq_nil_of_length_eq_zero h.len
    subst this
    exact ⟨none, 0, 0, rfl, Ob.nil _ _ _, Below.refl _ _⟩
  · have H := h.below (w' := w.alloc (.cells #[] 5)) ((Below.refl _ _).alloc (Nat.le_refl _) _)
    have ho : Ob (w.alloc (.cells #[] 5)) w.heap.size 5 (.slice (some ⟨w.heap.size, 0, none⟩) 0 0) [] := World.ownsRow_made w #[] 0 (Nat.le_refl _) (Nat.zero_le _) rfl
    go_enter Try.func64, Try.ntmps64
    go_wp2_with (at_builtin; refine wpList_appendB rfl _ _ 41 rfl w.heap.size 5 i0 (.int .u8 0) Try.underlying41 hi hz0 hz1 hz2 rfl _ [] rfl ho _ _ _ l rfl H (by simp; omega) (by simp) ?_)
    intro v' w1 hown hgrow hnil hblk
    have hb : Below w.heap.size w w1 := ((Below.refl _ w).alloc (Nat.le_refl _) _).grown hgrow (by simp) (by intro k hk; simp [Value.ownBlock] at hk; omega)
    obtain ⟨A', c', rfl, hc', hbs⟩ := Ob.slice hown
    go_wp2
    go_ret
    exact ⟨A', _, c', rfl, by simpa using hown, hb⟩

/-- A cursor at block g: over the slice s, which reads as the bytes l, at place k. -/
def Cur (w : World) (g : Nat) (s : Value) (l : List UInt8) (k : Nat) : Prop :=
  ∃ A n c t, s = .slice A n c ∧ w.heap[g]? = some (.cells #[.slice A n c, .int .i64 (k : Int)] t (0, 0)) ∧ Bs w A n l ∧ n ≤ c ∧ k ≤ n ∧ n ≤ 1099511627776

theorem blk_cell {w : World} {g : Nat} {t : TypeId} {cs : Array Value} {f : Nat × Nat} (h : w.heap[g]? = some (.cells cs t f)) (i : Nat) : w.cell? ⟨g, i, none⟩ = cs[i]? := by
  simp [World.cell?, h]
theorem blk_frozen {w : World} {g : Nat} {t : TypeId} {cs : Array Value} (h : w.heap[g]? = some (.cells cs t (0, 0))) (i : Nat) : w.frozen? ⟨g, i, none⟩ = false := by
  simp [World.frozen?, h]
theorem Cur.lt {w : World} {g k : Nat} {s : Value} {l : List UInt8} (h : Cur w g s l k) : g < w.heap.size := by
  obtain ⟨A, n, c, t, _, hg, _⟩ := h
  exact (Array.getElem?_eq_some_iff.1 hg).1
theorem Cur.open_ {w : World} {g k : Nat} {s : Value} {l : List UInt8} (h : Cur w g s l k) : ∃ A n c, w.cell? ⟨g, 0, none⟩ = some (.slice A n c) ∧ w.cell? ⟨g, 1, none⟩ = some (.int .i64 (k : Int)) ∧
    w.frozen? ⟨g, 1, none⟩ = false ∧ Bs w A n l ∧ n ≤ c ∧ k ≤ n ∧ n ≤ 1099511627776 := by
  obtain ⟨A, n, c, t, _, hg, r⟩ := h
  exact ⟨A, n, c, by rw [blk_cell hg]; rfl, by rw [blk_cell hg]; rfl, blk_frozen hg _, r⟩
theorem Cur.noByte {w : World} {g k : Nat} {s : Value} {l : List UInt8} (h : Cur w g s l k) : ∀ o (x : UInt8), w.cell? ⟨g, o, none⟩ ≠ some (.int .u8 (x.toNat : Int)) := by
  obtain ⟨A, n, c, t, _, hg, _⟩ := h
  intro o x
  rw [blk_cell hg]
  match o with
  | 0 => simp
  | 1 => simp
  | o + 2 => simp
theorem Cur.qt {w w' : World} {g k : Nat} {s : Value} {l : List UInt8} (h : Cur w g s l k) (hq : Qt w w') : Cur w' g s l k := by
  obtain ⟨n, rfl⟩ := hq; exact h
theorem Cur.below {w w' : World} {g k : Nat} {s : Value} {l : List UInt8} (h : Cur w g s l k) (hb : Below w.heap.size w w') : Cur w' g s l k := by
  have hlt := h.lt
  obtain ⟨A, n, c, t, hs, hg, hbs, r⟩ := h
  exact ⟨A, n, c, t, hs, (hb.block g hlt).trans hg, hbs.below hb, r⟩
/-- Another cursor's moves leave this one as it is. -/
theorem Cur.only {w w' : World} {g k g2 : Nat} {s : Value} {l : List UInt8} (h : Cur w g s l k) (hb : Only g2 w w') (hne : g ≠ g2)
    (hg2 : ∀ o (x : UInt8), w.cell? ⟨g2, o, none⟩ ≠ some (.int .u8 (x.toNat : Int))) : Cur w' g s l k := by
  have hlt := h.lt
  obtain ⟨A, n, c, t, hs, hg, hbs, r⟩ := h
  exact ⟨A, n, c, t, hs, (hb.block g hlt (by simpa using hne)).trans hg, hbs.only hb hg2, r⟩
/-- The place is moved. -/
theorem Cur.set {w : World} {g k j : Nat} {s : Value} {l : List UInt8} (h : Cur w g s l k) (hj : j ≤ l.length) : Cur (w.setCell ⟨g, 1, none⟩ (.int .i64 (j : Int))) g s l j := by
  have hnb := h.noByte
  obtain ⟨A, n, c, t, hs, hg, hbs, hnc, hk, hn⟩ := h
  refine ⟨A, n, c, t, hs, ?_, ?_, hnc, by have := hbs.len; omega, hn⟩
  · simp [World.setCell, Array.getElem?_modify, hg]
  · exact hbs.only ((Only.refl g w).setCell rfl _) hnb

set_option maxHeartbeats 800000 in
theorem octNew (A : Option Addr) (n c : Nat) (l : List UInt8) (w : World) (h : Bs w A n l) (hn : n ≤ 1099511627776) :
    Calls Try.prog 34 #[.slice A n c] w fun e w' => ∃ g s, e = .returned (.pointer (some ⟨g, 0, none⟩)) ∧ w.heap.size ≤ g ∧ Cur w' g s l 0 ∧ Below w.heap.size w w' := by
  go_enter Try.func34, Try.ntmps34
  go_wp2_with fail
  refine (bytesClone A n c l _ h hn).mono ?_
  rintro e w1 ⟨A', n', c', rfl, hob, hb⟩
  obtain ⟨hbs, hc'⟩ := hob.bs
  go_wp2
  go_ret
  refine ⟨w1.heap.size, _, rfl, hb.size, ⟨A', n', c', _, rfl, heap_alloc_new _ _, hbs.below ((Below.refl _ _).alloc (Nat.le_refl _) _), hc', Nat.zero_le _, ?_⟩, hb.alloc hb.size _⟩
  have := hbs.len; have := h.len; omega

theorem stSize (A : Option Addr) (n c : Nat) (w : World) :
    Calls Try.prog 78 #[.slice A n c] w fun e w' => e = .returned (.int .i64 n) ∧ w' = w := by
  go_enter Try.func78, Try.ntmps78
  go_wp2
  go_ret
  exact ⟨rfl, rfl⟩

set_option maxHeartbeats 800000 in
theorem curLeft (g k : Nat) (l : List UInt8) (w : World) {s : Value} (h : Cur w g s l k) :
    Calls Try.prog 60 #[.pointer (some ⟨g, 0, none⟩)] w fun e w' => e = .returned (.int .i64 ((l.length : Int) - k)) ∧ Qt w w' := by
  obtain ⟨A, n, c, h0, h1, hf, hbs, hnc, hk, hn⟩ := h.open_
  have hl := Lib.hid hbs.len
  go_enter Try.func60, Try.ntmps60
  go_wp2
  go_quiet ((go_at_call 78; exact Calls.quiet_of_same (stSize _ _ _ _)))
  go_wp2
  go_ret
  exact ⟨by rw [hl.out]; first | rfl | exact ret_int (by omega), Qt.of _ _⟩

theorem curLeft0 (w : World) : Calls Try.prog 60 #[.pointer none] w fun e w' => e = .returned (.int .i64 0) ∧ w = w' := by
  go_enter Try.func60, Try.ntmps60
  go_wp2
  go_ret
  exact ⟨rfl, rfl⟩

theorem curAt (g k : Nat) (l : List UInt8) (w : World) {s : Value} (h : Cur w g s l k) :
    Calls Try.prog 37 #[.pointer (some ⟨g, 0, none⟩)] w fun e w' => e = .returned (.int .i64 k) ∧ w = w' := by
  obtain ⟨A, n, c, h0, h1, hf, hbs, hnc, hk, hn⟩ := h.open_
  go_enter Try.func37, Try.ntmps37
  go_wp2
  go_ret
  exact ⟨rfl, rfl⟩

theorem curAt0 (w : World) : Calls Try.prog 37 #[.pointer none] w fun e w' => e = .returned (.int .i64 0) ∧ w = w' := by
  go_enter Try.func37, Try.ntmps37
  go_wp2
  go_ret
  exact ⟨rfl, rfl⟩


/-- Why the next m bytes cannot be read, or 0. -/
def hasE (left m : Int) : Int := if m < 0 then 1 else if left < m then 3 else 0

set_option maxHeartbeats 800000 in
theorem curHas (g k : Nat) (l : List UInt8) (m : Int) (w : World) {s : Value} (h : Cur w g s l k) :
    Calls Try.prog 65 #[.pointer (some ⟨g, 0, none⟩), .int .i64 m] w fun e w' => e = .returned (.int .i64 (hasE ((l.length : Int) - k) m)) ∧ Qt w w' := by
  by_cases hm : m < 0
  · have hr : Hid (hasE ((l.length : Int) - k) m = 1) := by simp [Hid, hasE, hm]
    go_enter Try.func65, Try.ntmps65
    go_wp2
    go_ret
    exact ⟨by rw [hr.out]; rfl, Qt.refl _⟩
  · by_cases hl : (l.length : Int) - k < m
    · have hr : Hid (hasE ((l.length : Int) - k) m = 3) := by simp [Hid, hasE, hm, hl]
      go_enter Try.func65, Try.ntmps65
      go_wp2_with fail
      refine (curLeft g k l _ h).mono ?_
      rintro e w' ⟨rfl, hq⟩
      go_wp2
      go_ret
      exact ⟨by rw [hr.out]; rfl, hq⟩
    · have hr : Hid (hasE ((l.length : Int) - k) m = 0) := by simp [Hid, hasE, hm, hl]
      go_enter Try.func65, Try.ntmps65
      go_wp2_with fail
      refine (curLeft g k l _ h).mono ?_
      rintro e w' ⟨rfl, hq⟩
      go_wp2
      go_ret
      exact ⟨by rw [hr.out]; rfl, hq⟩

theorem curHas0 (m : Int) (w : World) :
    Calls Try.prog 65 #[.pointer none, .int .i64 m] w fun e w' => e = .returned (.int .i64 17) ∧ w = w' := by
  go_enter Try.func65, Try.ntmps65
  go_wp2
  go_ret
  exact ⟨rfl, rfl⟩

theorem stOctet (A : Option Addr) (n c k : Nat) (l : List UInt8) (w : World) (h : Bs w A n l) (hk : k < n) :
    Calls Try.prog 117 #[.slice A n c, .int .i64 k] w fun e w' => e = .returned (.int .u8 (nth l k)) ∧ w' = w := by
  obtain ⟨b, o, rfl, hc⟩ := h.at_ hk
  have i1 : (k : Int) < n := by omega
  go_enter Try.func117, Try.ntmps117
  go_wp2
  go_ret
  exact ⟨rfl, rfl⟩

set_option maxHeartbeats 800000 in
theorem curPeek (g k : Nat) (l : List UInt8) (w : World) {s : Value} (h : Cur w g s l k) (hk : k < l.length) :
    Calls Try.prog 115 #[.pointer (some ⟨g, 0, none⟩)] w fun e w' => e = .returned (.tuple #[.int .u8 (nth l k), .int .i64 0]) ∧ Qt w w' := by
  have hr : Hid (hasE ((l.length : Int) - k) 1 = 0) := by simp [Hid, hasE]; omega
  go_enter Try.func115, Try.ntmps115
  go_wp2_with fail
  refine (curHas g k l _ _ h).mono ?_
  rintro e w' ⟨rfl, hq⟩
  rw [hr.out]
  have h' := h.qt hq
  obtain ⟨A, n, c, h0, h1, hf, hbs, hnc, hkn, hn⟩ := h'.open_
  have hkn' : k < n := by have := hbs.len; omega
  clear h h'
  go_wp2
  go_quiet ((go_at_call 117; exact Calls.quiet_of_same (stOctet _ _ _ _ l _ hbs hkn')))
  go_wp2
  go_ret2
  exact ⟨rfl, hq.drewN _⟩

set_option maxHeartbeats 800000 in
theorem curPeekEnd (g : Nat) (l : List UInt8) (w : World) {s : Value} (h : Cur w g s l l.length) :
    Calls Try.prog 115 #[.pointer (some ⟨g, 0, none⟩)] w fun e w' => e = .returned (.tuple #[.int .u8 0, .int .i64 3]) ∧ Qt w w' := by
  have hr : Hid (hasE ((l.length : Int) - l.length) 1 = 3) := by simp [Hid, hasE]
  go_enter Try.func115, Try.ntmps115
  go_wp2_with fail
  refine (curHas g _ l _ _ h).mono ?_
  rintro e w' ⟨rfl, hq⟩
  rw [hr.out]
  go_wp2
  go_ret2
  exact ⟨rfl, hq⟩

theorem curPeek0 (w : World) :
    Calls Try.prog 115 #[.pointer none] w fun e w' => e = .returned (.tuple #[.int .u8 0, .int .i64 17]) ∧ w = w' := by
  go_enter Try.func115, Try.ntmps115
  go_wp2_with fail
  refine (curHas0 _ _).mono ?_
  rintro e w' ⟨rfl, rfl⟩
  go_wp2
  go_ret2
  exact ⟨rfl, rfl⟩

set_option maxHeartbeats 800000 in
theorem curByte (g k : Nat) (l : List UInt8) (w : World) {s : Value} (h : Cur w g s l k) (hk : k < l.length) :
    Calls Try.prog 112 #[.pointer (some ⟨g, 0, none⟩)] w fun e w' => e = .returned (.tuple #[.int .u8 (nth l k), .int .i64 0]) ∧ Cur w' g s l (k + 1) ∧ Only g w w' := by
  go_enter Try.func112, Try.ntmps112
  go_wp2_with fail
  refine (curPeek g k l _ h hk).mono ?_
  rintro e w' ⟨rfl, hq⟩
  have h' := h.qt hq
  obtain ⟨A, n, c, h0, h1, hf, hbs, hnc, hkn, hn⟩ := h'.open_
  have hn' : k < n := by have := hbs.len; omega
  go_wp2
  go_ret2
  exact ⟨rfl, by simpa using h'.set (j := k + 1) hk, (Only.of_qt hq).setCell rfl _⟩

set_option maxHeartbeats 800000 in
theorem curByteEnd (g : Nat) (l : List UInt8) (w : World) {s : Value} (h : Cur w g s l l.length) :
    Calls Try.prog 112 #[.pointer (some ⟨g, 0, none⟩)] w fun e w' => e = .returned (.tuple #[.int .u8 0, .int .i64 3]) ∧ Qt w w' := by
  go_enter Try.func112, Try.ntmps112
  go_wp2_with fail
  refine (curPeekEnd g l _ h).mono ?_
  rintro e w' ⟨rfl, hq⟩
  go_wp2
  go_ret2
  exact ⟨rfl, hq⟩

theorem curByte0 (w : World) :
    Calls Try.prog 112 #[.pointer none] w fun e w' => e = .returned (.tuple #[.int .u8 0, .int .i64 17]) ∧ w = w' := by
  go_enter Try.func112, Try.ntmps112
  go_wp2_with fail
  refine (curPeek0 _).mono ?_
  rintro e w' ⟨rfl, rfl⟩
  go_wp2
  go_ret2
  exact ⟨rfl, rfl⟩

set_option maxHeartbeats 800000 in
theorem stPiece (A : Option Addr) (n c i j : Nat) (x y : Int) (l : List UInt8) (w : World) (hB : Bs w A n l) (hij : i ≤ j) (hj : j ≤ n) (hc : n ≤ c) (hn : n ≤ 1099511627776) (hx : x = i) (hy : y = j) :
    Calls Try.prog 66 #[.slice A n c, .int .i64 x, .int .i64 y] w (NewBs w ((l.drop i).take (j - i))) := by
  subst hx hy
  have i1 : (i : Int) ≤ j := by omega
  have i2 : (j : Int) ≤ c := by omega
  go_enter Try.func66, Try.ntmps66
  go_wp2_with fail
  · rename_i hci
    refine (bytesClone _ _ _ _ _ (hB.cut0 hij hj (by omega)) (by omega)).mono ?_
    rintro e w1 ⟨A', n', c', rfl, hob, hb⟩
    go_wp2
    go_ret
    exact ⟨A', n', c', rfl, hob, hb⟩
  · rename_i hci
    refine (bytesClone _ _ _ _ _ (hB.cut hij hj) (by omega)).mono ?_
    rintro e w1 ⟨A', n', c', rfl, hob, hb⟩
    go_wp2
    go_ret
    exact ⟨A', n', c', rfl, hob, hb⟩

/-- What Take hands back. -/
def TakeOk (w : World) (g : Nat) (s : Value) (l r : List UInt8) (j : Nat) (e : Ending) (w' : World) : Prop :=
  ∃ A n c, e = .returned (.tuple #[.slice A n c, .int .i64 0]) ∧ Ob w' w.heap.size 5 (.slice A n c) r ∧ Cur w' g s l j ∧ Only g w w'

set_option maxRecDepth 4000 in
set_option maxHeartbeats 1600000 in
theorem curTake (g k m : Nat) (x : Int) (l : List UInt8) (w : World) {s : Value} (h : Cur w g s l k) (hm : k + m ≤ l.length) (hx : x = m) :
    Calls Try.prog 35 #[.pointer (some ⟨g, 0, none⟩), .int .i64 x] w (TakeOk w g s l ((l.drop k).take m) (k + m)) := by
  subst hx
  have hr : Hid (hasE ((l.length : Int) - k) m = 0) := by simp [Hid, hasE]; omega
  go_enter Try.func35, Try.ntmps35
  go_wp2_with fail
  refine (curHas g k l _ _ h).mono ?_
  rintro e w' ⟨rfl, hq⟩
  rw [hr.out]
  have h' := h.qt hq
  obtain ⟨A, n, c, h0, h1, hf, hbs, hnc, hkn, hn⟩ := h'.open_
  have hn' : k + m ≤ n := by have := hbs.len; omega
  have hset := h'.set (j := k + m) hm
  have hon := (Only.of_qt (g := g) hq).setCell (p := ⟨g, 1, none⟩) rfl (.int .i64 ((k + m : Nat) : Int))
  rw [Int.natCast_add] at hset hon
  go_wp2
  clear h h' h0 h1 hf hbs
  generalize w'.setCell ⟨g, 1, none⟩ (.int .i64 ((k : Int) + m)) = w1 at *
  obtain ⟨A, n, c, h0, h1, hf, hbs, hnc, hkn, hn⟩ := hset.open_
  go_still_tail 9, (by kernel_rfl)
  go_wp2_with fail
  refine (stPiece A n c k (k + m) _ _ l _ hbs.drew (by omega) hkn hnc hn rfl (by omega)).mono ?_
  rintro e w2 ⟨A', n', c', rfl, hob, hb⟩
  have hb1 : Below w1.heap.size w1 w2 := Below.trans (Below.drew (Below.refl _ _)) hb
  go_wp2
  go_ret2
  refine ⟨A', n', c', rfl, ?_, hset.below hb1, hon.trans (Only.of_below hb1)⟩
  rw [Nat.add_sub_cancel_left] at hob
  exact hob.mono hon.size

set_option maxHeartbeats 800000 in
theorem curTakeNo (g k : Nat) (x : Int) (l : List UInt8) (w : World) {s : Value} (h : Cur w g s l k) (hm : x < 0 ∨ (l.length : Int) - k < x) :
    Calls Try.prog 35 #[.pointer (some ⟨g, 0, none⟩), .int .i64 x] w fun e w' => e = .returned (.tuple #[.slice none 0 0, .int .i64 (if x < 0 then 1 else 3)]) ∧ Qt w w' := by
  have hr : Hid (hasE ((l.length : Int) - k) x = if x < 0 then 1 else 3) := by
    unfold Hid hasE
    by_cases h0 : x < 0
    · rw [if_pos h0, if_pos h0]
    · rw [if_neg h0, if_neg h0, if_pos (by omega)]
  have hne : ((if x < 0 then (1 : Int) else 3) != 0) = true := by split <;> rfl
  have hne' : ((if x < 0 then (1 : Int) else 3) == 0) = false := by split <;> rfl
  generalize hE : (if x < 0 then (1 : Int) else 3) = E at *
  have HE := Lib.hid hE; clear hE
  go_enter Try.func35, Try.ntmps35
  go_wp2_with fail
  refine (curHas g k l _ _ h).mono ?_
  rintro e w' ⟨rfl, hq⟩
  rw [hr.out]
  go_wp2
  go_ret2
  exact ⟨rfl, hq⟩

theorem curTake0 (x : Int) (w : World) :
    Calls Try.prog 35 #[.pointer none, .int .i64 x] w fun e w' => e = .returned (.tuple #[.slice none 0 0, .int .i64 17]) ∧ w = w' := by
  go_enter Try.func35, Try.ntmps35
  go_wp2_with fail
  refine (curHas0 _ _).mono ?_
  rintro e w' ⟨rfl, rfl⟩
  go_wp2
  go_ret2
  exact ⟨rfl, rfl⟩

/-- What Sub hands back. -/
def SubOk (w : World) (g : Nat) (s : Value) (l r : List UInt8) (j : Nat) (e : Ending) (w' : World) : Prop :=
  ∃ g2 s2, e = .returned (.tuple #[.pointer (some ⟨g2, 0, none⟩), .int .i64 0]) ∧ w.heap.size ≤ g2 ∧ Cur w' g2 s2 r 0 ∧ Cur w' g s l j ∧ Only g w w'

set_option maxHeartbeats 1600000 in
theorem curSub (g k m : Nat) (x : Int) (l : List UInt8) (w : World) {s : Value} (h : Cur w g s l k) (hm : k + m ≤ l.length) (hx : x = m) :
    Calls Try.prog 83 #[.pointer (some ⟨g, 0, none⟩), .int .i64 x] w (SubOk w g s l ((l.drop k).take m) (k + m)) := by
  have hX := Lib.hid hx; clear hx
  go_enter Try.func83, Try.ntmps83
  go_wp2_with fail
  refine (curTake g k m _ l _ h hm hX.out).mono ?_
  rintro e w1 ⟨A, n, c, rfl, hob, hcur, hon⟩
  obtain ⟨hbs, hnc⟩ := hob.bs
  obtain ⟨_, _, _, _, _, _, hcl, _, _, hcn⟩ := h
  have hln : n ≤ 1099511627776 := by have h1 := hbs.len; have h2 := hcl.len; simp at h1; omega
  go_wp2
  go_ret2
  have hb : Below w1.heap.size w1 (w1.alloc (.cells #[.slice A n c, .int .i64 0] 105)) := (Below.refl _ _).alloc (Nat.le_refl _) _
  exact ⟨w1.heap.size, _, rfl, hon.size, ⟨A, n, c, _, rfl, heap_alloc_new _ _, hbs.below hb, hnc, Nat.zero_le _, hln⟩, hcur.below hb, hon.trans (Only.of_below hb)⟩

set_option maxHeartbeats 800000 in
theorem curSubNo (g k : Nat) (x : Int) (l : List UInt8) (w : World) {s : Value} (h : Cur w g s l k) (hm : x < 0 ∨ (l.length : Int) - k < x) :
    Calls Try.prog 83 #[.pointer (some ⟨g, 0, none⟩), .int .i64 x] w fun e w' => e = .returned (.tuple #[.pointer none, .int .i64 (if x < 0 then 1 else 3)]) ∧ Qt w w' := by
  have ht := curTakeNo g k x l w h hm
  have hne : ((if x < 0 then (1 : Int) else 3) != 0) = true := by split <;> rfl
  have hne' : ((if x < 0 then (1 : Int) else 3) == 0) = false := by split <;> rfl
  generalize hE : (if x < 0 then (1 : Int) else 3) = E at *
  have HE := Lib.hid hE; clear hE
  have HT := Lib.hid ht; clear ht
  go_enter Try.func83, Try.ntmps83
  go_wp2_with fail
  refine HT.out.mono ?_
  rintro e w' ⟨rfl, hq⟩
  go_wp2
  go_ret2
  exact ⟨rfl, hq⟩

theorem curSub0 (x : Int) (w : World) :
    Calls Try.prog 83 #[.pointer none, .int .i64 x] w fun e w' => e = .returned (.tuple #[.pointer none, .int .i64 17]) ∧ w = w' := by
  go_enter Try.func83, Try.ntmps83
  go_wp2_with fail
  refine (curTake0 _ _).mono ?_
  rintro e w' ⟨rfl, rfl⟩
  go_wp2
  go_ret2
  exact ⟨rfl, rfl⟩

/-- What Rest hands back. -/
def RestOk (w : World) (g : Nat) (s : Value) (l r : List UInt8) (j : Nat) (e : Ending) (w' : World) : Prop :=
  ∃ A n c, e = .returned (.slice A n c) ∧ Ob w' w.heap.size 5 (.slice A n c) r ∧ Cur w' g s l j ∧ Only g w w'

set_option maxHeartbeats 1600000 in
theorem curRest (g k : Nat) (l : List UInt8) (w : World) {s : Value} (h : Cur w g s l k) :
    Calls Try.prog 44 #[.pointer (some ⟨g, 0, none⟩)] w (RestOk w g s l (l.drop k) l.length) := by
  have hk : k ≤ l.length := by obtain ⟨_, _, _, _, _, _, hb, _, hk, _⟩ := h; have := hb.len; omega
  have hd : Hid ((l.drop k).take (l.length - k) = l.drop k) := List.take_of_length_le (by simp)
  have hs : Hid (k + (l.length - k) = l.length) := by simp only [Hid]; omega
  go_enter Try.func44, Try.ntmps44
  go_wp2_with fail
  refine (curLeft g k l _ h).mono ?_
  rintro e w1 ⟨rfl, hq⟩
  go_wp2_with fail
  refine (curTake g k (l.length - k) _ l _ (h.qt hq) (by omega) (by omega)).mono ?_
  rintro e w2 ⟨A, n, c, rfl, hob, hcur, hon⟩
  rw [hd.out] at hob
  rw [hs.out] at hcur
  go_wp2
  go_ret
  exact ⟨A, n, c, rfl, hob.mono (hq.below (B := 0)).size, hcur, (Only.of_qt hq).trans hon⟩

theorem curRest0 (w : World) :
    Calls Try.prog 44 #[.pointer none] w fun e w' => e = .returned (.slice none 0 0) ∧ w = w' := by
  go_enter Try.func44, Try.ntmps44
  go_wp2_with fail
  refine (curLeft0 _).mono ?_
  rintro e w' ⟨rfl, rfl⟩
  go_wp2_with fail
  refine (curTake0 _ _).mono ?_
  rintro e w' ⟨rfl, rfl⟩
  go_wp2
  go_ret
  exact ⟨rfl, rfl⟩

set_option maxHeartbeats 800000 in
theorem curBack (g k j : Nat) (x : Int) (l : List UInt8) (w : World) {s : Value} (h : Cur w g s l k) (hj : j ≤ k) (hx : x = j) :
    Calls Try.prog 67 #[.pointer (some ⟨g, 0, none⟩), .int .i64 x] w fun e w' => e = .returned (.int .i64 0) ∧ Cur w' g s l j ∧ Only g w w' := by
  subst hx
  obtain ⟨A, n, c, h0, h1, hf, hbs, hnc, hkn, hn⟩ := h.open_
  have hl : k ≤ l.length := by have := hbs.len; omega
  have e1 : decide ((j : Int) < 0) = false := by simp
  have e2 : decide (k < j) = false := by simp; omega
  go_enter Try.func67, Try.ntmps67
  go_wp2
  go_ret
  exact ⟨rfl, h.set (by omega), (Only.refl g w).setCell rfl _⟩

set_option maxHeartbeats 800000 in
theorem curBackNo (g k : Nat) (x : Int) (l : List UInt8) (w : World) {s : Value} (h : Cur w g s l k) (hx : x < 0 ∨ (k : Int) < x) :
    Calls Try.prog 67 #[.pointer (some ⟨g, 0, none⟩), .int .i64 x] w fun e w' => e = .returned (.int .i64 1) ∧ w = w' := by
  obtain ⟨A, n, c, h0, h1, hf, hbs, hnc, hkn, hn⟩ := h.open_
  by_cases hx0 : x < 0
  · have e1 : decide (x < 0) = true := by simp; omega
    go_enter Try.func67, Try.ntmps67
    go_wp2
    go_ret
    exact ⟨rfl, rfl⟩
  · have e1 : decide (x < 0) = false := by simp; omega
    have e2 : (k : Int) < x := by omega
    go_enter Try.func67, Try.ntmps67
    go_wp2
    go_ret
    exact ⟨rfl, rfl⟩

theorem curBack0 (x : Int) (w : World) :
    Calls Try.prog 67 #[.pointer none, .int .i64 x] w fun e w' => e = .returned (.int .i64 17) ∧ w = w' := by
  go_enter Try.func67, Try.ntmps67
  go_wp2
  go_ret
  exact ⟨rfl, rfl⟩

/-- While rows of the call's own are written, the cursor stays: its bytes are those of the beginning. -/
theorem Cur.frame {w w1 w2 : World} {g k k' : Nat} {s : Value} {l : List UInt8} {row : Option Nat} (h0 : Cur w g s l k) (hon : Only g w w1) (h1 : Cur w1 g s l k') (hg : w1.grownBy w2 row) (hr : ∀ b, row = some b → w.heap.size ≤ b) : Cur w2 g s l k' := by
  have hlt := h0.lt
  have hnb := h0.noByte
  have hne : some g ≠ row := fun e => by have := hr g e.symm; omega
  have hon2 : Only g w w2 := ⟨hg.os.trans hon.os, hg.tape.trans hon.tape, hg.output.trans hon.output, Nat.le_trans hon.size hg.size, fun i hi hni =>
    (hg.block i (Nat.lt_of_lt_of_le hi hon.size) (fun e => by have := hr i e.symm; omega)).trans (hon.block i hi hni)⟩
  obtain ⟨A, n, c, t, rfl, _, hbs, _⟩ := h0
  obtain ⟨A', n', c', t', e, hg', _, hnc, hk, hn⟩ := h1
  cases e
  exact ⟨A, n, c, t', rfl, (hg.block g (Nat.lt_of_lt_of_le hlt hon.size) hne).trans hg', hbs.only hon2 hnb, hnc, hk, hn⟩
theorem Only.grown {g : Nat} {w w1 w2 : World} {row : Option Nat} (hon : Only g w w1) (hg : w1.grownBy w2 row) (hr : ∀ b, row = some b → w.heap.size ≤ b) : Only g w w2 :=
  ⟨hg.os.trans hon.os, hg.tape.trans hon.tape, hg.output.trans hon.output, Nat.le_trans hon.size hg.size, fun i hi hni =>
    (hg.block i (Nat.lt_of_lt_of_le hi hon.size) (fun e => by have := hr i e.symm; omega)).trans (hon.block i hi hni)⟩

end Go.Proofs.Ytbhfaakhcnkegaa
