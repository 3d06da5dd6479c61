/-
  The next tag and the next length of any bytes, as the document says them: the plain functions, and the calls of the reference that answer so.
-/
import Derived.Test.YtbhfaakhcnkegaaHex
namespace Go.Proofs.Ytbhfaakhcnkegaa
open Go.RowKit
set_option linter.unusedVariables false
set_option linter.unusedSimpArgs false
set_option maxRecDepth 4000

/-- A tag: its class, its number, whether it is made. -/
structure Tg where
  cls : Int
  num : Int
  made : Bool
  deriving DecidableEq
def Tg.v (t : Tg) : Value := .agg #[.int .i64 t.cls, .int .i64 t.num, .bool t.made]
def tg0 : Tg := ⟨0, 0, false⟩
/-- The tag that one byte says. -/
def tg1 (x : Int) : Tg := ⟨x / 64, x % 32, x / 32 % 2 == 1⟩

/-- The digits of a number from place k + i on, n so far; at most f more of them before the fourth. -/
def digs2 (l : List UInt8) (k : Nat) (c : Int) (m : Bool) : Nat → Nat → Int → Tg × Nat × Int
  | 0, i, _ => if l.length ≤ k + i then (tg0, k, 3) else (tg0, k, 4)
  | f + 1, i, n =>
    if l.length ≤ k + i then (tg0, k, 3)
    else if i = 1 ∧ nth l (k + i) = 128 then (tg0, k, 4)
    else if nth l (k + i) < 128 then
      (if 128 * n + nth l (k + i) % 128 < 31 then (tg0, k, 4) else (⟨c, 128 * n + nth l (k + i) % 128, m⟩, k + i + 1, 0))
    else digs2 l k c m f (i + 1) (128 * n + nth l (k + i) % 128)

/-- The tag at place k, the place behind it, the error's number. -/
def rTag (l : List UInt8) (k : Nat) : Tg × Nat × Int :=
  if l.length ≤ k then (tg0, k, 3)
  else if nth l k % 32 < 31 then (tg1 (nth l k), k + 1, 0)
  else digs2 l k (nth l k / 64) (nth l k / 32 % 2 == 1) 3 1 0

/-- What a reader of tags hands back. -/
def tagV (r : Tg × Nat × Int) : Ending := .returned (.tuple #[r.1.v, .int .i64 (r.2.1 : Int), .int .i64 r.2.2])

def blkT (x y : Int) (z : Bool) : Obj := .cells #[.int .i64 x, .int .i64 y, .bool z] 29
theorem below_alloc1 (w : World) (o : Obj) : Below w.heap.size w (w.alloc o) := (Below.refl _ _).alloc (Nat.le_refl _) _
theorem below_alloc2 (w : World) (o o' : Obj) : Below w.heap.size w ((w.alloc o).alloc o') := (below_alloc1 w o).alloc (by simp) _

set_option maxHeartbeats 1600000 in
theorem refReadTag (A : Option Addr) (n c k : Nat) (x : Int) (l : List UInt8) (w : World) (h : Bs w A n l) (hn : n ≤ 1099511627776) (hk : k ≤ 1099511627776) (hx : x = k) :
    Calls Try.prog 79 #[.slice A n c, .int .i64 x] w fun e w' => e = tagV (rTag l k) ∧ Below w.heap.size w w' := by
  subst hx
  have hl := Lib.hid h.len
  go_enter Try.func79, Try.ntmps79
  by_cases h0 : n ≤ k
  · have hR : Hid (rTag l k = (tg0, k, 3)) := by unfold Hid rTag; rw [hl.out, if_pos h0]
    go_wp2
    rw [hR.out]
    refine bodyPost_ret (v := .tuple #[tg0.v, .int .i64 (k : Int), .int .i64 3]) (by simp [results, Try.results79, go_sem, tg0, Tg.v]) rfl ?_
    exact ⟨rfl, below_alloc1 _ _⟩
  · obtain ⟨b, o, rfl, hc⟩ := h.at_ (k := k) (by omega)
    have hb := nth_bound l k
    have hc1 : (w.alloc (Obj.cells #[Value.int IntKind.i64 0, Value.int IntKind.i64 0, Value.bool false] 29)).cell? ⟨b, o + k, none⟩ = some (.int .u8 (nth l k)) := (Below.cell (below_alloc1 w _) (World.block_lt_of_cell? w _ hc)).trans hc
    by_cases h1 : nth l k % 32 < 31
    · have hR : Hid (rTag l k = (tg1 (nth l k), k + 1, 0)) := by unfold Hid rTag; rw [hl.out, if_neg h0, if_pos h1]
      go_wp2
      rw [hR.out]
      refine bodyPost_ret (v := .tuple #[(tg1 (nth l k)).v, .int .i64 ((k + 1 : Nat) : Int), .int .i64 0]) (by simp [results, Try.results79, go_sem, tg1, Tg.v]) rfl ?_
      exact ⟨rfl, below_alloc2 _ _ _⟩
    · have hR : Hid (rTag l k = digs2 l k (nth l k / 64) (nth l k / 32 % 2 == 1) 3 1 0) := by unfold Hid rTag; rw [hl.out, if_neg h0, if_neg h1]
      go_wp2
      go_loopw [9, 10] (fun v i wr => ∃ (m f : Nat) (z : Int), i = .int .i64 (m : Int) ∧ v = .int .i64 z ∧ m + f = 4 ∧ 1 ≤ m ∧ 0 ≤ z ∧ z < 2097152 ∧ (m = 1 → z = 0) ∧ (m = 2 → z < 128) ∧ (m = 3 → z < 16384) ∧
        wr = (w.alloc (Obj.cells #[Value.int IntKind.i64 0, Value.int IntKind.i64 0, Value.bool false] 29)).alloc (Obj.cells #[Value.int IntKind.i64 (nth l k / 64), Value.int IntKind.i64 (nth l k % 32), Value.bool (nth l k / 32 % 2 == 1)] 29) ∧
        Hid (rTag l k = digs2 l k (nth l k / 64) (nth l k / 32 % 2 == 1) f m z)) (fun _ i _ => 5 - (intOf i).toNat)
      case atStart => exact ⟨1, 3, 0, rfl, rfl, by omega, by omega, by omega, by omega, by omega, by omega, by omega, rfl, hR⟩
      case round =>
        obtain ⟨m, f, z, rfl, rfl, hmf, hm1, hz0, hz1, hz2, hz3, hz4, rfl, hun⟩ := hrel
        clear hR hc1
        generalize hq1 : (nth l k / 64) = q1 at *
        generalize hq2 : (nth l k % 32) = q2 at *
        generalize hq3 : (nth l k / 32 % 2 == 1) = q3 at *
        clear hq1 hq2 hq3
        by_cases h2 : n ≤ k + m
        · have hR : Hid (rTag l k = (tg0, k, 3)) := by
            unfold Hid; rw [hun.out]; cases f <;> (unfold digs2; rw [hl.out, if_pos h2])
          have h2' : (n : Int) ≤ k + m := by omega
          go_wp2
          rw [hR.out]
          refine bodyPost_ret (v := .tuple #[tg0.v, .int .i64 (k : Int), .int .i64 3]) (by simp [results, Try.results79, go_sem, tg0, Tg.v]) rfl ?_
          exact ⟨rfl, below_alloc2 _ _ _⟩
        · obtain ⟨b', o', hbo, hc2⟩ := h.at_ (k := k + m) (by omega)
          cases hbo
          have hb2 := nth_bound l (k + m)
          have h2' : (k : Int) + m < n := by omega
          have hc3 := (Below.cell (below_alloc2 w (Obj.cells #[Value.int IntKind.i64 0, Value.int IntKind.i64 0, Value.bool false] 29) (Obj.cells #[Value.int IntKind.i64 q1, Value.int IntKind.i64 q2, Value.bool q3] 29)) (World.block_lt_of_cell? w _ hc2)).trans hc2
          have hun1 : ∀ f', f = f' + 1 → Hid (rTag l k = if m = 1 ∧ nth l (k + m) = 128 then (tg0, k, 4) else if nth l (k + m) < 128 then
              (if 128 * z + nth l (k + m) % 128 < 31 then (tg0, k, 4) else (⟨q1, 128 * z + nth l (k + m) % 128, q3⟩, k + m + 1, 0)) else digs2 l k q1 q3 f' (m + 1) (128 * z + nth l (k + m) % 128)) := by
            rintro f' rfl; unfold Hid; rw [hun.out]; conv => lhs; unfold digs2
            rw [hl.out, if_neg h2]
          have hun0 : f = 0 → Hid (rTag l k = (tg0, k, 4)) := by
            rintro rfl; unfold Hid; rw [hun.out]; unfold digs2; rw [hl.out, if_neg h2]
          clear hun
          generalize nth l (k + m) = d at *
          rcases f with _ | f
          · obtain rfl : m = 4 := by omega
            have hR := hun0 rfl
            clear hun0 hun1
            go_wp2
            rw [hR.out]
            refine bodyPost_ret (v := .tuple #[tg0.v, .int .i64 (k : Int), .int .i64 4]) (by simp [results, Try.results79, go_sem, tg0, Tg.v]) rfl ?_
            exact ⟨rfl, below_alloc2 _ _ _⟩
          · have hR := (hun1 f rfl).out
            clear hun0 hun1
            have e4 : ((m : Int) == 4) = false := by simp; omega
            by_cases h3 : m = 1 ∧ d = 128
            · rw [if_pos h3] at hR
              have HR := Lib.hid hR; clear hR
              obtain ⟨rfl, rfl⟩ := h3
              go_wp2
              rw [HR.out]
              refine bodyPost_ret (v := .tuple #[tg0.v, .int .i64 (k : Int), .int .i64 4]) (by simp [results, Try.results79, go_sem, tg0, Tg.v]) rfl ?_
              exact ⟨rfl, below_alloc2 _ _ _⟩
            · rw [if_neg h3] at hR
              have hd : d % 128 = if d < 128 then d else d - 128 := by split <;> omega
              have hz5 : 128 * z + d % 128 < 2097152 := by omega
              have hz6 : m = 1 → 128 * z + d % 128 < 128 := by omega
              have hz7 : m = 2 → 128 * z + d % 128 < 16384 := by omega
              have hz8 : 0 ≤ 128 * z + d % 128 := by omega
              have hz9 : 0 ≤ d % 128 ∧ d % 128 < 128 := by omega
              clear hd
              by_cases h4 : d < 128
              · rw [if_pos h4] at hR
                by_cases h5 : 128 * z + d % 128 < 31
                · rw [if_pos h5] at hR
                  have HR := Lib.hid hR; clear hR
                  by_cases h6 : m = 1
                  · subst h6
                    have e6 : (d == 128) = false := by simp; omega
                    go_wp2
                    rw [HR.out]
                    refine bodyPost_ret (v := .tuple #[tg0.v, .int .i64 (k : Int), .int .i64 4]) (by simp [results, Try.results79, go_sem, tg0, Tg.v]) rfl ?_
                    exact ⟨rfl, below_alloc2 _ _ _⟩
                  · have e6 : ((m : Int) == 1) = false := by simp; omega
                    go_wp2
                    rw [HR.out]
                    refine bodyPost_ret (v := .tuple #[tg0.v, .int .i64 (k : Int), .int .i64 4]) (by simp [results, Try.results79, go_sem, tg0, Tg.v]) rfl ?_
                    exact ⟨rfl, below_alloc2 _ _ _⟩
                · rw [if_neg h5] at hR
                  have HR := Lib.hid hR; clear hR
                  by_cases h6 : m = 1
                  · subst h6
                    have e6 : (d == 128) = false := by simp; omega
                    obtain rfl : z = 0 := hz2 rfl
                    go_wp2
                    rw [HR.out]
                    refine bodyPost_ret (v := .tuple #[Tg.v ⟨q1, 128 * 0 + d % 128, q3⟩, .int .i64 ((k + 1 + 1 : Nat) : Int), .int .i64 0]) (by simp [results, Try.results79, go_sem, tg0, Tg.v]) rfl ?_
                    exact ⟨rfl, below_alloc2 _ _ _⟩
                  · have e6 : ((m : Int) == 1) = false := by simp; omega
                    go_wp2
                    rw [HR.out]
                    refine bodyPost_ret (v := .tuple #[Tg.v ⟨q1, 128 * z + d % 128, q3⟩, .int .i64 ((k + m + 1 : Nat) : Int), .int .i64 0]) (by simp [results, Try.results79, go_sem, tg0, Tg.v]) rfl ?_
                    exact ⟨rfl, below_alloc2 _ _ _⟩
              · rw [if_neg h4] at hR
                have HR := Lib.hid hR; clear hR
                by_cases h6 : m = 1
                · subst h6
                  have e6 : (d == 128) = false := by simp; omega
                  obtain rfl : z = 0 := hz2 rfl
                  rw [show (128 : Int) * 0 + d % 128 = d % 128 by omega] at HR
                  go_wp2
                  go_roundw
                  case rel => exact ⟨2, f, _, by go_num, rfl, by omega, by omega, by omega, by omega, by omega, by omega, by omega, trivial, HR⟩
                  case measure => simp [intOf]
                · have e6 : ((m : Int) == 1) = false := by simp; omega
                  go_wp2
                  go_roundw
                  case rel => exact ⟨m + 1, f, _, by go_num, rfl, by omega, by omega, by omega, by omega, by omega, by omega, by omega, trivial, HR⟩
                  case measure => simp [intOf]; omega

end Go.Proofs.Ytbhfaakhcnkegaa
