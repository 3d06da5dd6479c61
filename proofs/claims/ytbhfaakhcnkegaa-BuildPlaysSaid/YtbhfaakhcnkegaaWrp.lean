/-
  A whole, which tags may be, and the small functions of layer 2's reference and laws.
-/
import Derived.Test.YtbhfaakhcnkegaaWr
namespace Go.Proofs.Ytbhfaakhcnkegaa
open Go.RowKit
set_option linter.unusedVariables false
set_option linter.unusedSimpArgs false
set_option maxRecDepth 4000

/-- Whether a tag may be. -/
def Tg.rightB (t : Tg) : Bool := decide (0 ≤ t.cls) && decide (t.cls < 4) && decide (0 ≤ t.num) && decide (t.num < 2097152)
theorem Tg.rightB_iff (t : Tg) : t.rightB = true ↔ t.right := by simp [Tg.rightB, Tg.right, and_assoc]

set_option maxHeartbeats 800000 in
theorem refOf (n : Int) (w : World) :
    Calls Try.prog 32 #[.int .i64 n] w fun e w' => e = .returned (Tg.v ⟨0, n, n == 16 || n == 17⟩) ∧ Below w.heap.size w w' := by
  unfold Tg.v
  go_enter Try.func32, Try.ntmps32
  by_cases h : n = 16
  · subst h
    go_wp2
    refine bodyPost_ret (v := .agg #[.int .i64 0, .int .i64 16, .bool true]) (by simp [results, Try.results32, go_sem]) rfl ?_
    exact ⟨rfl, below_alloc1 _ _⟩
  · have e1 : (n == 16) = false := by simp; exact h
    go_wp2
    refine bodyPost_ret (v := .agg #[.int .i64 0, .int .i64 n, .bool (n == 17)]) (by simp [results, Try.results32, go_sem, e1]) rfl ?_
    exact ⟨by simp [e1], below_alloc1 _ _⟩

theorem if_len (p : Prop) [Decidable p] (a : UInt8) : (if p then [a] else []).length ≤ 1 := by split <;> simp
theorem tagB_len (t : Tg) : (tagB t).length ≤ 4 := by
  unfold tagB
  split
  · simp
  · simp only [List.length_append, List.length_singleton]
    have h1 := if_len (16384 ≤ t.num) (u8 (128 + t.num / 16384))
    have h2 := if_len (128 ≤ t.num) (u8 (128 + t.num / 128 % 128))
    omega
theorem lenB_len (n : Int) : (lenB n).length ≤ 5 := by unfold lenB; split <;> (try split) <;> (try split) <;> (try split) <;> simp

/-- A whole's bytes. -/
def wrapB (t : Tg) (l : List UInt8) : List UInt8 := tagB t ++ lenB l.length ++ l

set_option maxHeartbeats 1600000 in
theorem refWrap (t : Tg) (A : Option Addr) (n c : Nat) (l : List UInt8) (w : World) (h : t.right) (hb : Bs w A n l) (hn : n ≤ 16777217) :
    Calls Try.prog 31 #[t.v, .slice A n c] w (NewBs w (wrapB t l)) := by
  have hl := Lib.hid hb.len
  obtain ⟨i0, hi, hz0, hz1, hz2⟩ := info_parts u8_info
  have hB := Lib.hid (fun w => refBytes t w h)
  obtain ⟨tc, tn, tm⟩ := t
  unfold Tg.v at *
  go_enter Try.func31, Try.ntmps31
  go_wp2_with fail
  refine (hB.out _).mono ?_
  rintro e w1 ⟨A1, n1, c1, rfl, hob1, hb1⟩
  have hob1 := hob1.mono (base' := w.heap.size) (by simp)
  have hB1 : Below w.heap.size w w1 := (below_alloc1 _ _).trans (Below.mono hb1 (by simp))
  clear hB hb1
  go_wp2_with fail
  refine (refLength _ _ (by omega) (by omega)).mono ?_
  rintro e w2 ⟨A2, n2, c2, rfl, hob2, hb2⟩
  have hB2 : Below w.heap.size w w2 := hB1.trans (Below.mono hb2 hB1.size)
  have hob1 := hob1.below hb2
  have hb2 := hob2.bs.1
  have hl1 := (hob1.bs).1.len
  have hl2 := hb2.len
  have hL1 := tagB_len ⟨tc, tn, tm⟩
  have hL2 := lenB_len n
  go_wp2_with (at_builtin; refine wpList_appendB rfl _ _ 41 rfl w.heap.size 5 i0 (.int .u8 0) Try.underlying41 hi hz0 hz1 hz2 rfl _ (tagB ⟨tc, tn, tm⟩) rfl hob1 _ _ _ (lenB n) rfl hb2 ?ab1 ?ab2 ?_)
  case ab1 => omega
  case ab2 => exact hB2.size
  intro v3 w3 hob3 hg3 _ _
  have hB3 := hob1.grew hB2 (Nat.le_refl _) hg3
  have hbs := hb.below hB3
  go_wp2_with (at_builtin; refine wpList_appendB rfl _ _ 41 rfl w.heap.size 5 i0 (.int .u8 0) Try.underlying41 hi hz0 hz1 hz2 rfl _ (tagB ⟨tc, tn, tm⟩ ++ lenB n) rfl hob3 _ _ _ l rfl hbs ?ab1 ?ab2 ?_)
  case ab1 => simp; omega
  case ab2 => exact hB3.size
  intro v4 w4 hob4 hg4 _ _
  have hB4 := hob3.grew hB3 (Nat.le_refl _) hg4
  go_wp2
  go_ret
  have hw : wrapB ⟨tc, tn, tm⟩ l = tagB ⟨tc, tn, tm⟩ ++ lenB n ++ l := by unfold wrapB; rw [hl.out]
  rw [hw]
  obtain ⟨A', N, c', hv⟩ : ∃ A' N c', v4 = .slice A' N c' := by obtain ⟨A', c', hv, _, _⟩ := hob4.slice; exact ⟨_, _, _, hv⟩
  subst hv
  rw [List.append_assoc]
  exact ⟨A', N, c', rfl, hob4, hB4⟩

end Go.Proofs.Ytbhfaakhcnkegaa
