/-
  A whole, which tags may be, and the small functions of layer 2's reference and laws.
-/
import Derived.Test.YtepbjjhidemaiaaGreatWr
namespace Go.Proofs.YtepbjjhidemaiaaGreat
open Go.RowKit
set_option linter.unusedVariables false
set_option linter.unusedSimpArgs false
set_option maxRecDepth 4000

/-- Whether a tag may be. -/
def Tg.rightB (t : Tg) : Bool := decide (0 ≤ t.cls) && decide (t.cls < 4) && decide (0 ≤ t.num) && decide (t.num < 2097152)
theorem Tg.rightB_iff (t : Tg) : t.rightB = true ↔ t.right := by simp [Tg.rightB, Tg.right, and_assoc]

set_option maxHeartbeats 800000 in
theorem refOf (n : Int) (w : World) :
    Calls Tryz.prog 22 #[.int .i64 n] w fun e w' => e = .returned (Tg.v ⟨0, n, n == 16 || n == 17⟩) ∧ Below w.heap.size w w' := by
  unfold Tg.v
  go_enter Tryz.func22, Tryz.ntmps22
  by_cases h : n = 16
  · subst h
    go_wp2
    refine bodyPost_ret (v := .agg #[.int .i64 0, .int .i64 16, .bool true]) (by simp [results, Tryz.results22, go_sem]) rfl ?_
    exact ⟨rfl, below_alloc1 _ _⟩
  · have e1 : (n == 16) = false := by simp; exact h
    go_wp2
    refine bodyPost_ret (v := .agg #[.int .i64 0, .int .i64 n, .bool (n == 17)]) (by simp [results, Tryz.results22, go_sem, e1]) rfl ?_
    exact ⟨by simp [e1], below_alloc1 _ _⟩

theorem if_len (p : Prop) [Decidable p] (a : UInt8) : (if p then [a] else []).length ≤ 1 := by split <;> simp
theorem tagB_len (t : Tg) : (tagB t).length ≤ 4 := by
  unfold tagB
  split
  · simp
  · simp only [List.length_append, List.length_singleton]
    have h1 := if_len (16384 ≤ t.num) (u8 (128 + t.num / 16384))
    have h2 := if_len (128 ≤ t.num) (u8 (128 + t.num / 128 % 128))
    omega
theorem lenB_len (n : Int) : (lenB n).length ≤ 5 := by unfold lenB; split <;> (try split) <;> (try split) <;> (try split) <;> simp

/-- A whole's bytes. -/
def wrapB (t : Tg) (l : List UInt8) : List UInt8 := tagB t ++ lenB l.length ++ l

end Go.Proofs.YtepbjjhidemaiaaGreat
