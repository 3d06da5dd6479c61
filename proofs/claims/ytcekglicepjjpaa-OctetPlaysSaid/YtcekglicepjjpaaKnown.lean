/-
  quittancelaw01's few and known.
-/
import Derived.Test.YtcekglicepjjpaaHex
namespace Go.Proofs.Ytcekglicepjjpaa
open Go.RowKit
set_option linter.unusedVariables false
set_option linter.unusedSimpArgs false

theorem few1 (A : Option Addr) (n c : Nat) (w : World) (hc : n ≤ c) :
    Calls Try.prog 9 #[.slice A n c] w fun e w' => e = .returned (.slice A (min n 5000) c) ∧ w = w' := by
  by_cases h : n ≤ 5000
  · have e : Hid (min n 5000 = n) := by unfold Hid; omega
    go_enter Try.func9, Try.ntmps9
    go_wp2
    go_ret
    exact ⟨by rw [e.out]; rfl, rfl⟩
  · have e : Hid (min n 5000 = 5000) := by unfold Hid; omega
    have h' : (5000 : Int) < n := by omega
    go_enter Try.func9, Try.ntmps9
    go_wp2
    go_ret
    exact ⟨by rw [e.out]; rfl, rfl⟩

/-- []byte of a constant text. -/
theorem constBytes (w : World) (g : Nat) (C : Array Value) (n c : Nat) (hg : w.heap.size = g) :
    (convert 22 22 (.slice (some ⟨g, 0, none⟩) n c)).run Try.prog (w.alloc (.cells C 5)) = .ok (.slice (some ⟨g, 0, none⟩) n c) (w.alloc (.cells C 5 (C.size, C.size + 1))) := by
  subst hg
  exact Lib.run_convert_bytes_const (P := Try.prog) w 22 5 C n c Try.underlying22 Try.underlying5

theorem cb1 (w8 : World) : Bs ((w8.alloc (.cells #[.int .u8 97] 5 (1, 2))).alloc (.cells #[.int .u8 97, .int .u8 98] 5 (2, 3))) (some ⟨w8.heap.size, 0, none⟩) 1 [97] :=
  (Bs.newF w8 [97] 5 (1, 2)).below ((Below.refl _ _).alloc (Nat.le_refl _) _)
theorem cb2 (w8 : World) : Bs ((w8.alloc (.cells #[.int .u8 97] 5 (1, 2))).alloc (.cells #[.int .u8 97, .int .u8 98] 5 (2, 3))) (some ⟨w8.heap.size + 1, 0, none⟩) 2 [97, 98] := by
  have := Bs.newF (w8.alloc (.cells #[.int .u8 97] 5 (1, 2))) [97, 98] 5 (2, 3)
  rw [show (w8.alloc (.cells #[.int .u8 97] 5 (1, 2))).heap.size = w8.heap.size + 1 by simp] at this
  exact this

set_option maxRecDepth 100000 in
set_option maxHeartbeats 800000 in
theorem known1 (w : World) :
    Calls Try.prog 15 #[] w fun e w' => e = .returned (.bool true) ∧ Below w.heap.size w w' := by
  have n0 : nth [1, 2, 3] 0 = 1 := rfl
  have n1 : nth [1, 2, 3] 1 = 2 := rfl
  go_enter Try.func15, Try.ntmps15
  go_wp2_with fail
  refine (octNew _ _ _ [1, 2, 3] _ (Bs.newL w [1, 2, 3] 5) (by decide)).mono ?_
  rintro e w1 ⟨g, sv, rfl, hg, hcur, hb⟩
  go_wp2_with fail
  refine (curByte g 0 _ _ hcur (by decide)).mono ?_
  rintro e w2 ⟨rfl, hcur2, hon2⟩
  go_wp2_with fail
  refine (curTake g 1 2 _ _ _ hcur2 (by decide) rfl).mono ?_
  rintro e w3 ⟨A, n, c, rfl, hob, hcur3, hon3⟩
  go_wp2_with fail
  refine (curByteEnd g _ _ hcur3).mono ?_
  rintro e w4 ⟨rfl, hq4⟩
  go_wp2_with fail
  refine (curBack g _ 1 _ _ _ (hcur3.qt hq4) (by decide) rfl).mono ?_
  rintro e w5 ⟨rfl, hcur5, hon5⟩
  go_wp2_with fail
  refine (curPeek g 1 _ _ hcur5 (by decide)).mono ?_
  rintro e w6 ⟨rfl, hq6⟩
  go_wp2_with fail
  refine (octUnhex _ [48, 65] _ rfl (by decide)).mono ?_
  rintro e w7 hm
  obtain ⟨rfl, hb7⟩ : e = .returned (.tuple #[.slice none 0 0, .int .i64 6]) ∧ Below w6.heap.size w6 w7 := hm
  have hg' : w.heap.size ≤ g := by simp at hg; omega
  have b1 : Below w.heap.size w w1 := ((Below.refl _ _).alloc (Nat.le_refl _) _).trans (hb.mono (by simp))
  have b2 : Below w.heap.size w w2 := hon2.below b1 hg' b1.size
  have b3 : Below w.heap.size w w3 := hon3.below b2 hg' b2.size
  have b4 : Below w.heap.size w w4 := b3.trans hq4.below
  have b5 : Below w.heap.size w w5 := hon5.below b4 hg' b4.size
  have b6 : Below w.heap.size w w6 := b5.trans hq6.below
  have b7 : Below w.heap.size w w7 := b6.trans (hb7.mono b6.size)
  obtain ⟨hbs, hnc⟩ := hob.bs
  have hn : n ≤ 1099511627776 := by have := hbs.len; simp at this; omega
  have hbs7 : Bs w7 A n [2, 3] := ((((hbs.qt hq4).only hon5 (hcur3.qt hq4).noByte).qt hq6).below hb7)
  clear hob hbs hcur hcur2 hcur3 hcur5 hb hg
  go_wp2_with fail
  refine (refSame A _ n _ c _ [2, 3] [2, 3] _ (hbs7.below ((Below.refl _ _).alloc (Nat.le_refl _) _)) (Bs.newL w7 [2, 3] 5) hn (by decide)).mono ?_
  rintro e w8 ⟨rfl, hq8⟩
  have b8 : Below w.heap.size w w8 := (b7.alloc b7.size _).trans hq8.below
  have kc := @constBytes
  go_wp2_with fail
  refine (octCompare _ _ 1 2 1 2 [97] [97, 98] _ (cb1 w8) (cb2 w8)).mono ?_
  rintro e w9 ⟨rfl, rfl⟩
  have hcmp : Lib.compareBytes [97] [97, 98] = -1 := by decide
  go_wp2
  go_ret
  exact ⟨rfl, (b8.alloc b8.size _).alloc (by have := b8.size; simp; omega) _⟩
end Go.Proofs.Ytcekglicepjjpaa
