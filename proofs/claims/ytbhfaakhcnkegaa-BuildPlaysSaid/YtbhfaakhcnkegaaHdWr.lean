/-
  The contracts of the project's head: digits, tags and lengths as bytes.
-/
import Derived.Test.YtbhfaakhcnkegaaHdSpell
import Derived.Test.YtbhfaakhcnkegaaWrp
import Derived.Test.YtbhfaakhcnkegaaJoin
import Derived.Laws.EntriesVeiled
namespace Go.Proofs.Ytbhfaakhcnkegaa
open Go.RowKit
set_option linter.unusedVariables false
set_option linter.unusedSimpArgs false
set_option maxRecDepth 4000

theorem hdSpell1 (b : Int) (hb : b = 128 ∨ b = 256) (f : Nat) (n : Int) (B gb gc go : Nat) (v : Value) (pre : List UInt8) (w : World) (h0 : 0 ≤ n) (h1 : n < b ^ (f + 1)) (h2 : n ≤ 1099511627776) (h3 : pre.length + f ≤ 1000) (hS : Sp w B b gb gc go v pre) :
    Calls Try.prog 110 #[.int .i64 n, .pointer (some ⟨gb, 0, none⟩), .pointer (some ⟨gc, 0, none⟩), .pointer (some ⟨go, 0, none⟩)] w fun e w' =>
      e = .returned (.tuple #[]) ∧ (∃ v', Sp w' B b gb gc go v' (pre ++ digL b f n)) ∧ Below B w w' := by
  rcases hb with rfl | rfl
  · exact hdSpell128 f n B gb gc go v pre w h0 h1 h2 h3 hS
  · exact hdSpell256 f n B gb gc go v pre w h0 h1 h2 h3 hS

theorem Sp.start (w : World) (b : Int) : Sp (((w.alloc (Obj.cells #[Value.int IntKind.i64 b] 3)).alloc (Obj.cells #[Value.slice none 0 0] 41)).alloc (Obj.cells #[spellV w.heap.size (w.heap.size + 1 + 1) (w.heap.size + 1)] 155)) w.heap.size b w.heap.size (w.heap.size + 1 + 1) (w.heap.size + 1) (.slice none 0 0) [] := by
  have k1 : Blk1 (w.alloc (Obj.cells #[Value.int IntKind.i64 b] 3)) w.heap.size (.int .i64 b) 3 := heap_alloc_new _ _
  have k2 : Blk1 ((w.alloc (Obj.cells #[Value.int IntKind.i64 b] 3)).alloc (Obj.cells #[Value.slice none 0 0] 41)) (w.heap.size + 1) (.slice none 0 0) 41 := by
    have := heap_alloc_new (w.alloc (Obj.cells #[Value.int IntKind.i64 b] 3)) (Obj.cells #[Value.slice none 0 0] 41)
    simpa [Blk1] using this
  have k3 : Blk1 (((w.alloc (Obj.cells #[Value.int IntKind.i64 b] 3)).alloc (Obj.cells #[Value.slice none 0 0] 41)).alloc (Obj.cells #[spellV w.heap.size (w.heap.size + 1 + 1) (w.heap.size + 1)] 155)) (w.heap.size + 1 + 1) (spellV w.heap.size (w.heap.size + 1 + 1) (w.heap.size + 1)) 155 := by
    have := heap_alloc_new ((w.alloc (Obj.cells #[Value.int IntKind.i64 b] 3)).alloc (Obj.cells #[Value.slice none 0 0] 41)) (Obj.cells #[spellV w.heap.size (w.heap.size + 1 + 1) (w.heap.size + 1)] 155)
    simpa [Blk1] using this
  exact ⟨by simp; omega, Nat.le_refl _, by omega, by omega, (k1.alloc _).alloc _, k3, k2.alloc _, Ob.nil _ _ _⟩

set_option maxHeartbeats 800000 in
theorem hdSpell (b : Int) (hb : b = 128 ∨ b = 256) (f : Nat) (n : Int) (w : World) (h0 : 0 ≤ n) (h1 : n < b ^ (f + 1)) (h2 : n ≤ 1099511627776) (h3 : f ≤ 1000) :
    Calls Try.prog 100 #[.int .i64 n, .int .i64 b] w (NewBs w (digL b f n)) := by
  have hS0 := Sp.start w b
  have hB0 : Below w.heap.size w (((w.alloc (Obj.cells #[Value.int IntKind.i64 b] 3)).alloc (Obj.cells #[Value.slice none 0 0] 41)).alloc (Obj.cells #[spellV w.heap.size (w.heap.size + 1 + 1) (w.heap.size + 1)] 155)) := (below_alloc2 w _ _).alloc (by simp; omega) _
  go_enter Try.func100, Try.ntmps100
  go_wp2_with fail
  refine (hdSpell1 b hb f n _ _ _ _ _ [] _ h0 h1 h2 (by simpa using h3) hS0).mono ?_
  rintro e w1 ⟨rfl, ⟨v, hS⟩, hB⟩
  rw [List.nil_append] at hS
  have hob := hS.2.2.2.2.2.2.2
  obtain ⟨A, c, rfl, hc, hbs⟩ := hob.slice
  have co := cell_of_one hS.2.2.2.2.2.2.1
  have hB1 := hB0.trans hB
  clear hS0 hB0 hS hB
  go_wp2
  go_ret
  exact ⟨A, _, c, rfl, hob, hB1⟩

set_option maxHeartbeats 800000 in
theorem hdRight (t : Tg) (w : World) :
    Calls Try.prog 99 #[t.v] w fun e w' => e = .returned (.bool t.rightB) ∧ Below w.heap.size w w' := by
  obtain ⟨tc, tn, tm⟩ := t
  unfold Tg.v
  have fin : Hid (∀ q, q = Tg.rightB ⟨tc, tn, tm⟩ → Ending.returned (.bool q) = .returned (.bool (Tg.rightB ⟨tc, tn, tm⟩))) := by rintro q rfl; rfl
  go_enter Try.func99, Try.ntmps99
  go_wp2
  all_goals
    go_ret
    refine ⟨?_, below_alloc1 _ _⟩
    refine fin.out _ ?_
    rw [Bool.eq_iff_iff]
    simp [Tg.rightB]
    try omega

set_option maxHeartbeats 800000 in
theorem hdOf (n : Int) (w : World) :
    Calls Try.prog 42 #[.int .i64 n] w fun e w' => e = .returned (Tg.v ⟨0, n, n == 16 || n == 17⟩) ∧ Below w.heap.size w w' := by
  unfold Tg.v
  go_enter Try.func42, Try.ntmps42
  by_cases h : n = 16
  · subst h
    go_wp2
    refine bodyPost_ret (v := .agg #[.int .i64 0, .int .i64 16, .bool true]) (by simp [results, Try.results42, go_sem]) rfl ?_
    exact ⟨rfl, below_alloc1 _ _⟩
  · have e1 : (n == 16) = false := by simp; exact h
    go_wp2
    refine bodyPost_ret (v := .agg #[.int .i64 0, .int .i64 n, .bool (n == 17)]) (by simp [results, Try.results42, go_sem, e1]) rfl ?_
    exact ⟨by simp [e1], below_alloc1 _ _⟩

/-- New bytes, and no error. -/
def NewBs2 (w : World) (l : List UInt8) (e : Ending) (w' : World) : Prop :=
  ∃ A n c, e = .returned (.tuple #[.slice A n c, .int .i64 0]) ∧ Ob w' w.heap.size 5 (.slice A n c) l ∧ Below w.heap.size w w'

theorem Bss.new2 {w : World} {A1 A2 : Option Addr} {n1 n2 c1 c2 : Nat} {l1 l2 : List UInt8} (t : TypeId) (h1 : Bs w A1 n1 l1) (h2 : Bs w A2 n2 l2) (k1 : n1 ≤ c1) (k2 : n2 ≤ c2) {m : Nat} (hm : w.heap.size = m) :
    Bss (w.alloc (.cells #[.slice A1 n1 c1, .slice A2 n2 c2] t)) (some ⟨m, 0, none⟩) 2 [l1, l2] := by
  subst hm
  have hb := heap_alloc_new w (.cells #[.slice A1 n1 c1, .slice A2 n2 c2] t)
  refine ⟨rfl, fun i l hl => ?_⟩
  match i, hl with
  | 0, hl => cases hl; exact ⟨_, _, A1, n1, c1, rfl, by rw [blk_cell hb]; rfl, h1.below (below_alloc1 _ _), k1⟩
  | 1, hl => cases hl; exact ⟨_, _, A2, n2, c2, rfl, by rw [blk_cell hb]; rfl, h2.below (below_alloc1 _ _), k2⟩

set_option maxHeartbeats 800000 in
theorem hdLengthNo (n : Int) (w : World) (h : n < 0 ∨ 16777216 < n) :
    Calls Try.prog 85 #[.int .i64 n] w fun e w' => e = .returned (.tuple #[.slice none 0 0, .int .i64 (if n < 0 then 1 else 2)]) ∧ w = w' := by
  go_enter Try.func85, Try.ntmps85
  by_cases h0 : n < 0
  · rw [if_pos h0]
    clear h
    go_wp2
    go_ret2
    exact ⟨rfl, rfl⟩
  · rw [if_neg h0]
    have h1 : 16777216 < n := by omega
    clear h
    go_wp2
    go_ret2
    exact ⟨rfl, rfl⟩

theorem lenB_digL (n : Int) (h0 : 128 ≤ n) (h1 : n ≤ 16777216) : lenB n = u8 (128 + ((digL 256 3 n).length : Int)) :: digL 256 3 n := by
  have e0 : ¬ n < 128 := by omega
  by_cases a1 : n < 256
  · have q1 : ¬ 256 ≤ n := by omega
    have q2 : n % 256 = n := by omega
    simp [lenB, e0, a1, digL, q1, q2]
    rfl
  · by_cases a2 : n < 65536
    · have q1 : 256 ≤ n := by omega
      have q2 : ¬ 256 ≤ n / 256 := by omega
      have q3 : n / 256 % 256 = n / 256 := by omega
      simp [lenB, e0, a1, a2, digL, q1, q2, q3]
      rfl
    · by_cases a3 : n < 16777216
      · have q1 : 256 ≤ n := by omega
        have q2 : 256 ≤ n / 256 := by omega
        have q3 : ¬ 256 ≤ n / 256 / 256 := by omega
        have q4 : n / 256 / 256 % 256 = n / 65536 := by omega
        simp [lenB, e0, a1, a2, a3, digL, q1, q2, q3, q4]
        rfl
      · obtain rfl : n = 16777216 := by omega
        decide

set_option maxHeartbeats 1600000 in
theorem hdLength (n : Int) (w : World) (h0 : 0 ≤ n) (h1 : n ≤ 16777216) :
    Calls Try.prog 85 #[.int .i64 n] w (NewBs2 w (lenB n)) := by
  go_enter Try.func85, Try.ntmps85
  by_cases h2 : n < 128
  · have hR : Hid (lenB n = [u8 n]) := by unfold Hid lenB; rw [if_pos h2]
    have hob := Ob.lit w w.heap.size 5 [u8 n] #[.int .u8 n] (Nat.le_refl _) (by simp [byteV_u8 n h0 (by omega)]) (by simp)
    go_wp2
    go_ret2
    rw [hR.out]
    exact ⟨_, _, _, rfl, hob, below_alloc1 _ _⟩
  · have hR := Lib.hid (lenB_digL n (by omega) h1)
    have hpw : n < 256 ^ (3 + 1) := by omega
    have HP := Lib.hid hpw
    clear hpw
    go_wp2_with fail
    refine (hdSpell 256 (.inr rfl) 3 n _ h0 HP.out (by omega) (by omega)).mono ?_
    rintro e w1 ⟨A, m, c, rfl, hob, hB⟩
    obtain ⟨hbs, hmc⟩ := hob.bs
    have hlen := hbs.len
    have hle := digL_len 256 3 n
    rw [hlen] at hR hle
    have hw8 : IntKind.u8.wrap (128 + (m : Int)) = 128 + (m : Int) := by rw [IntKind.wrap_u8]; omega
    have hBss := Bss.new2 41 (Bs.new1 w1 (u8 (128 + (m : Int))) (128 + (m : Int)) 5 (u8_val _ (by omega) (by omega))) (hbs.below (below_alloc1 w1 (Obj.cells #[Value.int IntKind.u8 (128 + (m : Int))] 5))) (c1 := 1) (Nat.le_refl _) hmc (m := w1.heap.size + 1) (by simp)
    go_wp2_with fail
    refine (octJoin _ _ _ _ _ hBss (by omega) (by simp; omega)).mono ?_
    rintro e w2 ⟨A2, m2, c2, rfl, hob2, hB2⟩
    have hB1 : Below w.heap.size w w2 := ((hB.alloc hB.size _).alloc (by have := hB.size; simp; omega) _).trans (Below.mono hB2 (by have := hB.size; simp; omega))
    have hob3 := hob2.mono (base' := w.heap.size) (by have := hB.size; simp; omega)
    clear hob2 hB2 hBss hob hbs hB
    go_wp2
    go_ret2
    rw [hR.out]
    exact ⟨A2, m2, c2, rfl, by simpa using hob3, hB1⟩

end Go.Proofs.Ytbhfaakhcnkegaa
