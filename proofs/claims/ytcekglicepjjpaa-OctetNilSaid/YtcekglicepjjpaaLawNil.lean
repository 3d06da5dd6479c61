/-
  OctetNil: for any call on a nil cursor, quittancelaw01.OctetNil returns true and changes nothing that was there.
-/
import Derived.Test.YtcekglicepjjpaaKnown
namespace Go.Proofs.Ytcekglicepjjpaa
open Go.RowKit
set_option linter.unusedVariables false
set_option linter.unusedSimpArgs false

set_option maxRecDepth 100000 in
set_option maxHeartbeats 800000 in
theorem doNil0 (N : Int) (w : World) :
    Calls Try.prog 12 #[.pointer none, .agg #[.int .i64 0, .int .i64 N]] w fun e w' => e = .returned (.agg #[.int .i64 0, .slice none 0 0, .int .i64 0]) ∧ Below w.heap.size w w' := by
  go_enter Try.func12, Try.ntmps12
  go_wp2_with fail
  refine (curLeft0 _).mono ?_
  rintro e w1 ⟨rfl, rfl⟩
  go_wp2
  exact bodyPost_ret (v := .agg #[.int .i64 0, .slice none 0 0, .int .i64 0]) (by simp [results, Try.results12, go_sem]) rfl ⟨rfl, ((Below.refl _ _).alloc (Nat.le_refl _) _).alloc (by simp) _⟩

set_option maxRecDepth 100000 in
set_option maxHeartbeats 800000 in
theorem doNil1 (N : Int) (w : World) :
    Calls Try.prog 12 #[.pointer none, .agg #[.int .i64 1, .int .i64 N]] w fun e w' => e = .returned (.agg #[.int .i64 0, .slice none 0 0, .int .i64 0]) ∧ Below w.heap.size w w' := by
  go_enter Try.func12, Try.ntmps12
  go_wp2_with fail
  refine (curAt0 _).mono ?_
  rintro e w1 ⟨rfl, rfl⟩
  go_wp2
  exact bodyPost_ret (v := .agg #[.int .i64 0, .slice none 0 0, .int .i64 0]) (by simp [results, Try.results12, go_sem]) rfl ⟨rfl, ((Below.refl _ _).alloc (Nat.le_refl _) _).alloc (by simp) _⟩

set_option maxRecDepth 100000 in
set_option maxHeartbeats 800000 in
theorem doNil2 (N : Int) (w : World) :
    Calls Try.prog 12 #[.pointer none, .agg #[.int .i64 2, .int .i64 N]] w fun e w' => e = .returned (.agg #[.int .i64 0, .slice none 0 0, .int .i64 17]) ∧ Below w.heap.size w w' := by
  go_enter Try.func12, Try.ntmps12
  go_wp2_with fail
  refine (curPeek0 _).mono ?_
  rintro e w1 ⟨rfl, rfl⟩
  go_wp2
  exact bodyPost_ret (v := .agg #[.int .i64 0, .slice none 0 0, .int .i64 17]) (by simp [results, Try.results12, go_sem]) rfl ⟨rfl, ((Below.refl _ _).alloc (Nat.le_refl _) _).alloc (by simp) _⟩

set_option maxRecDepth 100000 in
set_option maxHeartbeats 800000 in
theorem doNil3 (N : Int) (w : World) :
    Calls Try.prog 12 #[.pointer none, .agg #[.int .i64 3, .int .i64 N]] w fun e w' => e = .returned (.agg #[.int .i64 0, .slice none 0 0, .int .i64 17]) ∧ Below w.heap.size w w' := by
  go_enter Try.func12, Try.ntmps12
  go_wp2_with fail
  refine (curByte0 _).mono ?_
  rintro e w1 ⟨rfl, rfl⟩
  go_wp2
  exact bodyPost_ret (v := .agg #[.int .i64 0, .slice none 0 0, .int .i64 17]) (by simp [results, Try.results12, go_sem]) rfl ⟨rfl, ((Below.refl _ _).alloc (Nat.le_refl _) _).alloc (by simp) _⟩

set_option maxRecDepth 100000 in
set_option maxHeartbeats 800000 in
theorem doNil4 (N : Int) (w : World) :
    Calls Try.prog 12 #[.pointer none, .agg #[.int .i64 4, .int .i64 N]] w fun e w' => e = .returned (.agg #[.int .i64 0, .slice none 0 0, .int .i64 17]) ∧ Below w.heap.size w w' := by
  go_enter Try.func12, Try.ntmps12
  go_wp2_with fail
  refine (curTake0 _ _).mono ?_
  rintro e w1 ⟨rfl, rfl⟩
  go_wp2
  exact bodyPost_ret (v := .agg #[.int .i64 0, .slice none 0 0, .int .i64 17]) (by simp [results, Try.results12, go_sem]) rfl ⟨rfl, ((Below.refl _ _).alloc (Nat.le_refl _) _).alloc (by simp) _⟩

set_option maxRecDepth 100000 in
set_option maxHeartbeats 800000 in
theorem doNil5 (N : Int) (w : World) :
    Calls Try.prog 12 #[.pointer none, .agg #[.int .i64 5, .int .i64 N]] w fun e w' => e = .returned (.agg #[.int .i64 0, .slice none 0 0, .int .i64 17]) ∧ Below w.heap.size w w' := by
  go_enter Try.func12, Try.ntmps12
  go_wp2_with fail
  refine (curSub0 _ _).mono ?_
  rintro e w1 ⟨rfl, rfl⟩
  go_wp2_with fail
  refine (curRest0 _).mono ?_
  rintro e w2 ⟨rfl, rfl⟩
  go_wp2
  exact bodyPost_ret (v := .agg #[.int .i64 0, .slice none 0 0, .int .i64 17]) (by simp [results, Try.results12, go_sem]) rfl ⟨rfl, ((Below.refl _ _).alloc (Nat.le_refl _) _).alloc (by simp) _⟩

set_option maxRecDepth 100000 in
set_option maxHeartbeats 800000 in
theorem doNil6 (N : Int) (w : World) :
    Calls Try.prog 12 #[.pointer none, .agg #[.int .i64 6, .int .i64 N]] w fun e w' => e = .returned (.agg #[.int .i64 0, .slice none 0 0, .int .i64 0]) ∧ Below w.heap.size w w' := by
  go_enter Try.func12, Try.ntmps12
  go_wp2_with fail
  refine (curRest0 _).mono ?_
  rintro e w1 ⟨rfl, rfl⟩
  go_wp2
  exact bodyPost_ret (v := .agg #[.int .i64 0, .slice none 0 0, .int .i64 0]) (by simp [results, Try.results12, go_sem]) rfl ⟨rfl, ((Below.refl _ _).alloc (Nat.le_refl _) _).alloc (by simp) _⟩

set_option maxRecDepth 100000 in
set_option maxHeartbeats 800000 in
theorem doNil7 (N : Int) (w : World) :
    Calls Try.prog 12 #[.pointer none, .agg #[.int .i64 7, .int .i64 N]] w fun e w' => e = .returned (.agg #[.int .i64 0, .slice none 0 0, .int .i64 17]) ∧ Below w.heap.size w w' := by
  go_enter Try.func12, Try.ntmps12
  go_wp2_with fail
  refine (curBack0 _ _).mono ?_
  rintro e w1 ⟨rfl, rfl⟩
  go_wp2
  exact bodyPost_ret (v := .agg #[.int .i64 0, .slice none 0 0, .int .i64 17]) (by simp [results, Try.results12, go_sem]) rfl ⟨rfl, ((Below.refl _ _).alloc (Nat.le_refl _) _).alloc (by simp) _⟩

theorem kind8 (k : Int) : 0 ≤ wrap64 ((IntKind.u64.wrap k).tmod 8) ∧ wrap64 ((IntKind.u64.wrap k).tmod 8) < 8 := by
  have h1 : 0 ≤ IntKind.u64.wrap k := by simp [IntKind.wrap, IntKind.bits, IntKind.signed]; omega
  have h2 : (IntKind.u64.wrap k).tmod 8 = IntKind.u64.wrap k % 8 := Int.tmod_eq_emod_of_nonneg h1
  rw [h2]
  have h3 : wrap64 (IntKind.u64.wrap k % 8) = IntKind.u64.wrap k % 8 := by unfold wrap64; omega
  rw [h3]; omega

def nilErr (K : Int) : Int := if K < 2 ∨ K = 6 then 0 else 17

theorem doNil (K N : Int) (w : World) (h0 : 0 ≤ K) (h8 : K < 8) :
    Calls Try.prog 12 #[.pointer none, .agg #[.int .i64 K, .int .i64 N]] w fun e w' => e = .returned (.agg #[.int .i64 0, .slice none 0 0, .int .i64 (nilErr K)]) ∧ Below w.heap.size w w' := by
  have h : K = 0 ∨ K = 1 ∨ K = 2 ∨ K = 3 ∨ K = 4 ∨ K = 5 ∨ K = 6 ∨ K = 7 := by omega
  rcases h with rfl | rfl | rfl | rfl | rfl | rfl | rfl | rfl
  · exact doNil0 N w
  · exact doNil1 N w
  · exact doNil2 N w
  · exact doNil3 N w
  · exact doNil4 N w
  · exact doNil5 N w
  · exact doNil6 N w
  · exact doNil7 N w

set_option maxRecDepth 100000 in
set_option maxHeartbeats 800000 in
theorem lawNil (k n : Int) (w : World) (hk : (Lit.int .i64 k).wf = true) :
    Calls Try.prog 4 #[.agg #[.int .i64 k, .int .i64 n]] w fun e w' => e = .returned (.bool true) ∧ Below w.heap.size w w' := by
  go_enter Try.func4, Try.ntmps4
  go_wp2_with fail
  have hK0 : 0 ≤ wrap64 ((IntKind.u64.wrap k).tmod 8) ∧ wrap64 ((IntKind.u64.wrap k).tmod 8) < 8 := kind8 k
  generalize wrap64 ((IntKind.u64.wrap k).tmod 8) = K at *
  obtain ⟨hK0, hK8⟩ := hK0
  refine (doNil K n _ hK0 hK8).mono ?_
  rintro e w1 ⟨rfl, b1⟩
  have c0 : w1.cell? ⟨w.heap.size, 0, none⟩ = some (.int .i64 K) := (b1.cell (by simp)).trans (by simp [World.cell?_alloc_new])
  have hsz : w.heap.size < w1.heap.size := by have := b1.size; simp at this; omega
  have B1 : Below w.heap.size w w1 := ((Below.refl _ _).alloc (Nat.le_refl _) _).trans (b1.mono (by simp))
  have fin : ∀ (E : Int) (w2 : World), Below (w1.alloc (.cells #[.int .i64 0, .slice none 0 0, .int .i64 E] 34)).heap.size (w1.alloc (.cells #[.int .i64 0, .slice none 0 0, .int .i64 E] 34)) w2 →
      w2.cell? ⟨w1.heap.size, 0, none⟩ = some (.int .i64 0) ∧ w2.cell? ⟨w1.heap.size, 1, none⟩ = some (.slice none 0 0) ∧ w2.cell? ⟨w1.heap.size, 2, none⟩ = some (.int .i64 E) ∧ Below w.heap.size w w2 := by
    intro E w2 b2
    refine ⟨(b2.cell (by simp)).trans (by simp [World.cell?_alloc_new]), (b2.cell (by simp)).trans (by simp [World.cell?_alloc_new]), (b2.cell (by simp)).trans (by simp [World.cell?_alloc_new]), ?_⟩
    exact (B1.alloc B1.size _).trans (b2.mono (by have := B1.size; simp; omega))
  have FIN := Lib.hid fin; clear fin
  by_cases h2 : K < 2
  · have e1 : decide (K < 2) = true := by simp; omega
    have e2 : nilErr K = 0 := by unfold nilErr; rw [if_pos (.inl h2)]
    rw [e2]
    clear e2
    go_wp2_with fail
    refine (known1 _).mono ?_
    rintro e w2 ⟨rfl, b2⟩
    obtain ⟨f0, f1, f2, B2⟩ := FIN.out _ _ b2
    clear b2 b1 B1 c0
    go_wp2
    go_ret
    exact ⟨rfl, B2⟩
  · have e1 : decide (K < 2) = false := by simp; omega
    by_cases h6 : K = 6
    · have e2 : nilErr K = 0 := by unfold nilErr; rw [if_pos (.inr h6)]
      have e3 : (K == 6) = true := by rw [beq_iff_eq]; omega
      rw [e2]
      clear e2 h6
      go_wp2_with fail
      refine (known1 _).mono ?_
      rintro e w2 ⟨rfl, b2⟩
      obtain ⟨f0, f1, f2, B2⟩ := FIN.out _ _ b2
      clear b2 b1 B1 c0
      go_wp2
      go_ret
      exact ⟨rfl, B2⟩
    · have e2 : nilErr K = 17 := by unfold nilErr; rw [if_neg (by omega)]
      have e3 : (K == 6) = false := by rw [beq_eq_false_iff_ne]; omega
      rw [e2]
      clear e2 h6
      go_wp2_with fail
      refine (known1 _).mono ?_
      rintro e w2 ⟨rfl, b2⟩
      obtain ⟨f0, f1, f2, B2⟩ := FIN.out _ _ b2
      clear b2 b1 B1 c0
      go_wp2
      go_ret
      exact ⟨rfl, B2⟩
end Go.Proofs.Ytcekglicepjjpaa
