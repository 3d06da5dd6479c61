/-
  A call on both cursors: the same answer, the same place.
-/
import Derived.Test.YtcekglicepjjpaaPlayRefB
import Derived.Test.YtcekglicepjjpaaPlayRefC
import Derived.Test.YtcekglicepjjpaaJoin
namespace Go.Proofs.Ytcekglicepjjpaa
open Go.RowKit
set_option linter.unusedVariables false
set_option linter.unusedSimpArgs false

theorem both (l : List UInt8) (k : Nat) (hk : k ≤ l.length) (K N : Int) (h0 : 0 ≤ K) (h8 : K < 8) : ∃ (rN : Int) (rB : List UInt8) (rE : Int) (rk : Nat), rk ≤ l.length ∧ rB.length ≤ l.length ∧
    (∀ (g : Nat) (s : Value) (w : World), Cur w g s l k → Calls Try.prog 12 #[.pointer (some ⟨g, 0, none⟩), .agg #[.int .i64 K, .int .i64 N]] w (DoOk w g s l rN rB rE rk)) ∧
    (∀ (g : Nat) (s : Value) (w : World), Cur w g s l k → Calls Try.prog 13 #[.pointer (some ⟨g, 0, none⟩), .agg #[.int .i64 K, .int .i64 N]] w (RefOk w g s l rN rB rE rk)) := by
  have h : K = 0 ∨ K = 1 ∨ K = 2 ∨ K = 3 ∨ K = 4 ∨ K = 5 ∨ K = 6 ∨ K = 7 := by omega
  rcases h with rfl | rfl | rfl | rfl | rfl | rfl | rfl | rfl
  · exact ⟨_, _, _, _, hk, by simp, fun g s w h => do0 g k N l w h, fun g s w h => rf0 g k N l w h⟩
  · exact ⟨_, _, _, _, hk, by simp, fun g s w h => do1 g k N l w h, fun g s w h => rf1 g k N l w h⟩
  · by_cases he : k = l.length
    · subst he
      exact ⟨_, _, _, _, hk, by simp, fun g s w h => do2e g 0 N l w h, fun g s w h => rf2e g 0 N l w h⟩
    · exact ⟨_, _, _, _, hk, by simp, fun g s w h => do2 g k N l w h (by omega), fun g s w h => rf2 g k N l w h (by omega)⟩
  · by_cases he : k = l.length
    · subst he
      exact ⟨_, _, _, _, hk, by simp, fun g s w h => do3e g 0 N l w h, fun g s w h => rf3e g 0 N l w h⟩
    · exact ⟨_, _, _, k + 1, by omega, by simp, fun g s w h => do3 g k N l w h (by omega), fun g s w h => rf3 g k N l w h (by omega)⟩
  · by_cases he : N < 0 ∨ (l.length : Int) - k < N
    · exact ⟨_, _, _, _, hk, by simp, fun g s w h => do4n g k _ N l w h he rfl, fun g s w h => rf4n g k _ N l w h he rfl⟩
    · exact ⟨_, _, _, k + N.toNat, by omega, by simp; omega, fun g s w h => do4 g k N.toNat N l w h (by omega) (by omega), fun g s w h => rf4 g k N.toNat N l w h (by omega) (by omega)⟩
  · by_cases he : N < 0 ∨ (l.length : Int) - k < N
    · exact ⟨_, _, _, _, hk, by simp, fun g s w h => do5n g k _ N l w h he rfl, fun g s w h => rf5n g k _ N l w h he rfl⟩
    · exact ⟨_, _, _, k + N.toNat, by omega, by simp; omega, fun g s w h => do5 g k N.toNat N l w h (by omega) (by omega), fun g s w h => rf5 g k N.toNat N l w h (by omega) (by omega)⟩
  · exact ⟨_, _, _, _, Nat.le_refl _, by simp, fun g s w h => do6 g k N l w h, fun g s w h => rf6 g k N l w h⟩
  · by_cases he : N < 0 ∨ (k : Int) < N
    · exact ⟨_, _, _, _, hk, by simp, fun g s w h => do7n g k N l w h he, fun g s w h => rf7n g k N l w h he⟩
    · exact ⟨_, _, _, N.toNat, by omega, by simp, fun g s w h => do7 g k N.toNat N l w h (by omega) (by omega), fun g s w h => rf7 g k N.toNat N l w h (by omega) (by omega)⟩

end Go.Proofs.Ytcekglicepjjpaa
