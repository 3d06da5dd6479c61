/-
  A whole's contents at a place of any bytes, as the document says them, and the calls of the reference that answer so.
-/
import Derived.Test.YtbhfaakhcnkegaaLen
namespace Go.Proofs.Ytbhfaakhcnkegaa
open Go.RowKit
set_option linter.unusedVariables false
set_option linter.unusedSimpArgs false
set_option maxRecDepth 4000

theorem bign_nonneg (l : List UInt8) : ∀ (f p : Nat) (z : Int), 0 ≤ z → 0 ≤ bign l p f z := by
  intro f
  induction f with
  | zero => intro p z hz; exact hz
  | succ f ih => intro p z hz; unfold bign; exact ih _ _ (by have := nth_bound l p; omega)
theorem rLen_ok (l : List UInt8) (k : Nat) (h : (rLen l k).2.2 = 0) : 0 ≤ (rLen l k).1 ∧ (rLen l k).1 ≤ 16777216 ∧ (rLen l k).2.1 ≤ l.length := by
  have hb := nth_bound l k
  have hg := bign_nonneg l (nth l k - 128).toNat (k + 1) 0 (by omega)
  unfold rLen at *
  split at h
  · simp at h
  · split at h
    · rename_i h0 h1
      simp only [h0, h1, if_true, if_false]
      refine ⟨by omega, by omega, ?_⟩
      show k + 1 ≤ _; omega
    · split at h
      · simp at h
      · split at h
        · simp at h
        · split at h
          · simp at h
          · split at h
            · simp at h
            · rename_i h0 h1 h2 h3 h4 h5
              simp only [h0, h1, h2, h3, h4, h5, if_true, if_false]
              refine ⟨hg, by omega, ?_⟩
              show k + _ + 1 ≤ _; omega
theorem rHead_ok (l : List UInt8) (k : Nat) (h : (rHead l k).2.2.2 = 0) : 0 ≤ (rHead l k).2.1 ∧ (rHead l k).2.1 ≤ 16777216 ∧ (rHead l k).2.2.1 ≤ l.length := by
  unfold rHead at *
  split at h
  · rename_i h1
    split at h
    · rename_i h2
      simp only [h1, h2, if_true]
      exact rLen_ok _ _ h2
    · rename_i h2
      exact absurd h h2
  · rename_i h1
    exact absurd h h1

/-- The contents at place k if the tag is t, the place behind them, the error's number. -/
def rOpen (l : List UInt8) (k : Nat) (t : Tg) : List UInt8 × Nat × Int :=
  if (rHead l k).2.2.2 = 0 then
    (if (rHead l k).1 = t then
      (if (l.length : Int) - (rHead l k).2.2.1 < (rHead l k).2.1 then ([], k, 3)
       else ((l.drop (rHead l k).2.2.1).take (rHead l k).2.1.toNat, (rHead l k).2.2.1 + (rHead l k).2.1.toNat, 0))
     else ([], k, 4))
  else ([], k, (rHead l k).2.2.2)

def OpenV (w : World) (r : List UInt8 × Nat × Int) (e : Ending) (w' : World) : Prop :=
  ∃ A n c, e = .returned (.tuple #[.slice A n c, .int .i64 (r.2.1 : Int), .int .i64 r.2.2]) ∧ Bs w' A n r.1 ∧ n ≤ c ∧ Below w.heap.size w w'

/-- The contents of bytes that are one whole. -/
def rAlone (l : List UInt8) (t : Tg) : List UInt8 × Int :=
  if (rOpen l 0 t).2.2 = 0 then (if (rOpen l 0 t).2.1 < l.length then ([], 7) else ((rOpen l 0 t).1, 0)) else ([], (rOpen l 0 t).2.2)
def AloneV (w : World) (r : List UInt8 × Int) (e : Ending) (w' : World) : Prop :=
  ∃ A n c, e = .returned (.tuple #[.slice A n c, .int .i64 r.2]) ∧ Bs w' A n r.1 ∧ n ≤ c ∧ Below w.heap.size w w'

end Go.Proofs.Ytbhfaakhcnkegaa
