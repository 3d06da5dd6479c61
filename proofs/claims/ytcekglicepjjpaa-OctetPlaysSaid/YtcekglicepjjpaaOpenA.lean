/-
  A list of calls as an argument.
-/
import Derived.Test.YtcekglicepjjpaaOpen
namespace Go.Proofs.Ytcekglicepjjpaa
open Go.RowKit Go.ChangeShapes Go.WideShapes Go.Joins
set_option linter.unusedVariables false
set_option linter.unusedSimpArgs false

/-- The slice at A, of length n, reads as calls: two ints each. -/
def Acts (w : World) (A : Option Addr) (n : Nat) : Prop :=
  ∀ i, i < n → ∃ b o x y, A = some ⟨b, o, none⟩ ∧ w.cell? ⟨b, o + i * 2, none⟩ = some (.int .i64 x) ∧ w.cell? ⟨b, o + i * 2 + 1, none⟩ = some (.int .i64 y)

section
variable {H : Type} {enc : TypeId × Value → H} {P : Program} {w : World} {held : Bool}
theorem trod_acts {t e : TypeId} {f0 f1 : Field} {fuel : Nat} {cs : List Value} {x : DataW H × List MemPlace} (ht : P.underlying t = some (.slice e)) (he : P.underlying e = some (.struct #[f0, f1])) (o0 : f0.offset = 0) (o1 : f1.offset = 1)
    (u0 : P.underlying f0.type = some (.int .i64)) (u1 : P.underlying f1.type = some (.int .i64)) (hc : P.cellsOf e = 2) (c0 : P.cellsOf f0.type = 1) (c1 : P.cellsOf f1.type = 1)
    (h : DataW.trod enc P w 0 (fun _ => true) held fuel t cs = some x) : ∃ A n c, cs = [.slice A n c] ∧ Acts w A n := by
  rcases Deep.open_slice ht h with ⟨hcs, _⟩ | ⟨a, len, cap, m, n, D, Pl, hcs, _, hl, hm, hmm, _, hel⟩
  · exact ⟨none, 0, 0, hcs, fun i hi => by omega⟩
  · simp only [if_true] at hmm
    rw [hc] at hel
    refine ⟨some a, len, cap, hcs, fun i hi => ?_⟩
    have key : ∀ i, i < len → ∃ x y : Int, w.cell? (a.add (i * 2)) = some (.int .i64 x) ∧ w.cell? ((a.add (i * 2)).add 1) = some (.int .i64 y) := by
      intro j hj
      obtain ⟨cs', hcs', htr⟩ := hel j (by omega)
      obtain ⟨_, hlen, hcells⟩ := World.cells?_some hcs'
      obtain ⟨y0, y1, n', _, _, t0, t1⟩ := trod_struct2 he htr
      rw [o0, c0] at t0
      rw [o1, c1] at t1
      match cs', hlen with
      | [p, q], _ =>
        obtain ⟨x, e0, _, _⟩ := DataW.trod_int u0 t0
        obtain ⟨y, e1, _, _⟩ := DataW.trod_int u1 t1
        simp at e0 e1
        subst e0 e1
        have h0 := hcells 0 (by omega)
        have h1 := hcells 1 (by omega)
        simp at h0 h1
        refine ⟨x, y, ?_, h1⟩
        have : (a.add (j * 2)).add 0 = a.add (j * 2) := by simp [Addr.add]
        rw [this] at h0
        exact h0
    obtain ⟨b, o, sp⟩ := a
    have hsp : sp = none := by
      obtain ⟨x, y, h0, _⟩ := key 0 (by omega)
      have := World.cell?_spot h0
      simpa [Addr.add] using this
    subst hsp
    obtain ⟨x, y, h0, h1⟩ := key i hi
    rw [Addr.add_none] at h0 h1
    rw [Addr.add_none] at h1
    exact ⟨b, o, x, y, rfl, h0, h1⟩
end
end Go.Proofs.Ytcekglicepjjpaa
