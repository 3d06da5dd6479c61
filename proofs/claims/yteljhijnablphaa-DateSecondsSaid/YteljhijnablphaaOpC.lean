/-
  What a moment that came in reads as: six ints.
-/
import Derived.Test.YteljhijnablphaaRows
import Derived.Test.YteljhijnablphaaOpen
namespace Go.Proofs.Yteljhijnablphaa
open Go.RowKit Go.ChangeShapes Go.WideShapes Go.Joins
set_option linter.unusedVariables false
set_option linter.unusedSimpArgs false
set_option maxRecDepth 4000

theorem array6 {α : Type} {cs : Array α} (h : cs.size = 6) : ∃ c0 c1 c2 c3 c4 c5, cs = #[c0, c1, c2, c3, c4, c5] := by
  obtain ⟨l⟩ := cs
  match l, h with
  | [c0, c1, c2, c3, c4, c5], _ => exact ⟨c0, c1, c2, c3, c4, c5, rfl⟩
theorem cells6 : Try.prog.cellsOf 42 = 6 := by kernel_rfl
theorem cells3 : Try.prog.cellsOf 23 = 3 := by kernel_rfl
theorem cells1 : Try.prog.cellsOf 3 = 1 := by kernel_rfl

theorem open_clock {H : Type} {enc : TypeId × Value → H} {w : World} {r : Reach} {b0 base : Nat} {spare : Nat → Bool} {held : Bool} {v : Value} {d : DataW H} {p : List MemPlace}
    (hv : Value.okWide Try.prog w r b0 42 v) (h : DataW.Trod enc Try.prog w base spare held 42 v d p) :
    ∃ x0 x1 x2 x3 x4 x5 : Int, v = .agg #[.int .i64 x0, .int .i64 x1, .int .i64 x2, .int .i64 x3, .int .i64 x4, .int .i64 x5] ∧
      (Lit.int .i64 x0).wf = true ∧ (Lit.int .i64 x1).wf = true ∧ (Lit.int .i64 x2).wf = true ∧ (Lit.int .i64 x3).wf = true ∧ (Lit.int .i64 x4).wf = true ∧ (Lit.int .i64 x5).wf = true := by
  obtain ⟨cs, rfl, hsz⟩ := okWide_struct Try.underlying42 hv
  obtain ⟨c0, c1, c2, c3, c4, c5, rfl⟩ := array6 (hsz.trans cells6)
  obtain ⟨fuel, hf⟩ := h
  obtain ⟨y0, y1, y2, y3, n, _, _, h0, h1, h2, h3⟩ := trod_struct4 Try.underlying42 hf
  simp [Value.cells, cells3, cells1] at h0 h1 h2 h3
  obtain ⟨z0, z1, z2, n2, _, _, g0, g1, g2⟩ := Deep.trod_struct3 Try.underlying23 h0
  simp [cells1] at g0 g1 g2
  obtain ⟨x0, e0, _, w0⟩ := DataW.trod_int Try.underlying3 g0
  obtain ⟨x1, e1, _, w1⟩ := DataW.trod_int Try.underlying3 g1
  obtain ⟨x2, e2, _, w2⟩ := DataW.trod_int Try.underlying3 g2
  obtain ⟨x3, e3, _, w3⟩ := DataW.trod_int Try.underlying3 h1
  obtain ⟨x4, e4, _, w4⟩ := DataW.trod_int Try.underlying3 h2
  obtain ⟨x5, e5, _, w5⟩ := DataW.trod_int Try.underlying3 h3
  simp at e0 e1 e2 e3 e4 e5
  exact ⟨x0, x1, x2, x3, x4, x5, by rw [e0, e1, e2, e3, e4, e5], w0, w1, w2, w3, w4, w5⟩
end Go.Proofs.Yteljhijnablphaa
