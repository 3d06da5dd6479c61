/-
  A list of spans as an argument.
-/
import Derived.Test.YtlmmoinmlcpmnaaSe
import Derived.Test.YtlmmoinmlcpmnaaOpen
namespace Go.Proofs.Ytlmmoinmlcpmnaa
open Go.RowKit Go.ChangeShapes Go.WideShapes Go.Joins
set_option linter.unusedVariables false
set_option linter.unusedSimpArgs false
set_option maxRecDepth 4000

section
variable {H : Type} {enc : TypeId × Value → H} {P : Program} {w : World} {held : Bool}
theorem trod_spans {t e : TypeId} {f0 f1 : Field} {fuel : Nat} {cs : List Value} {x : DataW H × List MemPlace} (ht : P.underlying t = some (.slice e)) (he : P.underlying e = some (.struct #[f0, f1])) (o0 : f0.offset = 0) (o1 : f1.offset = 1)
    (u0 : P.underlying f0.type = some (.int .i64)) (u1 : P.underlying f1.type = some (.int .i64)) (hc : P.cellsOf e = 2) (c0 : P.cellsOf f0.type = 1) (c1 : P.cellsOf f1.type = 1)
    (h : DataW.trod enc P w 0 (fun _ => true) held fuel t cs = some x) : ∃ A n c l, cs = [.slice A n c] ∧ Sps w A n l ∧ ∀ s ∈ l, I64s s := by
  rcases Deep.open_slice ht h with ⟨hcs, _⟩ | ⟨a, len, cap, m, n, D, Pl, hcs, _, hl, hm, hmm, _, hel⟩
  · exact ⟨none, 0, 0, [], hcs, Sps.nil _ _, by simp⟩
  · simp only [if_true] at hmm
    rw [hc] at hel
    have key : ∀ i, i < len → ∃ s : Sp, (w.cell? (a.add (i * 2)) = some (.int .i64 s.1) ∧ w.cell? ((a.add (i * 2)).add 1) = some (.int .i64 s.2)) ∧ I64s s := by
      intro j hj
      obtain ⟨cs', hcs', htr⟩ := hel j (by omega)
      obtain ⟨_, hlen, hcells⟩ := World.cells?_some hcs'
      obtain ⟨y0, y1, n', _, _, t0, t1⟩ := trod_struct2 he htr
      rw [o0, c0] at t0
      rw [o1, c1] at t1
      match cs', hlen with
      | [p, q], _ =>
        obtain ⟨x, e0, _, wx⟩ := DataW.trod_int u0 t0
        obtain ⟨y, e1, _, wy⟩ := DataW.trod_int u1 t1
        simp at e0 e1
        subst e0 e1
        have h0 := hcells 0 (by omega)
        have h1 := hcells 1 (by omega)
        simp at h0 h1
        refine ⟨(x, y), ⟨?_, h1⟩, bounds_i64 wx, bounds_i64 wy⟩
        have : (a.add (j * 2)).add 0 = a.add (j * 2) := by simp [Addr.add]
        rw [this] at h0
        exact h0
    obtain ⟨f, hf⟩ := Deep.choose_lt key
    obtain ⟨b, o, sp⟩ := a
    refine ⟨some ⟨b, o, sp⟩, len, cap, (List.range len).map f, hcs, ⟨by simp, fun i t hi => ?_⟩, ?_⟩
    · rw [List.getElem?_map] at hi
      obtain ⟨j, hj, rfl⟩ := Option.map_eq_some_iff.1 hi
      obtain ⟨h2, h3⟩ := List.getElem?_eq_some_iff.1 hj
      simp at h2 h3
      subst h3
      obtain ⟨⟨k0, k1⟩, _⟩ := hf i h2
      have hsp : sp = none := by
        obtain ⟨⟨z0, _⟩, _⟩ := hf 0 (by omega)
        have := World.cell?_spot z0
        simpa [Addr.add] using this
      subst hsp
      rw [Addr.add_none] at k0 k1
      rw [Addr.add_none] at k1
      exact ⟨b, o, rfl, k0, k1⟩
    · intro s hs
      obtain ⟨j, hj, rfl⟩ := List.mem_map.1 hs
      exact (hf j (by simpa using hj)).2
end
end Go.Proofs.Ytlmmoinmlcpmnaa
