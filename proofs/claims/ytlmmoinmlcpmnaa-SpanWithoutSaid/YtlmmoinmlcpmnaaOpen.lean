/-
  What a law's arguments read as, in the words of the contracts: bytes, rows of bytes, ints, calls.
-/
import Derived.Test.YtlmmoinmlcpmnaaBase
import Derived.Deep.Slices
import Derived.Lib.SmallJoins
import Derived.ProofKit
import Derived.ChangeOld
namespace Go.Proofs.Ytlmmoinmlcpmnaa
open Go.RowKit Go.ChangeShapes Go.WideShapes Go.Joins
set_option linter.unusedVariables false
set_option linter.unusedSimpArgs false
set_option maxRecDepth 4000

section
variable {H : Type} {enc : TypeId × Value → H} {P : Program} {w : World} {held : Bool}

theorem trod_row {k : IntKind} {t e : TypeId} {fuel : Nat} {A : Option Addr} {n c : Nat} {x : DataW H × List MemPlace} (ht : P.underlying t = some (.slice e)) (he : P.underlying e = some (.int k)) (hc : P.cellsOf e = 1)
    (h : DataW.trod enc P w 0 (fun _ => true) held fuel t [.slice A n c] = some x) : ∃ zs, IsRow k w A n c zs := by
  rcases open_ints ht he hc h with ⟨hcs, _⟩ | ⟨x, l, c', zs, hcs, _, hl, hm, hz, _, hcell, hwz⟩
  · simp at hcs
    obtain ⟨rfl, rfl, rfl⟩ := hcs
    exact ⟨[], .inl ⟨rfl, rfl, rfl, rfl⟩⟩
  · simp at hcs
    obtain ⟨rfl, rfl, rfl⟩ := hcs
    exact ⟨zs, .inr ⟨_, rfl, hl, hm, by simpa using hz, hcell, hwz⟩⟩

theorem trod_slice_form {t e : TypeId} {fuel : Nat} {cs : List Value} {x : DataW H × List MemPlace} (ht : P.underlying t = some (.slice e))
    (h : DataW.trod enc P w 0 (fun _ => true) held fuel t cs = some x) : ∃ A n c, cs = [.slice A n c] := by
  rcases Deep.open_slice ht h with ⟨hcs, _⟩ | ⟨a, len, cap, m, n, D, Pl, hcs, _⟩
  · exact ⟨_, _, _, hcs⟩
  · exact ⟨_, _, _, hcs⟩

theorem trod_bytes {t e : TypeId} {fuel : Nat} {cs : List Value} {x : DataW H × List MemPlace} (ht : P.underlying t = some (.slice e)) (he : P.underlying e = some (.int .u8)) (hc : P.cellsOf e = 1)
    (h : DataW.trod enc P w 0 (fun _ => true) held fuel t cs = some x) : ∃ A n c l, cs = [.slice A n c] ∧ Bs w A n l ∧ n ≤ c := by
  obtain ⟨A, n, c, rfl⟩ := trod_slice_form ht h
  obtain ⟨zs, hr⟩ := trod_row ht he hc h
  obtain ⟨l, hb, hle⟩ := hr.bs
  exact ⟨A, n, c, l, rfl, hb, hle⟩

/-- The slice at A, of length n, reads as the rows of bytes ls. -/
def Bss (w : World) (A : Option Addr) (n : Nat) (ls : List (List UInt8)) : Prop :=
  ls.length = n ∧ ∀ i l, ls[i]? = some l → ∃ b o Ai ni ci, A = some ⟨b, o, none⟩ ∧ w.cell? ⟨b, o + i, none⟩ = some (.slice Ai ni ci) ∧ Bs w Ai ni l ∧ ni ≤ ci
theorem Bss.nil (w : World) (A : Option Addr) : Bss w A 0 [] := ⟨rfl, fun i x h => by simp at h⟩
theorem Bss.len {w : World} {A : Option Addr} {n : Nat} {ls : List (List UInt8)} (h : Bss w A n ls) : ls.length = n := h.1
theorem Bss.below {w w' : World} {A : Option Addr} {n : Nat} {ls : List (List UInt8)} (h : Bss w A n ls) (hb : Below w.heap.size w w') : Bss w' A n ls :=
  ⟨h.1, fun i l hl => let ⟨b, o, Ai, ni, ci, e, hc, hbs, hle⟩ := h.2 i l hl; ⟨b, o, Ai, ni, ci, e, (hb.cell (World.block_lt_of_cell? w _ hc)).trans hc, hbs.below hb, hle⟩⟩
theorem Bss.qt {w w' : World} {A : Option Addr} {n : Nat} {ls : List (List UInt8)} (h : Bss w A n ls) (hb : Qt w w') : Bss w' A n ls := h.below hb.below
/-- Row k. -/
def rowL (ls : List (List UInt8)) (k : Nat) : List UInt8 := ls.getD k []
theorem Bss.at_ {w : World} {A : Option Addr} {n : Nat} {ls : List (List UInt8)} (h : Bss w A n ls) {k : Nat} (hk : k < n) :
    ∃ b o Ai ni ci, A = some ⟨b, o, none⟩ ∧ w.cell? ⟨b, o + k, none⟩ = some (.slice Ai ni ci) ∧ Bs w Ai ni (rowL ls k) ∧ ni ≤ ci := by
  have hl : k < ls.length := by have := h.1; omega
  have := h.2 k _ (List.getElem?_eq_getElem hl)
  simpa [rowL, List.getD, List.getElem?_eq_getElem hl] using this

theorem spot_none {w : World} {x : Addr} {n : Nat} {v : Value} (hn : 0 < n) (h : ∀ i, i < n → ∃ v, w.cell? (x.add i) = some v) : x.spot = none := by
  obtain ⟨v, hv⟩ := h 0 hn
  have := World.cell?_spot hv
  simpa [Addr.add] using this

theorem trod_bytess {t t2 e : TypeId} {fuel : Nat} {cs : List Value} {x : DataW H × List MemPlace} (ht : P.underlying t = some (.slice t2)) (ht2 : P.underlying t2 = some (.slice e)) (he : P.underlying e = some (.int .u8)) (hc : P.cellsOf e = 1) (hc2 : P.cellsOf t2 = 1)
    (h : DataW.trod enc P w 0 (fun _ => true) held fuel t cs = some x) : ∃ A n c ls, cs = [.slice A n c] ∧ Bss w A n ls ∧ n ≤ c := by
  rcases Deep.open_slice ht h with ⟨hcs, _⟩ | ⟨a, len, cap, m, n, D, Pl, hcs, _, hl, hm, hmm, _, hel⟩
  · exact ⟨none, 0, 0, [], hcs, Bss.nil _ _, Nat.le_refl _⟩
  · simp only [if_true] at hmm
    rw [hc2] at hel
    have key : ∀ i, i < len → ∃ l : List UInt8, ∃ Ai ni ci, w.cell? (a.add i) = some (.slice Ai ni ci) ∧ Bs w Ai ni l ∧ ni ≤ ci := by
      intro i hi
      obtain ⟨cs', hcs', htr⟩ := hel i (by omega)
      obtain ⟨Ai, ni, ci, l, rfl, hbs, hle⟩ := trod_bytes ht2 he hc htr
      rw [Nat.mul_one] at hcs'
      exact ⟨l, Ai, ni, ci, cell_of_cells?_one hcs', hbs, hle⟩
    obtain ⟨f, hf⟩ := Deep.choose_lt key
    refine ⟨some a, len, cap, (List.range len).map f, hcs, ⟨by simp, fun i l hl' => ?_⟩, hl⟩
    rw [List.getElem?_map] at hl'
    obtain ⟨j, hj, rfl⟩ := Option.map_eq_some_iff.1 hl'
    have hij : i < len ∧ j = i := by
      have h1 := (List.getElem?_eq_some_iff.1 hj)
      obtain ⟨h2, h3⟩ := h1
      simp at h2 h3
      exact ⟨h2, h3.symm⟩
    obtain ⟨hil, rfl⟩ := hij
    obtain ⟨Ai, ni, ci, hcell, hbs, hle⟩ := hf j hil
    obtain ⟨b, o, sp⟩ := a
    have hsp : sp = none := spot_none (v := .nilFunc) (x := ⟨b, o, sp⟩) (n := len) (by omega) (fun i hi => by obtain ⟨Ai, ni, ci, hcell, _⟩ := hf i hi; exact ⟨_, hcell⟩)
    subst hsp
    rw [Addr.add_none] at hcell
    exact ⟨b, o, Ai, ni, ci, rfl, hcell, hbs, hle⟩
end
end Go.Proofs.Ytlmmoinmlcpmnaa
