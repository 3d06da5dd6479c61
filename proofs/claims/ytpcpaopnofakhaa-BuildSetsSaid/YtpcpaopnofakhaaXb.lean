/-
  The law BuildNests.
-/
import Derived.Test.YtpcpaopnofakhaaXa
import Derived.Test.YtpcpaopnofakhaaWl
namespace Go.Proofs.Ytpcpaopnofakhaa
open Go.RowKit
set_option linter.unusedVariables false
set_option linter.unusedSimpArgs false
set_option maxRecDepth 4000

theorem tag_info : (Try.prog.info? 29).map (fun i => (i.zero, i.size, i.bytes)) = some (some (.agg #[.int .i64 0, .int .i64 0, .bool false]), 3, 24) := by kernel_rfl

/-- What stands while frames are opened: the sheet at S, apart from the tags' row v. -/
def NestS (w : World) (S : Nat) (gs : List Tg) (v : Value) (W : World) : Prop :=
  ∃ fp F Fs, Sh W S fp F Fs 0 ∧ Fs ++ [F] = fullF gs ∧ (∀ k ∈ fp, w.heap.size ≤ k) ∧ W.ownsRow w.heap.size 29 3 v gs.length (tCs gs) ∧ (∀ g, v.ownBlock = some g → g ∉ fp) ∧ Below w.heap.size w W

theorem Sh.lt {w : World} {S : Nat} {fp : List Nat} {F : Fr} {Fs : List Fr} {e : Int} (h : Sh w S fp F Fs e) : ∀ k ∈ fp, k < w.heap.size := by
  obtain ⟨v, va, vs, hT⟩ := h; exact hT.lt
theorem Sh.apartB {w w' : World} {S : Nat} {fp fq : List Nat} {F : Fr} {Fs : List Fr} {e : Int} (h : Sh w S fp F Fs e) (hO : OnlyF fq w w') (hd : ∀ k ∈ fp, k ∉ fq) : Sh w' S fp F Fs e := by
  obtain ⟨v, va, vs, hT⟩ := h; exact ⟨v, va, vs, hT.apart hO hd⟩
theorem NestS.below {w W W' : World} {S : Nat} {gs : List Tg} {v : Value} (h : NestS w S gs v W) (hb : Below W.heap.size W W') : NestS w S gs v W' := by
  obtain ⟨fp, F, Fs, h1, h2, h3, h4, h5, h6⟩ := h
  exact ⟨fp, F, Fs, h1.below hb, h2, h3, h4.kept (row := none) ⟨hb.os, hb.tape, hb.output, hb.size, fun i hi _ => hb.block i hi⟩ (by cases hv : v.ownBlock <;> simp), h5, h6.trans (hb.mono h6.size)⟩
theorem full_ne {Fs : List Fr} {F : Fr} {ts : List Tg} (h : Fs ++ [F] = fullF ts) : Fs.length = ts.length := by
  have := congrArg List.length h
  simp [fullF] at this
  exact this
/-- A tag more in the row. -/
theorem NestS.tag {w W1 W2 : World} {S : Nat} {gs : List Tg} {v v' : Value} {t : Tg} (h : NestS w S gs v W1) (hr : W2.ownsRow w.heap.size 29 3 v' (gs.length + 1) (tCs gs ++ tC t)) (hg : W1.grownBy W2 v.ownBlock)
    (hv : v'.ownBlock = v.ownBlock ∨ v'.ownBlock = some W1.heap.size) :
    ∃ fp F Fs, Sh W2 S fp F Fs 0 ∧ Fs ++ [F] = fullF gs ∧ (∀ k ∈ fp, w.heap.size ≤ k) ∧ W2.ownsRow w.heap.size 29 3 v' (gs ++ [t]).length (tCs (gs ++ [t])) ∧ (∀ g, v'.ownBlock = some g → g ∉ fp) ∧ Below w.heap.size w W2 := by
  obtain ⟨fp, F, Fs, h1, h2, h3, h4, h5, h6⟩ := h
  have hO : OnlyF (v.ownBlock.toList) W1 W2 := OnlyF.of_grown hg (fun k hk => Or.inl (by simp [hk]))
  have h1' := h1.apartB hO (fun k hk hm => h5 k (by simpa using hm) hk)
  refine ⟨fp, F, Fs, h1', h2, h3, by rw [tCs_snoc, List.length_append]; exact hr, ?_, ?_⟩
  · intro g hgg hm
    rcases hv with e | e
    · rw [e] at hgg; exact h5 g hgg hm
    · rw [e] at hgg; cases hgg; have := h1.lt _ hm; omega
  · exact h6.grown hg h6.size fun k hk => (h4.lt k hk).1
/-- Opened: a frame more. -/
theorem NestS.opened {w W2 W3 : World} {S : Nat} {gs : List Tg} {v' : Value} {t : Tg} {fp : List Nat} {F : Fr} {Fs : List Fr} (h2 : Fs ++ [F] = fullF gs) (h3 : ∀ k ∈ fp, w.heap.size ≤ k)
    (h4 : W2.ownsRow w.heap.size 29 3 v' (gs ++ [t]).length (tCs (gs ++ [t]))) (h5 : ∀ g, v'.ownBlock = some g → g ∉ fp) (h6 : Below w.heap.size w W2) (h : ShOk W2 S fp (opnF F 0 t false) (opnL F Fs 0) 0 W3) : NestS w S (gs ++ [t]) v' W3 := by
  obtain ⟨fp', k1, k2, k3⟩ := h
  have hlt := h4.lt
  have h4' : W3.ownsRow w.heap.size 29 3 v' (gs ++ [t]).length (tCs (gs ++ [t])) := by
    refine ⟨h4.1, ?_⟩
    rcases h4.2 with e | ⟨g, cap, cur, rfl, q0, q1, r⟩
    · exact .inl e
    · exact .inr ⟨g, cap, cur, rfl, q0, by rw [k2.block g (lt_of_block q1) (h5 g rfl)]; exact q1, r⟩
  refine ⟨fp', _, _, k1, ?_, ?_, h4', ?_, k2.below h6 h6.size h3⟩
  · rw [fullF_snoc]
    simp only [opnF, opnL, if_true]
    rw [h2]; rfl
  · intro k hk
    rcases k3 k hk with e | e
    · exact h3 k e
    · have := h6.size; omega
  · intro g hg hm
    rcases k3 g hm with e | e
    · exact h5 g hg e
    · have := (hlt g hg).2; omega
end Go.Proofs.Ytpcpaopnofakhaa
