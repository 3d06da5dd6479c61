/-
  The law BuildSets: what its sheet does.
-/
import Derived.Test.YtpcpaopnofakhaaYa
namespace Go.Proofs.Ytpcpaopnofakhaa
open Go.RowKit
set_option linter.unusedVariables false
set_option linter.unusedSimpArgs false
set_option maxRecDepth 4000

/-- A sheet made behind the world w: its innermost frame, those around it. -/
def StS (w : World) (S : Nat) (F : Fr) (Fs : List Fr) (W : World) : Prop := ∃ fp, Sh W S fp F Fs 0 ∧ (∀ k ∈ fp, w.heap.size ≤ k) ∧ Below w.heap.size w W
theorem StS.of {w W W' : World} {S : Nat} {fp : List Nat} {F : Fr} {Fs : List Fr} (h3 : ∀ k ∈ fp, w.heap.size ≤ k) (h6 : Below w.heap.size w W) (h : ShOk W S fp F Fs 0 W') : StS w S F Fs W' := by
  obtain ⟨fp', k1, k2, k3⟩ := h
  refine ⟨fp', k1, ?_, k2.below h6 h6.size h3⟩
  intro k hk
  rcases k3 k hk with e | e
  · exact h3 k e
  · have := h6.size; omega
theorem set_new (w : World) : Calls Try.prog 8 #[] w fun e w' => e = .returned (.pointer (some ⟨w.heap.size, 0, none⟩)) ∧ StS w w.heap.size fr0 [] w' := by
  refine (bdNew w).mono ?_
  rintro e w' ⟨rfl, hs, hb⟩
  exact ⟨rfl, [w.heap.size], hs, by simp, hb⟩
theorem set_open {w W : World} {S : Nat} (h : StS w S fr0 [] W) : Calls Try.prog 14 #[.pointer (some ⟨S, 0, none⟩)] W fun e w' => e = .returned (.tuple #[]) ∧ StS w S ⟨tg0, true, []⟩ [fr0] w' := by
  obtain ⟨fp, h1, h3, h6⟩ := h
  refine (bdOpenSet S fp fr0 [] 0 W h1 (by simp)).mono ?_
  rintro e w' ⟨rfl, hok⟩
  exact ⟨rfl, StS.of h3 h6 (by simpa [opnF, opnL] using hok)⟩
theorem set_put {w W : World} {S n c : Nat} {A : Option Addr} {ms : List (List UInt8)} (h : StS w S ⟨tg0, true, []⟩ [fr0] W) (hm : Bss w A n ms) (hn : n ≤ 1000) (hl : ms.flatten.length ≤ 100000) :
    Calls Try.prog 11 #[.pointer (some ⟨S, 0, none⟩), .slice A n c] W fun e w' => e = .returned (.tuple #[]) ∧ StS w S ⟨tg0, true, ms.flatten⟩ [fr0] w' := by
  obtain ⟨fp, h1, h3, h6⟩ := h
  refine (bdPut S fp ⟨tg0, true, []⟩ [fr0] 0 A n c ms W h1 (fun W' hO => hm.below (hO.below h6 h6.size h3)) (by omega) (by show ([] : List UInt8).length + ms.flatten.length ≤ 1099511627776; rw [List.length_nil]; omega)).mono ?_
  rintro e w' ⟨rfl, hok⟩
  exact ⟨rfl, StS.of h3 h6 (by simpa [putF] using hok)⟩
theorem set_shut {w W : World} {S : Nat} {ms : List (List UInt8)} (h : StS w S ⟨tg0, true, ms.flatten⟩ [fr0] W) (hw : whs ms.flatten 0 = (ms, 0)) (hl : ms.flatten.length ≤ 100000) (hl2 : (wrapB ⟨0, 17, true⟩ (ordO ms).flatten).length ≤ 100000) :
    Calls Try.prog 15 #[.pointer (some ⟨S, 0, none⟩)] W fun e w' => e = .returned (.tuple #[]) ∧ StS w S ⟨tg0, false, wrapB ⟨0, 17, true⟩ (ordO ms).flatten⟩ [] w' := by
  obtain ⟨fp, h1, h3, h6⟩ := h
  have hE : elemF ⟨tg0, true, ms.flatten⟩ = (wrapB ⟨0, 17, true⟩ (ordO ms).flatten, 0) := by simp [elemF, hw]
  refine (bdShutYes S fp ⟨tg0, true, ms.flatten⟩ fr0 [] W h1 (by rw [hE]) (by show ms.flatten.length ≤ 16777216; omega) (by rw [hE]; show ([] : List UInt8).length + (wrapB ⟨0, 17, true⟩ (ordO ms).flatten).length ≤ 1099511627776; rw [List.length_nil]; omega) (by simp)).mono ?_
  rintro e w' ⟨rfl, hok⟩
  rw [hE] at hok
  exact ⟨rfl, StS.of h3 h6 hok⟩
theorem set_bytes {w W : World} {S : Nat} {l : List UInt8} (h : StS w S ⟨tg0, false, l⟩ [] W) (hl : l.length ≤ 100000) :
    Calls Try.prog 18 #[.pointer (some ⟨S, 0, none⟩)] W fun e w' => (∃ A n c, e = .returned (.tuple #[.slice A n c, .int .i64 0]) ∧ Bs w' A n l) ∧ Below W.heap.size W w' := by
  obtain ⟨fp, h1, h3, h6⟩ := h
  refine (bdBytes S fp ⟨tg0, false, l⟩ [] 0 W h1 (by simp; omega)).mono ?_
  rintro e w' ⟨A, n, c, rfl, ho, hb⟩
  refine ⟨⟨A, n, c, by simp [bytF], ?_⟩, hb⟩
  have := ho.bs.1
  simp [bytF] at this
  exact this
/-- Whether its wholes rise, and its wholes, off a cursor that the call made. -/
theorem set_sorted {w W : World} (g : Nat) (s : Value) (xs : List (List UInt8)) (h : Cur W g s xs.flatten 0) (hw : whs xs.flatten 0 = (xs, 0)) (hr : risesB xs) (hl : xs.flatten.length ≤ 100000) (hg : w.heap.size ≤ g) (hb : Below w.heap.size w W) :
    Calls Try.prog 36 #[.pointer (some ⟨g, 0, none⟩)] W fun e w' => e = .returned (.tuple #[.bool true, .int .i64 0]) ∧ Cur w' g s xs.flatten 0 ∧ Below w.heap.size w w' := by
  refine (bdSorted g 0 xs.flatten W h (by omega)).mono ?_
  rintro e w' ⟨⟨b, rfl, hb'⟩, hc, hon⟩
  rw [hw] at hb' ⊢
  have : b = true := hb'.2 ⟨rfl, hr⟩
  subst this
  exact ⟨rfl, hc, hon.below hb hg hb.size⟩
theorem set_wholes {w W : World} (g : Nat) (s : Value) (xs : List (List UInt8)) (h : Cur W g s xs.flatten 0) (hw : whs xs.flatten 0 = (xs, 0)) (hl : xs.flatten.length ≤ 100000) (hg : w.heap.size ≤ g) (hb : Below w.heap.size w W) :
    Calls Try.prog 38 #[.pointer (some ⟨g, 0, none⟩)] W fun e w' => (∃ A c, e = .returned (.tuple #[.slice A xs.length c, .int .i64 0]) ∧ Bss w' A xs.length xs) ∧ Below w.heap.size w w' := by
  refine (bdWholes g 0 xs.flatten W h (by omega)).mono ?_
  rintro e w' ⟨h1, _, hon⟩
  rw [hw] at h1
  obtain ⟨A, n, c, vs, rfl, hn, hrow, hos, _⟩ := h1 rfl
  simp at hn
  subst hn
  obtain ⟨A', c', he, _, hbs⟩ := bss_own hrow hos.vss
  simp only [Value.slice.injEq] at he
  obtain ⟨rfl, _, rfl⟩ := he
  exact ⟨⟨A, c, rfl, hbs⟩, hon.below hb hg hb.size⟩
end Go.Proofs.Ytpcpaopnofakhaa
