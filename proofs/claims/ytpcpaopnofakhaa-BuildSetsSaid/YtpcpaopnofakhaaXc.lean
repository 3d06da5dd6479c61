/-
  The law BuildNests: its walk.
-/
import Derived.Test.YtpcpaopnofakhaaXb
namespace Go.Proofs.Ytpcpaopnofakhaa
open Go.RowKit
set_option linter.unusedVariables false
set_option linter.unusedSimpArgs false
set_option maxRecDepth 4000

/-- What stands while frames are shut: us are open, vs were shut. -/
def NestT (w : World) (S : Nat) (us vs : List Tg) (bl : List UInt8) (v : Value) (W : World) : Prop :=
  ∃ fp F Fs, Sh W S fp F Fs 0 ∧ Fs ++ [⟨F.t, F.set, []⟩] = fullF us ∧ F.b = nestB vs bl ∧ (∀ k ∈ fp, w.heap.size ≤ k) ∧ W.ownsRow w.heap.size 29 3 v (us ++ vs).length (tCs (us ++ vs)) ∧ (∀ g, v.ownBlock = some g → g ∉ fp) ∧ Below w.heap.size w W
theorem row_only {w W W' : World} {fp : List Nat} {v : Value} {n : Nat} {cs : List Value} (h4 : W.ownsRow w.heap.size 29 3 v n cs) (h5 : ∀ g, v.ownBlock = some g → g ∉ fp) (hO : OnlyF fp W W') : W'.ownsRow w.heap.size 29 3 v n cs := by
  refine ⟨h4.1, ?_⟩
  rcases h4.2 with e | ⟨g, cap, cur, rfl, q0, q1, r⟩
  · exact .inl e
  · exact .inr ⟨g, cap, cur, rfl, q0, by rw [hO.block g (lt_of_block q1) (h5 g rfl)]; exact q1, r⟩
theorem row_below {W W' : World} {B : Nat} {v : Value} {n : Nat} {cs : List Value} (h : W.ownsRow B 29 3 v n cs) (hb : Below W.heap.size W W') : W'.ownsRow B 29 3 v n cs :=
  h.kept (row := none) ⟨hb.os, hb.tape, hb.output, hb.size, fun i hi _ => hb.block i hi⟩ (by cases hv : v.ownBlock <;> simp)
theorem NestS.put {w W1 W2 : World} {S : Nat} {gs : List Tg} {v : Value} {bl : List UInt8} {fp : List Nat} {F : Fr} {Fs : List Fr} (h2 : Fs ++ [F] = fullF gs) (h3 : ∀ k ∈ fp, w.heap.size ≤ k)
    (h4 : W1.ownsRow w.heap.size 29 3 v gs.length (tCs gs)) (h5 : ∀ g, v.ownBlock = some g → g ∉ fp) (h6 : Below w.heap.size w W1) (h : ShOk W1 S fp (putF F 0 [bl]) Fs 0 W2) : NestT w S gs [] bl v W2 := by
  obtain ⟨fp', k1, k2, k3⟩ := h
  have hlt := h4.lt
  have hFb : F.b = [] := by
    have h9 : F ∈ fullF gs := by rw [← h2]; simp
    simp [fullF, fr0, fT] at h9
    rcases h9 with rfl | ⟨t, _, rfl⟩ <;> rfl
  refine ⟨fp', _, _, k1, ?_, ?_, ?_, ?_, ?_, k2.below h6 h6.size h3⟩
  · rw [← h2]; simp [putF]; cases F; simp at hFb; simp [hFb]
  · simp [putF, hFb, nestB]
  · intro k hk
    rcases k3 k hk with e | e
    · exact h3 k e
    · have := h6.size; omega
  · rw [List.append_nil]; exact row_only h4 h5 k2
  · intro g hg hm
    rcases k3 g hm with e | e
    · exact h5 g hg e
    · have := (hlt g hg).2; omega
theorem NestT.shut {w W1 : World} {S : Nat} {us vs : List Tg} {t : Tg} {bl : List UInt8} {v : Value} (h : NestT w S (us ++ [t]) vs bl v W1) (hr : t.rightB = true) (hl : (nestB vs bl).length ≤ 16777216) (hn : us.length ≤ 1000000) :
    Calls Try.prog 15 #[.pointer (some ⟨S, 0, none⟩)] W1 fun e w' => e = .returned (.tuple #[]) ∧ NestT w S us (t :: vs) bl v w' := by
  obtain ⟨fp, F, Fs, h1, h2, h3, h4, h5, h6, h7⟩ := h
  rw [fullF_snoc] at h2
  have e1 : Fs = fullF us := List.append_inj_left' h2 rfl
  have e2 : (⟨F.t, F.set, []⟩ : Fr) = fT t := by
    have := List.append_inj_right' h2 rfl
    simpa using this
  have e3 : F.t = t := congrArg Fr.t e2
  have e4 : F.set = false := congrArg Fr.set e2
  have hE : elemF F = (wrapB t (nestB vs bl), 0) := by
    unfold elemF
    rw [e4, e3, h3]
    simp [hr]
  obtain ⟨Gs, G, hG⟩ : ∃ Gs G, Fs = Gs ++ [G] := by
    rw [e1]
    rcases List.eq_nil_or_concat us with h | ⟨us', u, h⟩
    · subst h; exact ⟨[], fr0, rfl⟩
    · rw [h, List.concat_eq_append, fullF_snoc]; exact ⟨_, _, rfl⟩
  have hGb : G.b = [] := by
    have h9 : G ∈ fullF us := by rw [← e1, hG]; simp
    simp [fullF, fr0, fT] at h9
    rcases h9 with rfl | ⟨t, _, rfl⟩ <;> rfl
  have hGn : Gs.length ≤ 1000000 := by
    have h9 := congrArg List.length (hG.symm.trans e1)
    simp [fullF] at h9; omega
  have hlt := h5.lt
  subst hG
  refine (bdShutYes S fp F G Gs W1 h1 (by rw [hE]) (by rw [h3]; omega) (by rw [hE, hGb]; have := nestB_le [t] (nestB vs bl); simp [nestB] at this ⊢; omega) hGn).mono ?_
  rintro e w' ⟨rfl, fp', k1, k2, k3⟩
  refine ⟨rfl, fp', _, _, k1, ?_, ?_, ?_, ?_, ?_, k2.below h7 h7.size h4⟩
  · rw [← e1]; cases G; simp at hGb; simp [hGb]
  · simp [hE, hGb, nestB]
  · intro k hk
    rcases k3 k hk with e | e
    · exact h4 k e
    · have := h7.size; omega
  · have e : us ++ t :: vs = us ++ [t] ++ vs := by simp
    rw [e]; exact row_only h5 h6 k2
  · intro g hg hm
    rcases k3 g hm with e | e
    · exact h6 g hg e
    · have := (hlt g hg).2; omega
theorem NestT.below {w W W' : World} {S : Nat} {us vs : List Tg} {bl : List UInt8} {v : Value} (h : NestT w S us vs bl v W) (hb : Below W.heap.size W W') : NestT w S us vs bl v W' := by
  obtain ⟨fp, F, Fs, h1, h2, h3, h4, h5, h6, h7⟩ := h
  exact ⟨fp, F, Fs, h1.below hb, h2, h3, h4, h5.kept (row := none) ⟨hb.os, hb.tape, hb.output, hb.size, fun i hi _ => hb.block i hi⟩ (by cases hv : v.ownBlock <;> simp), h6, h7.trans (hb.mono h7.size)⟩
theorem nest_bytes {w W : World} {S : Nat} {gs : List Tg} {bl : List UInt8} {v : Value} (h : NestT w S [] gs bl v W) (hl : (nestB gs bl).length ≤ 1099511627776) :
    Calls Try.prog 18 #[.pointer (some ⟨S, 0, none⟩)] W fun e w' => (∃ A n c, e = .returned (.tuple #[.slice A n c, .int .i64 0]) ∧ Bs w' A n (nestB gs bl)) ∧ Below W.heap.size W w' := by
  obtain ⟨fp, F, Fs, h1, h2, h3, h4, h5, h6, h7⟩ := h
  have e1 : Fs = [] := by
    have := congrArg List.length h2
    simpa [fullF] using this
  subst e1
  refine (bdBytes S fp F [] 0 W h1 (by rw [h3]; exact hl)).mono ?_
  rintro e w' ⟨A, n, c, rfl, ho, hb⟩
  refine ⟨⟨A, n, c, by simp [bytF], ?_⟩, hb⟩
  have := ho.bs.1
  simp [bytF, h3] at this
  exact this
theorem nest_alone (A : Option Addr) (n c : Nat) (l : List UInt8) (t : Tg) (W : World) (h : Bs W A n (wrapB t l)) (hr : t.rightB = true) (hl : l.length ≤ 100000) :
    Calls Try.prog 41 #[.slice A n c, t.v] W fun e w' => (∃ g s, e = .returned (.tuple #[.pointer (some ⟨g, 0, none⟩), .int .i64 0]) ∧ Cur w' g s l 0 ∧ W.heap.size ≤ g) ∧ Below W.heap.size W w' := by
  have hR := rAlone_wrapB t l ((Tg.rightB_iff _).1 hr) (by omega)
  have hw : (wrapB t l).length ≤ 200000 := by have := nestB_le [t] l; simp [nestB] at this; omega
  refine (hdAlone A n c (wrapB t l) t W h (by have := h.len; omega)).mono ?_
  rintro e w' ⟨p, he, hb, h0, _⟩
  rw [hR] at he h0
  obtain ⟨g2, s2, rfl, hg, hc⟩ := h0 rfl
  exact ⟨⟨g2, s2, he, hc, hg⟩, hb⟩
theorem nest_rest (g : Nat) (s : Value) (l : List UInt8) (W0 W : World) (h : Cur W g s l 0) (hg : W0.heap.size ≤ g) (hb : Below W0.heap.size W0 W) :
    Calls Try.prog 44 #[.pointer (some ⟨g, 0, none⟩)] W fun e w' => (∃ A n c, e = .returned (.slice A n c) ∧ Bs w' A n l) ∧ Below W0.heap.size W0 w' := by
  refine (curRest g 0 l W h).mono ?_
  rintro e w' ⟨A, n, c, rfl, ho, _, hon⟩
  exact ⟨⟨A, n, c, rfl, by simpa using ho.bs.1⟩, hon.below hb hg hb.size⟩
end Go.Proofs.Ytpcpaopnofakhaa
