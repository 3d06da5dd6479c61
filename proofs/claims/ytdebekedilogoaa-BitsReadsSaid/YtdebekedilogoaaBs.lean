/-
  The contracts of the project's bits: ReadBool, ReadNull, ReadOctets.
-/
import Derived.Test.YtdebekedilogoaaBr
namespace Go.Proofs.Ytdebekedilogoaa
open Go.RowKit
set_option linter.unusedVariables false
set_option linter.unusedSimpArgs false
set_option maxRecDepth 4000

/-- What ReadBool hands back: the truth, the place behind, an error's number. -/
def rdBool (l : List UInt8) (k : Nat) : Bool × Nat × Int :=
  if (rOpen l k (tg5 1)).2.2 = 0 then (if (prsB (rOpen l k (tg5 1)).1).2 = 0 then ((prsB (rOpen l k (tg5 1)).1).1, (rOpen l k (tg5 1)).2.1, 0) else (false, k, 6)) else (false, k, (rOpen l k (tg5 1)).2.2)
theorem prsB_err (b : List UInt8) : (prsB b).2 = 0 ∨ (prsB b).2 = 6 ∧ (prsB b).1 = false := by
  unfold prsB; split
  · exact .inl rfl
  · split
    · exact .inl rfl
    · exact .inr ⟨rfl, rfl⟩

set_option maxHeartbeats 3200000 in
theorem btReadBoolG (g k : Nat) (l : List UInt8) (w : World) {s : Value} (h : Cur w g s l k) (hl : l.length ≤ 1099511) :
    Calls Try.prog 53 #[.pointer (some ⟨g, 0, none⟩), .int .i64 1, .func (.func 20) #[] #[]] w fun e w' => e = .returned (.tuple #[.bool (rdBool l k).1, .int .i64 (rdBool l k).2.2]) ∧ Cur w' g s l (rdBool l k).2.1 ∧ Only g w w' := by
  have hg := h.lt
  have hlen := rOpen_len l k (tg5 1)
  have hge := rOpen_ge l k (tg5 1)
  have hno := rOpen_no l k (tg5 1)
  go_enter Try.func53, Try.ntmps53
  go_wp2_with fail
  refine (curAt g k l w h).mono ?_
  rintro e w1 ⟨rfl, hw1⟩
  obtain rfl : w = w1 := hw1
  go_wp2_with fail
  refine (hdOf 1 w).mono ?_
  rintro e w2 ⟨rfl, b2⟩
  have h2 := h.below b2
  have o2 : Only g w w2 := Only.of_below b2
  have hs2 := b2.size
  have hO := hdOpen g k l (tg5 1) w2 h2
  unfold OpenOk at hO
  go_wp2_with fail
  refine hO.mono ?_
  rintro e w3 ⟨p, rfl, hc3, o3, hp3, hp3'⟩
  have o3' := o2.trans o3
  clear hO h2 b2
  obtain ⟨T, hT0⟩ : ∃ T, rOpen l k (tg5 1) = T := ⟨_, rfl⟩
  rw [hT0] at hlen hge hno hc3 hp3 hp3' ⊢
  have HT := Lib.hid hT0
  clear hT0
  obtain ⟨ct, k', E⟩ := T
  simp only at hc3 hp3 hlen hge hno ⊢
  by_cases q : E = 0
  · subst q
    obtain ⟨g2, s2, rfl, hg2, hcur⟩ := hp3 rfl
    clear hp3 hno hp3'
    go_wp2_with fail
    refine (curRest g2 0 ct w3 hcur).mono ?_
    rintro e w4 ⟨A4, n4, c4, rfl, ho4, hc4, o4⟩
    simp only [List.drop_zero] at ho4
    have hcn := hcur.noByte
    have hc4' : Cur w4 g s l k' := hc3.only o4 (by omega) hcn
    have o4' : Only g w w4 := Only.grown o3' o4 (by intro x hx; cases hx; omega)
    have hs4 := ho4.bs.1
    have hk4 := ho4.bs.2
    have ho4' := ho4.mono (base' := w.heap.size) (by have := o3'.size; omega)
    have hn4 := hs4.len
    clear hcur hc3 o3' o3 hcn hc4 o2 ho4
    have PB := btParseBool A4 n4 c4 ct w4 hs4
    rcases prsB_err ct with h0 | ⟨h6, hf⟩
    · rw [h0] at PB
      have RB : Hid (rdBool l k = ((prsB ct).1, k', 0)) := by unfold Hid rdBool; rw [HT.out]; simp only; rw [if_pos trivial, if_pos h0]
      go_wp2_with fail
      refine PB.mono ?_
      rintro e w5 ⟨rfl, hw5⟩
      obtain rfl : w4 = w5 := hw5.symm
      go_wp2
      go_ret2
      rw [RB.out]
      exact ⟨rfl, hc4', o4'⟩
    · rw [h6, hf] at PB
      have RB : Hid (rdBool l k = (false, k, 6)) := by unfold Hid rdBool; rw [HT.out]; simp only; rw [if_pos trivial, if_neg (by rw [h6]; decide)]
      go_wp2_with fail
      refine PB.mono ?_
      rintro e w5 ⟨rfl, hw5⟩
      obtain rfl : w4 = w5 := hw5.symm
      go_wp2_with fail
      refine (curBack g k' k _ l _ hc4' hge rfl).mono ?_
      rintro e w7 ⟨rfl, hc7, o7⟩
      go_wp2
      go_ret2
      rw [RB.out]
      exact ⟨rfl, hc7, o4'.trans o7⟩
  · have hT := hno q
    obtain ⟨rfl, rfl⟩ : ct = [] ∧ k' = k := by simpa using hT
    clear hno hp3 hT
    have e1 : (E != 0) = true := by simpa using q
    have e2 : (E == 0) = false := by simpa using q
    have RB : Hid (rdBool l k' = (false, k', E)) := by unfold Hid rdBool; rw [HT.out]; simp only; rw [if_neg q]
    go_wp2
    go_ret2
    rw [RB.out]
    exact ⟨rfl, hc3, o3'⟩

set_option maxHeartbeats 800000 in
theorem btReadBool (g k : Nat) (l : List UInt8) (w : World) {s : Value} (h : Cur w g s l k) (hl : l.length ≤ 1099511) :
    Calls Try.prog 32 #[.pointer (some ⟨g, 0, none⟩)] w fun e w' => e = .returned (.tuple #[.bool (rdBool l k).1, .int .i64 (rdBool l k).2.2]) ∧ Cur w' g s l (rdBool l k).2.1 ∧ Only g w w' := by
  have hG := btReadBoolG g k l w h hl
  generalize rdBool l k = r at *
  go_enter Try.func32, Try.ntmps32
  go_wp2_with fail
  refine hG.mono ?_
  rintro e w1 ⟨rfl, hc, ho⟩
  go_wp2
  go_ret2
  exact ⟨rfl, hc, ho⟩

set_option maxHeartbeats 3200000 in
theorem btReadOctetsG (g k : Nat) (l : List UInt8) (w : World) {s : Value} (h : Cur w g s l k) (hl : l.length ≤ 1099511) :
    Calls Try.prog 56 #[.pointer (some ⟨g, 0, none⟩), .int .i64 4, .func (.func 57) #[] #[]] w fun e w' => ∃ A m c, e = .returned (.tuple #[.slice A m c, .int .i64 (rOpen l k (tg5 4)).2.2]) ∧ Bs w' A m (rOpen l k (tg5 4)).1 ∧ m ≤ c ∧ Cur w' g s l (rOpen l k (tg5 4)).2.1 ∧ Only g w w' := by
  have hg := h.lt
  have hlen := rOpen_len l k (tg5 4)
  have hge := rOpen_ge l k (tg5 4)
  have hno := rOpen_no l k (tg5 4)
  go_enter Try.func56, Try.ntmps56
  go_wp2_with fail
  refine (curAt g k l w h).mono ?_
  rintro e w1 ⟨rfl, hw1⟩
  obtain rfl : w = w1 := hw1
  go_wp2_with fail
  refine (hdOf 4 w).mono ?_
  rintro e w2 ⟨rfl, b2⟩
  have h2 := h.below b2
  have o2 : Only g w w2 := Only.of_below b2
  have hs2 := b2.size
  have hO := hdOpen g k l (tg5 4) w2 h2
  unfold OpenOk at hO
  go_wp2_with fail
  refine hO.mono ?_
  rintro e w3 ⟨p, rfl, hc3, o3, hp3, hp3'⟩
  have o3' := o2.trans o3
  clear hO h2 b2
  obtain ⟨T, hT0⟩ : ∃ T, rOpen l k (tg5 4) = T := ⟨_, rfl⟩
  rw [hT0] at hlen hge hno hc3 hp3 hp3' ⊢
  have HT := Lib.hid hT0
  clear hT0
  obtain ⟨ct, k', E⟩ := T
  simp only at hc3 hp3 hlen hge hno ⊢
  by_cases q : E = 0
  · subst q
    obtain ⟨g2, s2, rfl, hg2, hcur⟩ := hp3 rfl
    clear hp3 hno hp3'
    go_wp2_with fail
    refine (curRest g2 0 ct w3 hcur).mono ?_
    rintro e w4 ⟨A4, n4, c4, rfl, ho4, hc4, o4⟩
    simp only [List.drop_zero] at ho4
    have hcn := hcur.noByte
    have hc4' : Cur w4 g s l k' := hc3.only o4 (by omega) hcn
    have o4' : Only g w w4 := Only.grown o3' o4 (by intro x hx; cases hx; omega)
    have hs4 := ho4.bs.1
    have hk4 := ho4.bs.2
    have ho4' := ho4.mono (base' := w.heap.size) (by have := o3'.size; omega)
    have hn4 := hs4.len
    clear hcur hc3 o3' o3 hcn hc4 o2 ho4
    go_wp2
    go_ret2
    rw [HT.out]
    exact ⟨A4, n4, c4, rfl, hs4, hk4, hc4', o4'⟩
  · have hT := hno q
    obtain ⟨rfl, rfl⟩ : ct = [] ∧ k' = k := by simpa using hT
    clear hno hp3 hT
    have e1 : (E != 0) = true := by simpa using q
    have e2 : (E == 0) = false := by simpa using q
    go_wp2
    go_ret2
    rw [HT.out]
    exact ⟨none, 0, 0, rfl, Bs.nil _ _, Nat.le_refl _, hc3, o3'⟩

set_option maxHeartbeats 800000 in
theorem btReadOctets (g k : Nat) (l : List UInt8) (w : World) {s : Value} (h : Cur w g s l k) (hl : l.length ≤ 1099511) :
    Calls Try.prog 34 #[.pointer (some ⟨g, 0, none⟩)] w fun e w' => ∃ A m c, e = .returned (.tuple #[.slice A m c, .int .i64 (rOpen l k (tg5 4)).2.2]) ∧ Bs w' A m (rOpen l k (tg5 4)).1 ∧ m ≤ c ∧ Cur w' g s l (rOpen l k (tg5 4)).2.1 ∧ Only g w w' := by
  have hG := btReadOctetsG g k l w h hl
  generalize rOpen l k (tg5 4) = r at *
  go_enter Try.func34, Try.ntmps34
  go_wp2_with fail
  refine hG.mono ?_
  rintro e w1 ⟨A, m, c, rfl, hb, hm, hc, ho⟩
  go_wp2
  go_ret2
  exact ⟨A, m, c, rfl, hb, hm, hc, ho⟩

/-- What ReadNull hands back: the place behind, an error's number. -/
def rdNull (l : List UInt8) (k : Nat) : Nat × Int :=
  if (rOpen l k (tg5 5)).2.2 = 0 then (if (rOpen l k (tg5 5)).1.length = 0 then ((rOpen l k (tg5 5)).2.1, 0) else (k, 6)) else (k, (rOpen l k (tg5 5)).2.2)

set_option maxHeartbeats 1600000 in
theorem btParseNull (A : Option Addr) (n c : Nat) (w : World) :
    Calls Try.prog 55 #[.slice A n c] w fun e w' => e = .returned (.tuple #[.agg #[], .int .i64 (if n = 0 then 0 else 6)]) ∧ Below w.heap.size w w' := by
  have b0 := fun o => below_alloc1 w o
  by_cases h : n = 0
  · subst h
    go_enter Try.func55, Try.ntmps55
    go_wp2
    refine bodyPost_ret (v := .tuple #[.agg #[], .int .i64 0]) (by simp [results, Try.results55, go_sem]) rfl ?_
    exact ⟨rfl, b0 _⟩
  · have e0 : ((n : Int) != 0) = true := by simp; omega
    rw [if_neg h]
    go_enter Try.func55, Try.ntmps55
    go_wp2
    refine bodyPost_ret (v := .tuple #[.agg #[], .int .i64 6]) (by simp [results, Try.results55, go_sem]) rfl ?_
    exact ⟨rfl, b0 _⟩

end Go.Proofs.Ytdebekedilogoaa
