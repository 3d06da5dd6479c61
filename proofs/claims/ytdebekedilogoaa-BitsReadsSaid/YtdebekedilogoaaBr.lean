/-
  The contracts of the project's bits: Read.
-/
import Derived.Test.YtdebekedilogoaaHdOpen
import Derived.Test.YtdebekedilogoaaHdWrapB
import Derived.Test.YtdebekedilogoaaBp
namespace Go.Proofs.Ytdebekedilogoaa
open Go.RowKit
set_option linter.unusedVariables false
set_option linter.unusedSimpArgs false
set_option maxRecDepth 4000

def tg5 (z : Int) : Tg := ⟨0, z, false⟩
theorem rOpen_ge (l : List UInt8) (k : Nat) (t : Tg) : k ≤ (rOpen l k t).2.1 := by
  have h := rHead_ge l k
  unfold rOpen
  split
  · split
    · split
      · exact Nat.le_refl _
      · show k ≤ (rHead l k).2.2.1 + _; omega
    · exact Nat.le_refl _
  · exact Nat.le_refl _
theorem rOpen_len (l : List UInt8) (k : Nat) (t : Tg) : (rOpen l k t).1.length ≤ l.length := by
  unfold rOpen
  split
  · split
    · split
      · simp
      · simp; omega
    · simp
  · simp
theorem Blk.only1 {w w' : World} {g r : Nat} {t : TypeId} {cs : List Value} (h : Blk w r t cs) (hb : Only g w w') (hne : r ≠ g) : Blk w' r t cs := h.only hb hne

/-- What Read hands back. -/
def ReadS (w : World) (g : Nat) (s : Value) (l : List UInt8) (k : Nat) (e : Ending) (w' : World) : Prop :=
  Only g w w' ∧ ((rOpen l k (tg5 3)).2.2 ≠ 0 → e = .returned (.tuple #[.agg #[.int .i64 0, .slice none 0 0], .int .i64 (rOpen l k (tg5 3)).2.2]) ∧ Cur w' g s l k) ∧
    ((rOpen l k (tg5 3)).2.2 = 0 → prsS (rOpen l k (tg5 3)).1 = none → e = .returned (.tuple #[.agg #[.int .i64 0, .slice none 0 0], .int .i64 6]) ∧ Cur w' g s l k) ∧
    ((rOpen l k (tg5 3)).2.2 = 0 → ∀ u t, prsS (rOpen l k (tg5 3)).1 = some (u, t) → (∃ A m c, e = .returned (.tuple #[.agg #[.int .i64 u, .slice A m c], .int .i64 0]) ∧ Bs w' A m t ∧ m ≤ c) ∧ Cur w' g s l (rOpen l k (tg5 3)).2.1)

set_option maxHeartbeats 3200000 in
theorem btReadG (g k : Nat) (l : List UInt8) (w : World) {s : Value} (h : Cur w g s l k) (hl : l.length ≤ 1099511) :
    Calls Try.prog 52 #[.pointer (some ⟨g, 0, none⟩), .int .i64 3, .func (.func 21) #[] #[]] w (ReadS w g s l k) := by
  have hg := h.lt
  have hP := (Blk.new2 w (.int .i64 0) (.slice none 0 0) 25).alloc (.cells #[.int .i64 0, .slice none 0 0] 25)
  have hN := Blk.new2 (w.alloc (.cells #[.int .i64 0, .slice none 0 0] 25)) (.int .i64 0) (.slice none 0 0) 25
  rw [World.size_alloc] at hN
  have b0 := below_alloc2 w (.cells #[.int .i64 0, .slice none 0 0] 25) (.cells #[.int .i64 0, .slice none 0 0] 25)
  have h0 := h.below b0
  have o0 : Only g w ((w.alloc (.cells #[.int .i64 0, .slice none 0 0] 25)).alloc (.cells #[.int .i64 0, .slice none 0 0] 25)) := Only.of_below b0
  have hlen := rOpen_len l k (tg5 3)
  have hge := rOpen_ge l k (tg5 3)
  have hno := rOpen_no l k (tg5 3)
  go_enter Try.func52, Try.ntmps52
  go_upto_region 2 with (fail)
  generalize ((w.alloc (Obj.cells #[.int .i64 0, .slice none 0 0] 25)).alloc (Obj.cells #[.int .i64 0, .slice none 0 0] 25)) = W0 at *
  obtain ⟨R, hR⟩ : ∃ R, R = w.heap.size := ⟨_, rfl⟩
  have hgR : g < R := by omega
  have hs0 : R + 2 ≤ W0.heap.size := by have := hN.lt; omega
  go_wp2_with fail
  refine (curAt g k l W0 h0).mono ?_
  rintro e w1 ⟨rfl, hw1⟩
  obtain rfl : W0 = w1 := hw1
  go_wp2_with fail
  refine (hdOf 3 W0).mono ?_
  rintro e w2 ⟨rfl, b2⟩
  have hP2 := hP.below b2
  have hN2 := hN.below b2
  have h2 := h0.below b2
  have o2 := o0.trans (Only.of_below b2)
  have hs2 : R + 2 ≤ w2.heap.size := by have := b2.size; omega
  clear hP hN h0 o0 b0 b2 h
  have hO := hdOpen g k l (tg5 3) w2 h2
  unfold OpenOk at hO
  go_wp2_with fail
  refine hO.mono ?_
  rintro e w3 ⟨p, rfl, hc3, o3, hp3, _⟩
  have hP3 := hP2.only1 o3 (by omega)
  have hN3 := hN2.only1 o3 (by omega)
  have hs3 : R + 2 ≤ w3.heap.size := by have := o3.size; omega
  have o3' := o2.trans o3
  clear hO hP2 hN2 h2 o2
  have hRS : Hid (ReadS w g s l k = fun e w' => Only g w w' ∧ ((rOpen l k (tg5 3)).2.2 ≠ 0 → e = .returned (.tuple #[.agg #[.int .i64 0, .slice none 0 0], .int .i64 (rOpen l k (tg5 3)).2.2]) ∧ Cur w' g s l k) ∧
    ((rOpen l k (tg5 3)).2.2 = 0 → prsS (rOpen l k (tg5 3)).1 = none → e = .returned (.tuple #[.agg #[.int .i64 0, .slice none 0 0], .int .i64 6]) ∧ Cur w' g s l k) ∧
    ((rOpen l k (tg5 3)).2.2 = 0 → ∀ u t, prsS (rOpen l k (tg5 3)).1 = some (u, t) → (∃ A m c, e = .returned (.tuple #[.agg #[.int .i64 u, .slice A m c], .int .i64 0]) ∧ Bs w' A m t ∧ m ≤ c) ∧ Cur w' g s l (rOpen l k (tg5 3)).2.1)) := rfl
  generalize rOpen l k (tg5 3) = T at *
  obtain ⟨ct, k', E⟩ := T
  simp only at hc3 hp3 hlen hge hno hRS
  obtain ⟨p0, p1, p2, p3⟩ := hP3.two
  obtain ⟨n0, n1, _, _⟩ := hN3.two
  by_cases q : E = 0
  · subst q
    obtain ⟨g2, s2, rfl, hg2, hcur⟩ := hp3 rfl
    clear hp3 hno
    go_wp2_with fail
    refine (curRest g2 0 ct w3 hcur).mono ?_
    rintro e w4 ⟨A4, n4, c4, rfl, ho4, hc4, o4⟩
    simp only [List.drop_zero] at ho4
    have hg2R : R + 2 ≤ g2 := by omega
    have hP4 := hP3.only1 o4 (by omega)
    have hN4 := hN3.only1 o4 (by omega)
    have hcn := hcur.noByte
    have hc4' : Cur w4 g s l k' := hc3.only o4 (by omega) hcn
    have o4' : Only g w w4 := Only.grown o3' o4 (by intro x hx; cases hx; omega)
    have hs4 : R + 2 ≤ w4.heap.size := by have := o4.size; omega
    clear hP3 hN3 p0 p1 p2 p3 n0 n1 hcur hc3 o3' o3 hcn hc4
    have hn4 := ho4.bs.1.len
    go_wp2_with fail
    refine (btParse A4 n4 c4 ct w4 ho4.bs.1 ho4.bs.2 (by omega)).mono ?_
    rintro e w5 ⟨hy5, hno5, b5⟩
    have hP5 := hP4.below b5
    have hN5 := hN4.below b5
    have hc5 := hc4'.below b5
    have o5 := o4'.trans (Only.of_below b5)
    have hs5 : R + 2 ≤ w5.heap.size := by have := b5.size; omega
    clear hP4 hN4 hc4' o4' ho4 hn4
    cases hp : prsS ct with
    | none =>
      obtain rfl := hno5 hp
      clear hy5 hno5
      have hP6 := hP5.alloc (.cells #[.int .i64 0, .slice none 0 0] 25)
      have hN6 := hN5.alloc (.cells #[.int .i64 0, .slice none 0 0] 25)
      have hc6 := hc5.below (below_alloc1 w5 (.cells #[.int .i64 0, .slice none 0 0] 25))
      have o6 := o5.trans (Only.of_below (below_alloc1 w5 (.cells #[.int .i64 0, .slice none 0 0] 25)))
      have hs6 : R + 2 ≤ (w5.alloc (.cells #[.int .i64 0, .slice none 0 0] 25)).heap.size := by simp; omega
      go_upto_region 7 with (fail)
      generalize (w5.alloc (Obj.cells #[.int .i64 0, .slice none 0 0] 25)) = W6 at *
      clear hP5 hN5 hc5 o5
      go_wp2_with fail
      refine (curBack g k' k _ l _ hc6 hge rfl).mono ?_
      rintro e w7 ⟨rfl, hc7, o7⟩
      have hP7 := hP6.only1 o7 (by omega)
      have hN7 := hN6.only1 o7 (by omega)
      have o7' := o6.trans o7
      clear hP6 hN6 hc6 o6
      obtain ⟨p0, p1, p2, p3⟩ := hP7.two
      obtain ⟨n0, n1, _, _⟩ := hN7.two
      obtain ⟨q0, q1, _, _⟩ := (hP7.put (.int .i64 0) (.slice none 0 0)).two
      have oR := ((Only.refl w.heap.size w7).setCell (p := ⟨w.heap.size, 0, none⟩) rfl (.int .i64 0)).setCell (p := ⟨w.heap.size, 1, none⟩) rfl (.slice none 0 0)
      have hc8 := hc7.only oR (by omega) (hP7.noByte (NoB.str _ _ _ _))
      have o8 : Only g w _ := Only.grown o7' oR (by intro x hx; cases hx; omega)
      clear hP7 hN7 hc7 o7' o7
      go_wp2
      refine bodyPost_ret (v := .tuple #[.agg #[.int .i64 0, .slice none 0 0], .int .i64 6]) (by simp [results, Try.results52, go_sem, q0, q1]) rfl ?_
      rw [hRS.out]
      exact ⟨o8, fun h => absurd rfl h, fun _ _ => ⟨rfl, hc8⟩, fun _ u t h => by rw [hp] at h; cases h⟩
    | some ut =>
      obtain ⟨u, t⟩ := ut
      obtain ⟨A5, n5, c5, rfl, ho5⟩ := hy5 u t hp
      clear hy5 hno5
      have hP6 := hP5.alloc (.cells #[.int .i64 u, .slice A5 n5 c5] 25)
      have hX6 := Blk.new2 w5 (.int .i64 u) (.slice A5 n5 c5) 25
      have hc6 := hc5.below (below_alloc1 w5 (.cells #[.int .i64 u, .slice A5 n5 c5] 25))
      have o6 := o5.trans (Only.of_below (below_alloc1 w5 (.cells #[.int .i64 u, .slice A5 n5 c5] 25)))
      have s6 := ho5.bs.1.below (below_alloc1 w5 (.cells #[.int .i64 u, .slice A5 n5 c5] 25))
      have k6 := ho5.bs.2
      have hs6 : R + 2 ≤ (w5.alloc (.cells #[.int .i64 u, .slice A5 n5 c5] 25)).heap.size := by simp; omega
      go_upto_region 7 with (fail)
      generalize (w5.alloc (Obj.cells #[.int .i64 u, .slice A5 n5 c5] 25)) = W6 at *
      generalize w5.heap.size = X at *
      clear hP5 hN5 hc5 o5 ho5
      obtain ⟨x0, x1, _, _⟩ := hX6.two
      obtain ⟨p0, p1, p2, p3⟩ := hP6.two
      obtain ⟨q0, q1, _, _⟩ := (hP6.put (.int .i64 u) (.slice A5 n5 c5)).two
      have oR := ((Only.refl w.heap.size W6).setCell (p := ⟨w.heap.size, 0, none⟩) rfl (.int .i64 u)).setCell (p := ⟨w.heap.size, 1, none⟩) rfl (.slice A5 n5 c5)
      have hc8 := hc6.only oR (by omega) (hP6.noByte (NoB.str _ _ _ _))
      have s8 := s6.put hP6 (NoB.str _ _ _ _) (.int .i64 u) (.slice A5 n5 c5)
      have o8 : Only g w _ := Only.grown o6 oR (by intro x hx; cases hx; omega)
      clear hP6 hX6 hc6 o6 s6
      go_wp2
      refine bodyPost_ret (v := .tuple #[.agg #[.int .i64 u, .slice A5 n5 c5], .int .i64 0]) (by simp [results, Try.results52, go_sem, q0, q1]) rfl ?_
      rw [hRS.out]
      exact ⟨o8, fun h => absurd rfl h, fun _ h => (by rw [hp] at h; cases h), fun _ u' t' h => (by rw [hp] at h; cases h; exact ⟨⟨A5, n5, c5, rfl, s8, k6⟩, hc8⟩)⟩
  · have hT := hno q
    obtain ⟨rfl, rfl⟩ : ct = [] ∧ k' = k := by simpa using hT
    clear hno hp3 hT
    have e1 : (E != 0) = true := by simpa using q
    have e2 : (E == 0) = false := by simpa using q
    obtain ⟨q0, q1, _, _⟩ := (hP3.put (.int .i64 0) (.slice none 0 0)).two
    have oR := ((Only.refl w.heap.size w3).setCell (p := ⟨w.heap.size, 0, none⟩) rfl (.int .i64 0)).setCell (p := ⟨w.heap.size, 1, none⟩) rfl (.slice none 0 0)
    have hc8 := hc3.only oR (by omega) (hP3.noByte (NoB.str _ _ _ _))
    have o8 : Only g w _ := Only.grown o3' oR (by intro x hx; cases hx; omega)
    clear hP3 hN3 hc3 o3' o3
    go_wp2
    refine bodyPost_ret (v := .tuple #[.agg #[.int .i64 0, .slice none 0 0], .int .i64 E]) (by simp [results, Try.results52, go_sem, q0, q1]) rfl ?_
    rw [hRS.out]
    exact ⟨o8, fun _ => ⟨rfl, hc8⟩, fun h => absurd h q, fun h => absurd h q⟩

set_option maxHeartbeats 1600000 in
theorem btRead (g k : Nat) (l : List UInt8) (w : World) {s : Value} (h : Cur w g s l k) (hl : l.length ≤ 1099511) :
    Calls Try.prog 31 #[.pointer (some ⟨g, 0, none⟩)] w (ReadS w g s l k) := by
  have hg := h.lt
  have hP := Blk.new2 w (.int .i64 0) (.slice none 0 0) 25
  have b0 := below_alloc1 w (.cells #[.int .i64 0, .slice none 0 0] 25)
  have h0 := h.below b0
  have o0 : Only g w _ := Only.of_below b0
  go_enter Try.func31, Try.ntmps31
  go_upto_region 1 with (fail)
  generalize (w.alloc (Obj.cells #[.int .i64 0, .slice none 0 0] 25)) = W0 at *
  go_wp2_with fail
  refine (btReadG g k l W0 h0 hl).mono ?_
  rintro e w1 ⟨o1, c1, c2, c3⟩
  have hP1 := hP.only1 o1 (by omega)
  have o1' := o0.trans o1
  obtain ⟨p0, p1, p2, p3⟩ := hP1.two
  have FIN : Hid (∀ (v0 v1 : Value) (E : Int), e = .returned (.tuple #[.agg #[v0, v1], .int .i64 E]) → (∃ z, v0 = .int .i64 z) → (∃ A m c, v1 = .slice A m c) → ReadS w g s l k e ((w1.setCell ⟨w.heap.size, 0, none⟩ v0).setCell ⟨w.heap.size, 1, none⟩ v1)) := by
    intro v0 v1 E he hv0 hv1
    have oR := ((Only.refl w.heap.size w1).setCell (p := ⟨w.heap.size, 0, none⟩) rfl v0).setCell (p := ⟨w.heap.size, 1, none⟩) rfl v1
    have nb := hP1.noByte (NoB.str 0 none 0 0)
    refine ⟨Only.grown o1' oR (by intro x hx; cases hx; omega), fun h => ⟨(c1 h).1, (c1 h).2.only oR (by omega) nb⟩, fun h hq => ⟨(c2 h hq).1, (c2 h hq).2.only oR (by omega) nb⟩, fun h u t hq => ?_⟩
    obtain ⟨⟨A, m, c, he', hb, hm⟩, hc⟩ := c3 h u t hq
    exact ⟨⟨A, m, c, he', hb.put hP1 (NoB.str _ _ _ _) v0 v1, hm⟩, hc.only oR (by omega) nb⟩
  obtain ⟨z, A, m, c, E, rfl⟩ : ∃ z A m c E, e = .returned (.tuple #[.agg #[.int .i64 z, .slice A m c], .int .i64 E]) := by
    by_cases q : (rOpen l k (tg5 3)).2.2 = 0
    · cases hp : prsS (rOpen l k (tg5 3)).1 with
      | none => exact ⟨_, _, _, _, _, (c2 q hp).1⟩
      | some ut => obtain ⟨⟨A, m, c, he, _⟩, _⟩ := c3 q ut.1 ut.2 hp; exact ⟨_, _, _, _, _, he⟩
    · exact ⟨_, _, _, _, _, (c1 q).1⟩
  have F1 := Lib.hid (FIN.out _ _ E rfl ⟨z, rfl⟩ ⟨A, m, c, rfl⟩)
  obtain ⟨q0, q1, _, _⟩ := (hP1.put (.int .i64 z) (.slice A m c)).two
  clear FIN c1 c2 c3 hP hP1 o0 o1' o1 h0 h
  go_wp2
  refine bodyPost_ret (v := .tuple #[.agg #[.int .i64 z, .slice A m c], .int .i64 E]) (by simp [results, Try.results31, go_sem, q0, q1]) rfl ?_
  exact F1.out

end Go.Proofs.Ytdebekedilogoaa
