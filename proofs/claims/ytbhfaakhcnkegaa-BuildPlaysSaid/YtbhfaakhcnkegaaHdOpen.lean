/-
  The contracts of the project's head: Open, Is, Alone.
-/
import Derived.Test.YtbhfaakhcnkegaaHdReadB
import Derived.Test.YtbhfaakhcnkegaaOpn
namespace Go.Proofs.Ytbhfaakhcnkegaa
open Go.RowKit
set_option linter.unusedVariables false
set_option linter.unusedSimpArgs false
set_option maxRecDepth 4000

theorem rOpen_no (l : List UInt8) (k : Nat) (t : Tg) (h : (rOpen l k t).2.2 ≠ 0) : rOpen l k t = ([], k, (rOpen l k t).2.2) := by
  unfold rOpen at *
  split
  · rename_i h1
    rw [if_pos h1] at h
    split
    · rename_i h2
      rw [if_pos h2] at h
      split
      · rfl
      · rename_i h3; rw [if_neg h3] at h; simp at h
    · rfl
  · rfl
theorem rHead_ge (l : List UInt8) (k : Nat) : k ≤ (rHead l k).2.2.1 := by
  unfold rHead
  split
  · split
    · have h1 := rTag_ge l k; have h2 := rLen_ge l (rTag l k).2.1; show k ≤ (rLen l (rTag l k).2.1).2.1; omega
    · exact Nat.le_refl _
  · exact Nat.le_refl _

/-- What Open hands back: a cursor over the contents, or none. -/
def OpenRaw (w : World) (g : Nat) (s : Value) (l : List UInt8) (k : Nat) (t : Tg) (e : Ending) (w' : World) : Prop :=
  ∃ (p : Option Addr) (E : Int) (k' : Nat), e = .returned (.tuple #[.pointer p, .int .i64 E]) ∧ Cur w' g s l k' ∧ k ≤ k' ∧ Only g w w' ∧ (rOpen l k t).2.2 = E ∧
    (E = 0 → (rOpen l k t).2.1 = k' ∧ ∃ g2 s2, p = some ⟨g2, 0, none⟩ ∧ w.heap.size ≤ g2 ∧ Cur w' g2 s2 (rOpen l k t).1 0)

set_option maxHeartbeats 1600000 in
theorem hdOpen1 (g k R : Nat) (l : List UInt8) (t : Tg) (w : World) {s : Value} (h : Cur w g s l k) (hR : Own3 w R (.int .i64 t.cls) (.int .i64 t.num) (.bool t.made)) (hne : R ≠ g) :
    Calls Try.prog 82 #[.pointer (some ⟨g, 0, none⟩), .pointer (some ⟨R, 0, none⟩)] w (OpenRaw w g s l k t) := by
  have hge := rHead_ge l k
  have hok := rHead_ok l k
  go_enter Try.func82, Try.ntmps82
  go_wp2_with fail
  refine (hdRead g k l _ h).mono ?_
  rintro e w1 ⟨rfl, hc1, hO1⟩
  have hH : Hid (rOpen l k t = if (rHead l k).2.2.2 = 0 then
    (if (rHead l k).1 = t then
      (if (l.length : Int) - (rHead l k).2.2.1 < (rHead l k).2.1 then ([], k, 3)
       else ((l.drop (rHead l k).2.2.1).take (rHead l k).2.1.toNat, (rHead l k).2.2.1 + (rHead l k).2.1.toNat, 0))
     else ([], k, 4))
    else ([], k, (rHead l k).2.2.2)) := rfl
  generalize rHead l k = T at *
  obtain ⟨⟨uc, un, um⟩, y, k1, E⟩ := T
  simp only at hc1 hH hge hok
  obtain ⟨tc, tn, tm⟩ := t
  simp only at hR
  have o1 := (hR.only hO1 hne).below (below_alloc1 w1 (blk3 uc un um))
  have hO2 := hO1.trans (Only.of_below (below_alloc1 w1 (blk3 uc un um)))
  have hc2 := hc1.below (below_alloc1 w1 (blk3 uc un um))
  obtain ⟨r0, r1, r2, f0, f1, f2⟩ := o1
  clear hc1 hO1 hR
  unfold Tg.v
  by_cases q : E = 0
  · subst q
    rw [if_pos rfl] at hH
    obtain ⟨hy0, hy1, hk1⟩ := hok rfl
    clear hok
    by_cases ht : (⟨uc, un, um⟩ : Tg) = ⟨tc, tn, tm⟩
    · rw [if_pos ht] at hH
      cases ht
      obtain ⟨yn, rfl⟩ : ∃ yn : Nat, y = yn := ⟨y.toNat, by omega⟩
      simp only [Int.toNat_natCast] at hH
      by_cases h3 : (l.length : Int) - k1 < yn
      · rw [if_pos h3] at hH
        go_wp2_with fail
        refine (curSubNo g k1 _ l _ hc2 (.inr h3)).mono ?_
        rw [if_neg (by omega)]
        rintro e w3 ⟨rfl, hq⟩
        go_wp2
        go_ret2
        exact ⟨none, 3, k1, rfl, hc2.qt hq, hge, hO2.trans (Only.of_qt hq), by rw [hH.out], fun e => by simp at e⟩
      · rw [if_neg h3] at hH
        go_wp2_with fail
        refine (curSub g k1 yn _ l _ hc2 (by omega) rfl).mono ?_
        rintro e w3 ⟨g2, s2, rfl, hg2, hcs, hcm, hon⟩
        have hsz := hO2.size
        go_wp2
        go_ret2
        exact ⟨_, 0, k1 + yn, rfl, hcm, by omega, hO2.trans hon, by rw [hH.out], fun _ => ⟨by rw [hH.out], g2, s2, rfl, Nat.le_trans hsz hg2, by rw [hH.out]; exact hcs⟩⟩
    · rw [if_neg ht] at hH
      have fin : Hid (OpenRaw w g s l k ⟨tc, tn, tm⟩ (.returned (.tuple #[.pointer none, .int .i64 4])) (w1.alloc (blk3 uc un um))) :=
        ⟨none, 4, k1, rfl, hc2, hge, hO2, by rw [hH.out], fun e => by simp at e⟩
      clear hc2 hO2
      by_cases a1 : uc = tc
      · by_cases a2 : un = tn
        · have a3 : ¬ um = tm := fun a3 => ht (by rw [a1, a2, a3])
          subst a1 a2
          clear ht
          go_wp2
          go_ret2
          exact fin.out
        · clear ht
          subst a1
          go_wp2
          go_ret2
          exact fin.out
      · clear ht
        go_wp2
        go_ret2
        exact fin.out
  · rw [if_neg q] at hH
    have e1 : (E != 0) = true := by simp; exact q
    have e2 : (E == 0) = false := by simp; exact q
    go_wp2
    go_ret2
    exact ⟨none, E, k1, rfl, hc2, hge, hO2, by rw [hH.out], fun e => absurd e q⟩

/-- What Open hands back. -/
def OpenOk (w : World) (g : Nat) (s : Value) (l : List UInt8) (k : Nat) (t : Tg) (e : Ending) (w' : World) : Prop :=
  ∃ (p : Option Addr), e = .returned (.tuple #[.pointer p, .int .i64 (rOpen l k t).2.2]) ∧ Cur w' g s l (rOpen l k t).2.1 ∧ Only g w w' ∧
    ((rOpen l k t).2.2 = 0 → ∃ g2 s2, p = some ⟨g2, 0, none⟩ ∧ w.heap.size ≤ g2 ∧ Cur w' g2 s2 (rOpen l k t).1 0) ∧ ((rOpen l k t).2.2 ≠ 0 → p = none ∧ (rOpen l k t).1 = [])

set_option maxHeartbeats 1600000 in
theorem hdKeptCur (g k R : Nat) (l : List UInt8) (t : Tg) (w : World) {s : Value} (h : Cur w g s l k) (hR : Own3 w R (.int .i64 t.cls) (.int .i64 t.num) (.bool t.made)) (hne : R ≠ g) :
    Calls Try.prog 81 #[.pointer (some ⟨g, 0, none⟩), .func (.func 82) #[] #[.pointer (some ⟨R, 0, none⟩)]] w (OpenOk w g s l k t) := by
  have hno := rOpen_no l k t
  go_enter Try.func81, Try.ntmps81
  go_wp2_with fail
  refine (curAt g k l _ h).mono ?_
  rintro e w1 ⟨rfl, rfl⟩
  go_wp2_with fail
  refine (hdOpen1 g k R l t _ h hR hne).mono ?_
  rintro e w2 ⟨p, E, k', rfl, hc2, hk2, hO2, hE, hok⟩
  have HE := Lib.hid hE
  have HOK := Lib.hid hok
  have HNO := Lib.hid hno
  clear hE hok hno hR
  by_cases q : E = 0
  · subst q
    obtain ⟨hk', hp⟩ := HOK.out rfl
    have HK := Lib.hid hk'
    have HP := Lib.hid hp
    clear hk' hp
    go_wp2
    go_ret2
    exact ⟨p, by rw [HE.out]; rfl, by rw [HK.out]; exact hc2, hO2, fun _ => HP.out, fun e => absurd HE.out e⟩
  · have hR := Lib.hid (HNO.out (by rw [HE.out]; exact q))
    rw [HE.out] at hR
    have e1 : (E != 0) = true := by simp; exact q
    have e2 : (E == 0) = false := by simp; exact q
    go_wp2_with fail
    refine (curBack g k' k _ l _ hc2 hk2 rfl).mono ?_
    rintro e w4 ⟨rfl, hc4, hO4⟩
    go_wp2
    go_ret2
    exact ⟨none, by rw [hR.out]; rfl, by rw [hR.out]; exact hc4, hO2.trans hO4, fun e => absurd (by rw [hR.out] at e; exact e) q, fun _ => ⟨rfl, by rw [hR.out]⟩⟩

set_option maxHeartbeats 800000 in
theorem hdOpen (g k : Nat) (l : List UInt8) (t : Tg) (w : World) {s : Value} (h : Cur w g s l k) :
    Calls Try.prog 70 #[.pointer (some ⟨g, 0, none⟩), t.v] w (OpenOk w g s l k t) := by
  have hg := h.lt
  obtain ⟨tc, tn, tm⟩ := t
  have hK := Lib.hid (hdKeptCur g k w.heap.size l ⟨tc, tn, tm⟩ (w.alloc (blk3 tc tn tm)) (h.below (below_alloc1 _ _)) (Own3.new w _ _ _ _) (by omega))
  unfold Tg.v
  go_enter Try.func70, Try.ntmps70
  go_wp2_with fail
  refine hK.out.mono ?_
  rintro e w2 ⟨p, rfl, hc, hO, h1, h2⟩
  have hO1 : Only g w w2 := (Only.of_below (below_alloc1 _ _)).trans hO
  have h1' : Hid ((rOpen l k ⟨tc, tn, tm⟩).2.2 = 0 → ∃ g2 s2, p = some ⟨g2, 0, none⟩ ∧ w.heap.size ≤ g2 ∧ Cur w2 g2 s2 (rOpen l k ⟨tc, tn, tm⟩).1 0) := by
    intro q; obtain ⟨g2, s2, e, hg2, r⟩ := h1 q; exact ⟨g2, s2, e, by simp at hg2; omega, r⟩
  have H2 := Lib.hid h2
  clear h1 h2 hK
  go_wp2
  go_ret2
  exact ⟨p, rfl, hc, hO1, h1'.out, H2.out⟩

end Go.Proofs.Ytbhfaakhcnkegaa
