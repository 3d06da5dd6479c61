/-
  The contract of layer 3's reading: the project's ReadInt.
-/
import Derived.Test.YtbjiknfebocepaaGreatDoorZa
import Derived.Test.YtbjiknfebocepaaGreatDoorWj
namespace Go.Proofs.YtbjiknfebocepaaGreatDoor
open Go.RowKit Go.Joins
set_option linter.unusedVariables false
set_option linter.unusedSimpArgs false
set_option maxRecDepth 4000

def InI (z : Int) : Prop := -9223372036854775808 ≤ z ∧ z ≤ 9223372036854775807
instance (z : Int) : Decidable (InI z) := inferInstanceAs (Decidable (_ ∧ _))
/-- What ReadInt gives: the error, the int, the place. -/
def riE (rb : Bool) (T : List UInt8 × Nat × Int) : Int := if rb = false then 1 else if rdE T = 0 then (if InI (rdZ T) then 0 else 2) else rdE T
def riZ (rb : Bool) (T : List UInt8 × Nat × Int) : Int := if riE rb T = 0 then rdZ T else 0
def riK (rb : Bool) (k : Nat) (T : List UInt8 × Nat × Int) : Nat := if riE rb T = 0 then rdK k T else k
def RiP (w : World) (g : Nat) (s : Value) (l : List UInt8) (k : Nat) (rb : Bool) (T : List UInt8 × Nat × Int) (e : Ending) (w' : World) : Prop :=
  e = .returned (.tuple #[.int .i64 (riZ rb T), .int .i64 (riE rb T)]) ∧ Cur w' g s l (riK rb k T) ∧ Only g w w'
theorem RiP.err {w w' : World} {g k : Nat} {s : Value} {l : List UInt8} {rb : Bool} {T : List UInt8 × Nat × Int} {q : Int} (h : riE rb T = q) (hq : q ≠ 0) (hc : Cur w' g s l k) (ho : Only g w w') : RiP w g s l k rb T (.returned (.tuple #[.int .i64 0, .int .i64 q])) w' := by
  refine ⟨?_, ?_, ho⟩
  · unfold riZ; rw [h, if_neg hq]
  · unfold riK; rw [h, if_neg hq]; exact hc
theorem RiP.fine {w w' : World} {g k : Nat} {s : Value} {l : List UInt8} {rb : Bool} {T : List UInt8 × Nat × Int} (h : riE rb T = 0) (hc : Cur w' g s l (rdK k T)) (ho : Only g w w') : RiP w g s l k rb T (.returned (.tuple #[.int .i64 (rdZ T), .int .i64 0])) w' := by
  refine ⟨?_, ?_, ho⟩
  · unfold riZ; rw [h, if_pos rfl]
  · unfold riK; rw [h, if_pos rfl]; exact hc

set_option maxHeartbeats 6400000 in
theorem whReadInt (g k : Nat) (number : Int) (l : List UInt8) (w : World) {s : Value} (h : Cur w g s l k) (hl : l.length ≤ 1000000) :
    Calls Tryz.prog 13 #[.pointer (some ⟨g, 0, none⟩), .int .i64 number] w (RiP w g s l k (tgW number).rightB (rOpen l k (tgW number))) := by
  have hg := h.lt
  have hge : k ≤ rdK k (rOpen l k (tgW number)) := by unfold rdK; split; exact rOpen_ge _ _ _; exact Nat.le_refl _
  have HF : Hid (∀ W, Calls Tryz.prog 25 #[.int .i64 number] W fun e w' => e = .returned (tgW number).v ∧ Below W.heap.size W w') := fun W => hdOf number W
  have HRt := Lib.hid (fun W => hdRight (tgW number) W)
  have HRd := Lib.hid (fun W (hW : Cur W g s l k) => whRead g k l (tgW number) W hW hl)
  generalize rOpen l k (tgW number) = T at *
  generalize (tgW number).rightB = rb at *
  generalize tgW number = t at *
  obtain ⟨tc, tn, tm⟩ := t
  unfold Tg.v at *
  go_enter Tryz.func13, Tryz.ntmps13
  go_wp2_with fail
  refine (HF.out w).mono ?_
  rintro e w1 ⟨rfl, b1⟩
  have kT : Blk (w1.alloc (.cells #[.int .i64 tc, .int .i64 tn, .bool tm] 60)) w1.heap.size 60 [.int .i64 tc, .int .i64 tn, .bool tm] := Blk.new w1 [.int .i64 tc, .int .i64 tn, .bool tm] 60
  have bx := below_alloc1 w1 (.cells #[.int .i64 tc, .int .i64 tn, .bool tm] 60)
  have h1 := (h.below b1).below bx
  have o1 : Only g w _ := (Only.of_below b1).trans (Only.of_below bx)
  have hgX : g < w1.heap.size := (h.below b1).lt
  have hw1 : w.heap.size ≤ w1.heap.size := b1.size
  clear bx b1 h HF
  go_upto_region 2 with (fail)
  generalize (w1.alloc (Obj.cells #[.int .i64 tc, .int .i64 tn, .bool tm] 60)) = W1 at *
  generalize w1.heap.size = X at *
  have t0 := kT.cell 0
  have t1 := kT.cell 1
  have t2 := kT.cell 2
  simp at t0 t1 t2
  go_wp2_with fail
  refine (HRt.out W1).mono ?_
  rintro e w2 ⟨rfl, b2⟩
  have kT2 := kT.below b2
  have h2 := h1.below b2
  have o2 := o1.trans (Only.of_below b2)
  clear kT h1 o1 b2 t0 t1 t2 HRt
  cases rb with
  | false =>
    have FIN : Hid (riE false T = 1) := if_pos rfl
    clear HRd kT2
    go_wp2
    go_ret2
    exact RiP.err FIN.out (by decide) h2 o2
  | true =>
    have t0 := kT2.cell 0
    have t1 := kT2.cell 1
    have t2 := kT2.cell 2
    simp at t0 t1 t2
    go_wp2_with fail
    refine (curAt g k l w2 h2).mono ?_
    rintro e w3 ⟨rfl, hw3⟩
    obtain rfl : w2 = w3 := hw3
    go_wp2_with fail
    refine (HRd.out _ h2).mono ?_
    rintro e w4 ⟨o4, hc4, x, ⟨A4, c4, rfl, s4, hcc⟩, ok4, z4, l4⟩
    have o4' := o2.trans o4
    have HZ := Lib.hid z4
    have HC := Lib.hid hcc
    have FE : Hid (riE true T = if rdE T = 0 then (if InI (rdZ T) then 0 else 2) else rdE T) := if_neg (by simp)
    have FK : Hid (rdE T ≠ 0 → rdK k T = k) := fun hq => if_neg hq
    have FF : Hid (riE true T = 0 → ∀ W', Cur W' g s l (rdK k T) → Only g w W' → RiP w g s l k true T (.returned (.tuple #[.int .i64 (rdZ T), .int .i64 0])) W') := fun h0 W' a1 a2 => RiP.fine h0 a1 a2
    have FR : Hid (∀ q, riE true T = q → q ≠ 0 → ∀ W', Cur W' g s l k → Only g w W' → RiP w g s l k true T (.returned (.tuple #[.int .i64 0, .int .i64 q])) W') := fun q h0 hq W' a1 a2 => RiP.err h0 hq a1 a2
    clear HRd kT2 h2 o2 t0 t1 t2 z4 hcc o4 ok4
    have bx := below_alloc1 w4 (.cells #[.bool x.below, .slice A4 x.size.length c4] 26)
    have hN := Blk.new2 w4 (.bool x.below) (.slice A4 x.size.length c4) 26
    have s5 := s4.below bx
    have h5 := hc4.below bx
    have o5 := o4'.trans (Only.of_below bx)
    have hgN : g < w4.heap.size := hc4.lt
    clear bx s4 hc4 o4'
    obtain ⟨E, hE⟩ : ∃ E, rdE T = E := ⟨_, rfl⟩
    rw [hE] at FE FK ⊢
    obtain ⟨kk, hkk⟩ : ∃ kk, rdK k T = kk := ⟨_, rfl⟩
    rw [hkk] at hge h5 FK FF
    clear hkk hE
    go_upto_region 6 with (fail)
    generalize (w4.alloc (Obj.cells #[.bool x.below, .slice A4 x.size.length c4] 26)) = W5 at *
    generalize w4.heap.size = N at *
    by_cases q : E = 0
    · subst q
      rw [if_pos rfl] at FE
      obtain ⟨n0, n1, _, _⟩ := blk2 hN
      go_wp2_with fail
      refine (whInt x _ W5 ⟨A4, c4, rfl, s5, HC.out⟩ (by omega)).mono ?_
      rw [HZ.out]
      rintro e w6 ⟨hy, hn, b6⟩
      have h6 := h5.below b6
      have o6 := o5.trans (Only.of_below b6)
      clear hN h5 o5 b6 s5 n0 n1
      by_cases hin : InI (rdZ T)
      · obtain rfl := hy hin
        rw [if_pos hin] at FE
        clear hy hn
        go_wp2
        go_ret2
        exact FF.out FE.out _ h6 o6
      · obtain rfl := hn hin
        rw [if_neg hin] at FE
        clear hy hn
        go_wp2_with fail
        refine (curBack g kk k _ l _ h6 hge rfl).mono ?_
        rintro e w7 ⟨rfl, hc7, o7⟩
        have o7' := o6.trans o7
        clear h6 o6 o7
        go_wp2
        go_ret2
        exact FR.out _ FE.out (by decide) _ hc7 o7'
    · have e1 : (E != 0) = true := by simpa using q
      have e2 : (E == 0) = false := by simpa using q
      rw [if_neg q] at FE
      have hkk := FK.out q
      subst hkk
      clear hN s5
      go_wp2
      go_ret2
      exact FR.out _ FE.out q _ h5 o5
end Go.Proofs.YtbjiknfebocepaaGreatDoor
