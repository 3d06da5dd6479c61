/-
  The contracts of the project's oid: the order of oids, beginnings; an oid's text.
-/
import Derived.Test.YtfighoplbmmijaaDoorOd
namespace Go.Proofs.YtfighoplbmmijaaDoor
open Go.RowKit Go.Joins
set_option linter.unusedVariables false
set_option linter.unusedSimpArgs false
set_option maxRecDepth 4000

/-- Sign of a difference. -/
def sg (a b : Int) : Int := if a < b then -1 else if b < a then 1 else 0
theorem cmpCompare (a b : Int) (w : World) :
    Calls Tryd.prog 69 #[.int .i64 a, .int .i64 b] w fun e w' => e = .returned (.int .i64 (sg a b)) ∧ w = w' := by
  by_cases h1 : a < b
  · go_enter Tryd.func69, Tryd.ntmps69
    go_wp2
    go_ret
    exact ⟨ret_int (by unfold sg; rw [if_pos h1]), rfl⟩
  · by_cases h2 : b < a
    · go_enter Tryd.func69, Tryd.ntmps69
      go_wp2
      go_ret
      exact ⟨ret_int (by unfold sg; rw [if_neg (by omega), if_pos h2]), rfl⟩
    · go_enter Tryd.func69, Tryd.ntmps69
      go_wp2
      go_ret
      exact ⟨ret_int (by unfold sg; rw [if_neg (by omega), if_neg (by omega)]), rfl⟩

set_option maxHeartbeats 1600000 in
theorem slicesCompare (A B : Option Addr) (n m c d : Nat) (a b : List Int) (w : World) (ha : Zs w A n a) (hb : Zs w B m b) (hn : n ≤ 1099511627776) (hm : m ≤ 1099511627776) :
    Calls Tryd.prog 50 #[.slice A n c, .slice B m d] w fun e w' => e = .returned (.int .i64 (cmpZ a b)) ∧ w = w' := by
  have la := Lib.hid ha.len
  have lb := Lib.hid hb.len
  go_enter Tryd.func50, Tryd.ntmps50
  go_wp2
  go_loop [11] (fun i => ∃ k : Nat, k ≤ n ∧ k ≤ m ∧ i = .int .i64 (k : Int) ∧ Hid (cmpZ a b = cmpZ (a.drop k) (b.drop k))) (fun i => n - (intOf i).toNat)
  case atStart => exact ⟨0, by omega, by omega, rfl, by simp [Hid]⟩
  case round =>
    obtain ⟨k, hk, hkm, rfl, hv⟩ := hrel
    by_cases hlt : k < n
    · obtain ⟨b1, o1, rfl, c1⟩ := ha.at_ hlt
      have e1 : (k : Int) < n := by omega
      by_cases hlm : k < m
      · obtain ⟨b2, o2, rfl, c2⟩ := hb.at_ hlm
        have e2 : (k : Int) < m := by omega
        have hst := Lib.hid (cmpZ_step (a := a) (b := b) (k := k) (by rw [la.out]; exact hlt) (by rw [lb.out]; exact hlm))
        generalize zth a k = x at *
        generalize zth b k = y at *
        by_cases h1 : x < y
        · have hF : Hid (cmpZ a b = -1) := by unfold Hid; rw [hv.out, hst.out, if_pos h1]
          have hs : Hid (sg x y = -1) := by unfold Hid sg; rw [if_pos h1]
          clear hst hv h1
          go_wp2_with fail
          refine (cmpCompare x y _).mono ?_
          rintro e w' ⟨rfl, rfl⟩
          rw [hs.out]
          go_wp2
          go_ret
          rw [hF.out]
          exact ⟨rfl, rfl⟩
        · by_cases h2 : y < x
          · have hF : Hid (cmpZ a b = 1) := by unfold Hid; rw [hv.out, hst.out, if_neg h1, if_pos h2]
            have hs : Hid (sg x y = 1) := by unfold Hid sg; rw [if_neg h1, if_pos h2]
            clear hst hv h1 h2
            go_wp2_with fail
            refine (cmpCompare x y _).mono ?_
            rintro e w' ⟨rfl, rfl⟩
            rw [hs.out]
            go_wp2
            go_ret
            rw [hF.out]
            exact ⟨rfl, rfl⟩
          · have hF : Hid (cmpZ a b = cmpZ (a.drop (k + 1)) (b.drop (k + 1))) := by unfold Hid; rw [hv.out, hst.out, if_neg h1, if_neg h2]
            have hs : Hid (sg x y = 0) := by unfold Hid sg; rw [if_neg h1, if_neg h2]
            clear hst hv h1 h2
            go_wp2_with fail
            refine (cmpCompare x y _).mono ?_
            rintro e w' ⟨rfl, rfl⟩
            rw [hs.out]
            go_wp2
            go_round
            case rel => exact ⟨k + 1, by omega, by omega, by go_num, hF⟩
            case measure => simp [intOf]; omega
      · have hF : Hid (cmpZ a b = 1) := by unfold Hid; rw [hv.out]; exact cmpZ_long (by rw [la.out]; exact hlt) (by rw [lb.out]; omega)
        have e2 : ¬ (k : Int) < m := by omega
        have e3 : (m : Int) ≤ k := by omega
        have e4 : m ≤ k := by omega
        clear hv
        go_wp2
        go_ret
        rw [hF.out]
        exact ⟨rfl, rfl⟩
    · have hkn : k = n := by omega
      by_cases hlm : n < m
      · have hF : Hid (cmpZ a b = -1) := by unfold Hid; rw [hv.out]; exact cmpZ_short (by rw [la.out]; omega) (by rw [lb.out]; omega)
        have e2 : (n : Int) < m := by omega
        clear hv
        go_wp2
        go_ret
        rw [hF.out]
        exact ⟨rfl, rfl⟩
      · have hF : Hid (cmpZ a b = 0) := by unfold Hid; rw [hv.out]; exact cmpZ_end (by rw [la.out]; omega) (by rw [lb.out]; omega)
        have e2 : ¬ (n : Int) < m := by omega
        clear hv
        go_wp2
        go_ret
        rw [hF.out]
        exact ⟨rfl, rfl⟩

theorem oidCompare (A B : Option Addr) (n m c d : Nat) (a b : List Int) (w : World) (ha : Zs w A n a) (hb : Zs w B m b) (hn : n ≤ 1099511627776) (hm : m ≤ 1099511627776) :
    Calls Tryd.prog 25 #[.slice A n c, .slice B m d] w fun e w' => e = .returned (.int .i64 (cmpZ a b)) ∧ w = w' := by
  go_enter Tryd.func25, Tryd.ntmps25
  go_wp2_with fail
  refine (slicesCompare A B n m c d a b w ha hb hn hm).mono ?_
  rintro e w' ⟨rfl, rfl⟩
  go_wp2
  go_ret
  exact ⟨rfl, rfl⟩

theorem slicesEqual (A B : Option Addr) (n c d : Nat) (a b : List Int) (w : World) (ha : Zs w A n a) (hb : Zs w B n b) (hn : n ≤ 1099511627776) :
    Calls Tryd.prog 51 #[.slice A n c, .slice B n d] w fun e w' => e = .returned (.bool (decide (a = b))) ∧ Qt w w' := by
  have la := ha.len
  have lb := hb.len
  by_cases h0 : n = 0
  · subst h0
    have ea : a = [] := List.eq_nil_of_length_eq_zero la
    have eb : b = [] := List.eq_nil_of_length_eq_zero lb
    subst ea eb
    refine (Tryd.slices_Equal_int_empty A B c 0 d w (by omega)).mono ?_
    rintro e w' ⟨rfl, rfl⟩
    exact ⟨rfl, Qt.refl _⟩
  · obtain ⟨b1, o1, rfl, _⟩ := ha.at_ (k := 0) (by omega)
    obtain ⟨b2, o2, rfl, _⟩ := hb.at_ (k := 0) (by omega)
    refine (Tryd.slices_Equal_int b1 o1 n c b2 o2 n d a b w (by omega) (by omega) (by omega) (by omega) ?_ ?_).mono ?_
    · intro j hj
      obtain ⟨_, _, e, hc⟩ := ha.at_ (k := j) (by omega)
      cases e
      exact hc
    · intro j hj
      obtain ⟨_, _, e, hc⟩ := hb.at_ (k := j) (by omega)
      cases e
      exact hc
    · rintro e w' ⟨rfl, q⟩
      refine ⟨?_, q⟩
      rw [List.take_of_length_le (by omega), List.take_of_length_le (by omega)]
      congr 2
      rw [Bool.eq_iff_iff]; simp

set_option maxHeartbeats 1600000 in
theorem oidUnder (A B : Option Addr) (n m c d : Nat) (a b : List Int) (w : World) (ha : Zs w A n a) (hb : Zs w B m b) (hc : n ≤ c) (hn : n ≤ 1099511627776) (hm : m ≤ 1099511627776) :
    Calls Tryd.prog 27 #[.slice A n c, .slice B m d] w fun e w' => e = .returned (.bool (undB a b)) ∧ Qt w w' := by
  have la := Lib.hid ha.len
  have lb := Lib.hid hb.len
  by_cases h : m ≤ n
  · have hE := slicesEqual A B m c d (a.take m) b w (ha.take h) hb hm
    have hF : Hid (undB a b = decide (a.take m = b)) := by
      unfold Hid undB; rw [lb.out, la.out, decide_eq_true h]; rfl
    generalize decide (a.take m = b) = q at *
    have e1 : (m : Int) ≤ n := by omega
    have e2 : m ≤ c := by omega
    go_enter Tryd.func27, Tryd.ntmps27
    go_wp2_with fail
    refine hE.mono ?_
    rintro e w' ⟨rfl, hq⟩
    go_wp2
    go_ret
    rw [hF.out]
    exact ⟨rfl, hq⟩
  · have hF : Hid (undB a b = false) := by
      unfold Hid undB; rw [lb.out, la.out, decide_eq_false h]; rfl
    have e1 : ¬ (m : Int) ≤ n := by omega
    go_enter Tryd.func27, Tryd.ntmps27
    go_wp2
    go_ret
    rw [hF.out]
    exact ⟨rfl, Qt.refl _⟩
end Go.Proofs.YtfighoplbmmijaaDoor
