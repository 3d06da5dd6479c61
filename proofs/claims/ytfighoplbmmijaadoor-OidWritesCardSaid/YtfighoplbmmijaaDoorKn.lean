/-
  The contracts of the laws' own functions: the chapter's examples, the first fifty numbers; the reference's order.
-/
import Derived.Test.YtfighoplbmmijaaDoorOf
import Derived.Test.YtfighoplbmmijaaDoorHex
namespace Go.Proofs.YtfighoplbmmijaaDoor
open Go.RowKit Go.Joins
set_option linter.unusedVariables false
set_option linter.unusedSimpArgs false
set_option maxRecDepth 4000

theorem arc_one (n : Nat) (h : n < 128) : arcO (n : Int) = [UInt8.ofNat n] := by
  unfold arcO; rw [Int.toNat_natCast, spl_small h, Nat.add_zero]
theorem known_a : contO [1, 2, 840, 113549] = [42, 134, 72, 134, 247, 13] := by
  have e1 : arcO (40 * zth [1, 2, 840, 113549] 0 + zth [1, 2, 840, 113549] 1) = [42] := by
    show spl 42 0 = _
    rw [spl_small (by omega)]; rfl
  have e2 : arcO 840 = [134, 72] := by
    show spl 840 0 = _
    rw [spl_big (by omega), spl_small (by omega)]; rfl
  have e3 : arcO 113549 = [134, 247, 13] := by
    show spl 113549 0 = _
    rw [spl_big (by omega), spl_big (by omega), spl_small (by omega)]; rfl
  unfold contO
  rw [e1]
  simp [e2, e3]
theorem known_b : contO [2, 999] = [136, 55] := by
  have e1 : arcO (40 * zth [2, 999] 0 + zth [2, 999] 1) = [136, 55] := by
    show spl 1079 0 = _
    rw [spl_big (by omega), spl_small (by omega)]; rfl
  unfold contO
  rw [e1]
  simp
theorem known_s : textO [2, 5, 29, 20] = [50, 46, 53, 46, 50, 57, 46, 50, 48] := by
  have e1 : Lib.itoa 2 = [50] := by
    show Lib.itoa ((2 : Nat) : Int) = _
    rw [Lib.itoa_nonneg, Lib.decDigits_one (by omega)]; rfl
  have e2 : Lib.itoa 5 = [53] := by
    show Lib.itoa ((5 : Nat) : Int) = _
    rw [Lib.itoa_nonneg, Lib.decDigits_one (by omega)]; rfl
  have e3 : Lib.itoa 29 = [50, 57] := by
    show Lib.itoa ((29 : Nat) : Int) = _
    rw [Lib.itoa_nonneg, Lib.decDigits_two (by omega) (by omega)]; rfl
  have e4 : Lib.itoa 20 = [50, 48] := by
    show Lib.itoa ((20 : Nat) : Int) = _
    rw [Lib.itoa_nonneg, Lib.decDigits_two (by omega) (by omega)]; rfl
  unfold textO
  simp only [List.map_cons, List.map_nil, e1, e2, e3, e4]
  rfl
theorem known_p : prsO [128, 1] = ([], 6) := by rfl

set_option maxHeartbeats 3200000 in
theorem oidKnown (w : World) (ht : Tab w) :
    Calls Tryd.prog 15 #[] w fun e w' => e = .returned (.bool true) ∧ Below w.heap.size w w' := by
  have r1 : RightO [1, 2, 840, 113549] := (rightO_iff _).1 (by decide)
  have r2 : RightO [2, 999] := (rightO_iff _).1 (by decide)
  have r3 : RightO [2, 5, 29, 20] := (rightO_iff _).1 (by decide)
  have z1 := Zs.newL w [1, 2, 840, 113549] #[.int .i64 1, .int .i64 2, .int .i64 840, .int .i64 113549] 3 (0, 0) rfl
  have C1 := oidContents _ 4 4 _ _ z1 (by omega) (by omega) r1
  rw [known_a] at C1
  go_enter Tryd.func15, Tryd.ntmps15
  go_wp2_with fail
  refine C1.mono ?_
  rintro e w1 ⟨A1, m1, c1, rfl, ho1, hB1⟩
  clear C1 z1
  have b1 : Below w.heap.size w w1 := (below_alloc1 _ _).trans (Below.mono hB1 (by simp))
  have z2 := Zs.newL w1 [2, 999] #[.int .i64 2, .int .i64 999] 3 (0, 0) rfl
  have C2 := oidContents _ 2 2 _ _ z2 (by omega) (by omega) r2
  rw [known_b] at C2
  have o1 := ho1.bs.1.below (below_alloc1 w1 (.cells #[.int .i64 2, .int .i64 999] 3))
  have l1 := ho1.bs.2
  have n1 : m1 = 6 := ho1.bs.1.len.symm
  subst n1
  go_wp2_with fail
  refine C2.mono ?_
  rintro e w2 ⟨A2, m2, c2, rfl, ho2, hB2⟩
  have b2 : Below w.heap.size w w2 := b1.trans (Below.mono ((below_alloc1 _ _).trans (Below.mono hB2 (by simp))) b1.size)
  have o1' := o1.below hB2
  have n2 : m2 = 2 := ho2.bs.1.len.symm
  subst n2
  have o2 := ho2.bs.1
  clear C2 z2 ho1 hB1 o1 hB2 ho2
  have p1 := Bs.newL w2 [128, 1] 5
  have P1 := oidParse _ 2 2 _ _ p1 (by omega) (by omega)
  rw [known_p] at P1
  have hBa := below_alloc1 w2 (.cells #[.int .u8 128, .int .u8 1] 5)
  have o1 := o1'.below hBa
  have o2' := o2.below hBa
  go_wp2_with fail
  refine P1.mono ?_
  rintro e w3 ⟨v3, rfl, ho3, hB3⟩
  have b3 : Below w.heap.size w w3 := b2.trans (Below.mono (hBa.trans (Below.mono hB3 (by simp))) b2.size)
  have o1' := o1.below hB3
  have o2 := o2'.below hB3
  obtain ⟨A3, c3, rfl, _, _⟩ := ho3.slice
  clear o1 o2' P1 p1 hBa hB3 ho3
  have z4 := Zs.newL w3 [2, 5, 29, 20] #[.int .i64 2, .int .i64 5, .int .i64 29, .int .i64 20] 3 (0, 0) rfl
  have hBa := below_alloc1 w3 (.cells #[.int .i64 2, .int .i64 5, .int .i64 29, .int .i64 20] 3)
  have T1 := oidText _ 4 4 _ _ z4 (by omega) r3 ((ht.below b3).below hBa)
  rw [known_s] at T1
  go_wp2_with fail
  refine T1.mono ?_
  rintro e w4 ⟨rfl, hB4⟩
  have b4 : Below w.heap.size w w4 := b3.trans (Below.mono (hBa.trans (Below.mono hB4 (by simp))) b3.size)
  have o1 := (o1'.below hBa).below hB4
  have o2' := (o2.below hBa).below hB4
  clear o1' o2 T1 z4 hBa hB4
  have H1 := octHex A1 6 c1 _ w4 o1 (by omega)
  rw [show hexL [42, 134, 72, 134, 247, 13] = [50, 97, 56, 54, 52, 56, 56, 54, 102, 55, 48, 100] by decide] at H1
  go_wp2_with fail
  refine H1.mono ?_
  rintro e w5 ⟨rfl, hB5⟩
  have b5 : Below w.heap.size w w5 := b4.trans (Below.mono hB5 b4.size)
  have o2 := o2'.below hB5
  clear o1 o2' H1 hB5
  have H2 := octHex A2 2 c2 _ w5 o2 (by omega)
  rw [show hexL [136, 55] = [56, 56, 51, 55] by decide] at H2
  go_wp2_with fail
  refine H2.mono ?_
  rintro e w6 ⟨rfl, hB6⟩
  have b6 : Below w.heap.size w w6 := b5.trans (Below.mono hB6 b5.size)
  clear o2 H2 hB6
  go_wp2
  go_ret
  exact ⟨rfl, b6⟩

theorem few4 (A : Option Addr) (n c : Nat) (l : List Int) (w : World) (h : Zs w A n l) (hc : n ≤ c) :
    Calls Tryd.prog 7 #[.slice A n c] w fun e w' => e = .returned (.slice A (min n 50) c) ∧ Zs w A (min n 50) (l.take (min n 50)) ∧ w = w' := by
  have hz := Lib.hid (h.take (m := min n 50) (by omega))
  by_cases h50 : n ≤ 50
  · have e : min n 50 = n := by omega
    rw [e] at hz ⊢
    have e1 : ¬ (50 : Int) < n := by omega
    go_enter Tryd.func7, Tryd.ntmps7
    go_wp2
    go_ret
    exact ⟨by show Ending.returned (Value.slice A (min (n : Int) 50).toNat c) = _; rw [show (min (n : Int) 50).toNat = n by omega], hz.out, rfl⟩
  · have e : min n 50 = 50 := by omega
    rw [e] at hz ⊢
    have e1 : (50 : Int) < n := by omega
    have e2 : 50 ≤ c := by omega
    go_enter Tryd.func7, Tryd.ntmps7
    go_wp2
    go_ret
    exact ⟨by show Ending.returned (Value.slice A (min (n : Int) 50).toNat c) = _; rw [show (min (n : Int) 50).toNat = 50 by omega], hz.out, rfl⟩

set_option maxHeartbeats 1600000 in
theorem ref4Compare (A B : Option Addr) (n m c d : Nat) (a b : List Int) (w : World) (ha : Zs w A n a) (hb : Zs w B m b) (hn : n ≤ 1099511627776) (hm : m ≤ 1099511627776) :
    Calls Tryd.prog 26 #[.slice A n c, .slice B m d] w fun e w' => e = .returned (.int .i64 (cmpZ a b)) ∧ Qt w w' := by
  have la := Lib.hid ha.len
  have lb := Lib.hid hb.len
  go_enter Tryd.func26, Tryd.ntmps26
  go_wp2
  go_loopw [5] (fun i wr => ∃ k : Nat, k ≤ n ∧ k ≤ m ∧ i = .int .i64 (k : Int) ∧ Hid (cmpZ a b = cmpZ (a.drop k) (b.drop k)) ∧ Qt w wr) (fun i _ => n - (intOf i).toNat)
  case atStart => exact ⟨0, by omega, by omega, rfl, by simp [Hid], Qt.refl _⟩
  case round =>
    obtain ⟨k, hk, hkm, rfl, hv, hq⟩ := hrel
    by_cases hlt : k < n
    · obtain ⟨b1, o1, rfl, c1⟩ := (ha.qt hq).at_ hlt
      have e1 : (k : Int) < n := by omega
      by_cases hlm : k < m
      · obtain ⟨b2, o2, rfl, c2⟩ := (hb.qt hq).at_ hlm
        have e2 : (k : Int) < m := by omega
        have hst := Lib.hid (cmpZ_step (a := a) (b := b) (k := k) (by rw [la.out]; exact hlt) (by rw [lb.out]; exact hlm))
        generalize zth a k = x at *
        generalize zth b k = y at *
        by_cases h1 : x < y
        · have hF : Hid (cmpZ a b = -1) := by unfold Hid; rw [hv.out, hst.out, if_pos h1]
          clear hst hv
          go_wp2
          go_quiet (fail)
          go_wp2
          go_ret
          rw [hF.out]
          first | exact ⟨rfl, hq.drewN _⟩ | exact ⟨rfl, (hq.drewN _).drewN _⟩
        · by_cases h2 : y < x
          · have hF : Hid (cmpZ a b = 1) := by unfold Hid; rw [hv.out, hst.out, if_neg h1, if_pos h2]
            clear hst hv
            go_wp2
            go_quiet (fail)
            go_wp2
            go_quiet (fail)
            go_wp2
            go_ret
            rw [hF.out]
            first | exact ⟨rfl, hq.drewN _⟩ | exact ⟨rfl, (hq.drewN _).drewN _⟩
          · have hF : Hid (cmpZ a b = cmpZ (a.drop (k + 1)) (b.drop (k + 1))) := by unfold Hid; rw [hv.out, hst.out, if_neg h1, if_neg h2]
            clear hst hv
            go_wp2
            go_quiet (fail)
            go_wp2
            go_quiet (fail)
            go_wp2
            go_roundw
            case rel => exact ⟨k + 1, by omega, by omega, by go_num, hF, hq.drewN _⟩
            case measure => simp [intOf]; omega
      · have hF : Hid (cmpZ a b = 1) := by unfold Hid; rw [hv.out]; exact cmpZ_long (by rw [la.out]; exact hlt) (by rw [lb.out]; omega)
        have e2 : ¬ (k : Int) < m := by omega
        have e3 : (m : Int) ≤ k := by omega
        have e4 : m ≤ k := by omega
        have e5 : decide (k < m) = false := by simp; omega
        have e6 : decide (m ≤ k) = true := by simp; omega
        have e7 : decide (n ≤ k) = false := by simp; omega
        clear hv
        go_wp2
        go_quiet (fail)
        go_wp2
        go_quiet (fail)
        go_wp2
        go_ret
        rw [hF.out]
        first | exact ⟨rfl, hq.drewN _⟩ | exact ⟨rfl, (hq.drewN _).drewN _⟩
    · have hkn : k = n := by omega
      have e0 : ¬ (k : Int) < n := by omega
      have e0' : (n : Int) ≤ k := by omega
      have e5 : decide (k < n) = false := by simp; omega
      have e7 : decide (n ≤ k) = true := by simp; omega
      by_cases hlm : k < m
      · have hF : Hid (cmpZ a b = -1) := by unfold Hid; rw [hv.out]; exact cmpZ_short (by rw [la.out]; omega) (by rw [lb.out]; omega)
        have e2 : (k : Int) < m := by omega
        clear hv hkn
        go_wp2
        go_quiet (fail)
        go_wp2
        go_ret
        rw [hF.out]
        first | exact ⟨rfl, hq.drewN _⟩ | exact ⟨rfl, (hq.drewN _).drewN _⟩
      · have hF : Hid (cmpZ a b = 0) := by unfold Hid; rw [hv.out]; exact cmpZ_end (by rw [la.out]; omega) (by rw [lb.out]; omega)
        have e2 : ¬ (k : Int) < m := by omega
        clear hv hkn
        go_wp2
        go_ret
        rw [hF.out]
        exact ⟨rfl, hq⟩

theorem ref4Same (A B : Option Addr) (n m c d : Nat) (a b : List Int) (w : World) (ha : Zs w A n a) (hb : Zs w B m b) (hn : n ≤ 1099511627776) (hm : m ≤ 1099511627776) :
    Calls Tryd.prog 14 #[.slice A n c, .slice B m d] w fun e w' => e = .returned (.bool (decide (a = b))) ∧ Qt w w' := by
  have hF : Hid ((cmpZ a b == 0) = decide (a = b)) := by
    unfold Hid; rw [Bool.eq_iff_iff]; simp [cmpZ_zero]
  go_enter Tryd.func14, Tryd.ntmps14
  go_wp2_with fail
  refine (ref4Compare A B n m c d a b w ha hb hn hm).mono ?_
  rintro e w' ⟨rfl, hq⟩
  go_wp2
  go_ret
  refine ⟨?_, hq⟩
  rw [← hF.out]
  rfl
end Go.Proofs.YtfighoplbmmijaaDoor
