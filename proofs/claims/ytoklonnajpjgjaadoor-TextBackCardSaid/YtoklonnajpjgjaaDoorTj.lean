/-
  The contracts of the reference's order of ints, and of the law's own examples.
-/
import Derived.Test.YtoklonnajpjgjaaDoorTi
namespace Go.Proofs.YtoklonnajpjgjaaDoor
open Go.RowKit Go.Shelf
set_option linter.unusedVariables false
set_option linter.unusedSimpArgs false
set_option maxRecDepth 4000

/-- Which of two lists is less. -/
def cmpZ : List Int → List Int → Int
  | [], [] => 0
  | [], _ :: _ => -1
  | _ :: _, [] => 1
  | x :: a, y :: b => if x < y then -1 else if y < x then 1 else cmpZ a b
theorem cmpZ_neg : ∀ a b : List Int, cmpZ b a = -cmpZ a b
  | [], [] => rfl
  | [], _ :: _ => rfl
  | _ :: _, [] => rfl
  | x :: a, y :: b => by
    unfold cmpZ
    have := cmpZ_neg a b
    split <;> split <;> (try split) <;> omega
theorem cmpZ_mem : ∀ a b : List Int, cmpZ a b = -1 ∨ cmpZ a b = 0 ∨ cmpZ a b = 1
  | [], [] => by simp [cmpZ]
  | [], _ :: _ => by simp [cmpZ]
  | _ :: _, [] => by simp [cmpZ]
  | x :: a, y :: b => by
    unfold cmpZ
    have := cmpZ_mem a b
    split
    · simp
    · split
      · simp
      · exact this
theorem cmpZ_zero : ∀ {a b : List Int}, cmpZ a b = 0 ↔ a = b
  | [], [] => by simp [cmpZ]
  | [], _ :: _ => by simp [cmpZ]
  | _ :: _, [] => by simp [cmpZ]
  | x :: a, y :: b => by
    unfold cmpZ
    have := @cmpZ_zero a b
    simp only [List.cons.injEq]
    split
    · constructor
      · intro h; omega
      · intro ⟨h, _⟩; omega
    · split
      · constructor
        · intro h; omega
        · intro ⟨h, _⟩; omega
      · rw [this]
        exact ⟨fun h => ⟨by omega, h⟩, fun h => h.2⟩
theorem drop_z {l : List Int} {k : Nat} (h : k < l.length) : l.drop k = zth l k :: l.drop (k + 1) := by
  rw [List.drop_eq_getElem_cons h]; simp [zth, List.getD, List.getElem?_eq_getElem h]
/-- One step: both have a number at k. -/
theorem cmpZ_step {a b : List Int} {k : Nat} (ha : k < a.length) (hb : k < b.length) :
    cmpZ (a.drop k) (b.drop k) = if zth a k < zth b k then -1 else if zth b k < zth a k then 1 else cmpZ (a.drop (k + 1)) (b.drop (k + 1)) := by
  rw [drop_z ha, drop_z hb, cmpZ]
theorem cmpZ_short {a b : List Int} {k : Nat} (ha : a.length ≤ k) (hb : k < b.length) : cmpZ (a.drop k) (b.drop k) = -1 := by
  rw [List.drop_eq_nil_of_le ha, drop_z hb, cmpZ]
theorem cmpZ_long {a b : List Int} {k : Nat} (ha : k < a.length) (hb : b.length ≤ k) : cmpZ (a.drop k) (b.drop k) = 1 := by
  rw [List.drop_eq_nil_of_le hb, drop_z ha, cmpZ]
theorem cmpZ_end {a b : List Int} {k : Nat} (ha : a.length ≤ k) (hb : b.length ≤ k) : cmpZ (a.drop k) (b.drop k) = 0 := by
  rw [List.drop_eq_nil_of_le hb, List.drop_eq_nil_of_le ha, cmpZ]

set_option maxHeartbeats 1600000 in
theorem ref4Compare (A B : Option Addr) (n m c d : Nat) (a b : List Int) (w : World) (ha : Zs w A n a) (hb : Zs w B m b) (hn : n ≤ 1099511627776) (hm : m ≤ 1099511627776) :
    Calls Tryd.prog 42 #[.slice A n c, .slice B m d] w fun e w' => e = .returned (.int .i64 (cmpZ a b)) ∧ Qt w w' := by
  have la := Lib.hid ha.len
  have lb := Lib.hid hb.len
  go_enter Tryd.func42, Tryd.ntmps42
  go_wp2
  go_loopw [5] (fun i wr => ∃ k : Nat, k ≤ n ∧ k ≤ m ∧ i = .int .i64 (k : Int) ∧ Hid (cmpZ a b = cmpZ (a.drop k) (b.drop k)) ∧ Qt w wr) (fun i _ => n - (intOf i).toNat)
  case atStart => exact ⟨0, by omega, by omega, rfl, by simp [Hid], Qt.refl _⟩
  case round =>
    obtain ⟨k, hk, hkm, rfl, hv, hq⟩ := hrel
    by_cases hlt : k < n
    · obtain ⟨b1, o1, rfl, c1⟩ := (ha.qt hq).at_ hlt
      have e1 : (k : Int) < n := by omega
      by_cases hlm : k < m
      · obtain ⟨b2, o2, rfl, c2⟩ := (hb.qt hq).at_ hlm
        have e2 : (k : Int) < m := by omega
        have hst := Lib.hid (cmpZ_step (a := a) (b := b) (k := k) (by rw [la.out]; exact hlt) (by rw [lb.out]; exact hlm))
        generalize zth a k = x at *
        generalize zth b k = y at *
        by_cases h1 : x < y
        · have hF : Hid (cmpZ a b = -1) := by unfold Hid; rw [hv.out, hst.out, if_pos h1]
          clear hst hv
          go_wp2
          go_quiet (fail)
          go_wp2
          go_ret
          rw [hF.out]
          first | exact ⟨rfl, hq.drewN _⟩ | exact ⟨rfl, (hq.drewN _).drewN _⟩
        · by_cases h2 : y < x
          · have hF : Hid (cmpZ a b = 1) := by unfold Hid; rw [hv.out, hst.out, if_neg h1, if_pos h2]
            clear hst hv
            go_wp2
            go_quiet (fail)
            go_wp2
            go_quiet (fail)
            go_wp2
            go_ret
            rw [hF.out]
            first | exact ⟨rfl, hq.drewN _⟩ | exact ⟨rfl, (hq.drewN _).drewN _⟩
          · have hF : Hid (cmpZ a b = cmpZ (a.drop (k + 1)) (b.drop (k + 1))) := by unfold Hid; rw [hv.out, hst.out, if_neg h1, if_neg h2]
            clear hst hv
            go_wp2
            go_quiet (fail)
            go_wp2
            go_quiet (fail)
            go_wp2
            go_roundw
            case rel => exact ⟨k + 1, by omega, by omega, by go_num, hF, hq.drewN _⟩
            case measure => simp [intOf]; omega
      · have hF : Hid (cmpZ a b = 1) := by unfold Hid; rw [hv.out]; exact cmpZ_long (by rw [la.out]; exact hlt) (by rw [lb.out]; omega)
        have e2 : ¬ (k : Int) < m := by omega
        have e3 : (m : Int) ≤ k := by omega
        have e4 : m ≤ k := by omega
        have e5 : decide (k < m) = false := by simp; omega
        have e6 : decide (m ≤ k) = true := by simp; omega
        have e7 : decide (n ≤ k) = false := by simp; omega
        clear hv
        go_wp2
        go_quiet (fail)
        go_wp2
        go_quiet (fail)
        go_wp2
        go_ret
        rw [hF.out]
        first | exact ⟨rfl, hq.drewN _⟩ | exact ⟨rfl, (hq.drewN _).drewN _⟩
    · have hkn : k = n := by omega
      have e0 : ¬ (k : Int) < n := by omega
      have e0' : (n : Int) ≤ k := by omega
      have e5 : decide (k < n) = false := by simp; omega
      have e7 : decide (n ≤ k) = true := by simp; omega
      by_cases hlm : k < m
      · have hF : Hid (cmpZ a b = -1) := by unfold Hid; rw [hv.out]; exact cmpZ_short (by rw [la.out]; omega) (by rw [lb.out]; omega)
        have e2 : (k : Int) < m := by omega
        clear hv hkn
        go_wp2
        go_quiet (fail)
        go_wp2
        go_ret
        rw [hF.out]
        first | exact ⟨rfl, hq.drewN _⟩ | exact ⟨rfl, (hq.drewN _).drewN _⟩
      · have hF : Hid (cmpZ a b = 0) := by unfold Hid; rw [hv.out]; exact cmpZ_end (by rw [la.out]; omega) (by rw [lb.out]; omega)
        have e2 : ¬ (k : Int) < m := by omega
        clear hv hkn
        go_wp2
        go_ret
        rw [hF.out]
        exact ⟨rfl, hq⟩

theorem ref4Same (A B : Option Addr) (n m c d : Nat) (a b : List Int) (w : World) (ha : Zs w A n a) (hb : Zs w B m b) (hn : n ≤ 1099511627776) (hm : m ≤ 1099511627776) :
    Calls Tryd.prog 18 #[.slice A n c, .slice B m d] w fun e w' => e = .returned (.bool (decide (a = b))) ∧ Qt w w' := by
  have hF : Hid ((cmpZ a b == 0) = decide (a = b)) := by
    unfold Hid; rw [Bool.eq_iff_iff]; simp [cmpZ_zero]
  go_enter Tryd.func18, Tryd.ntmps18
  go_wp2_with fail
  refine (ref4Compare A B n m c d a b w ha hb hn hm).mono ?_
  rintro e w' ⟨rfl, hq⟩
  go_wp2
  go_ret
  refine ⟨?_, hq⟩
  rw [← hF.out]
  rfl

theorem kn_runes : runesT 30 [0, 65, 32, 172] = [65, 8364] := by
  rw [runesT_step 30 _ (by simp), show decT 30 [0, 65, 32, 172] = (65, 2) by simp [decT, nth]]
  show 65 :: runesT 30 [32, 172] = _
  rw [runesT_step 30 _ (by simp), show decT 30 [32, 172] = (8364, 2) by simp [decT, nth]]
  show 65 :: 8364 :: runesT 30 [] = _
  rw [runesT_nil]
theorem kn_right : rightT 30 [0, 65, 32, 172] = true := by
  unfold rightT; rw [kn_runes]; decide
theorem kn_utf8 : (runesT 30 [0, 65, 32, 172]).flatMap Lib.encodeRune = [65, 226, 130, 172] := by
  rw [kn_runes]; decide
theorem kn_no : rightT 19 [97, 42] = false := by
  unfold rightT
  rw [runesT_step 19 _ (by simp), show decT 19 [97, 42] = (97, 1) by simp [decT, nth]]
  show (isK 19 && ((97 : Int) :: runesT 19 [42]).all (hasT 19)) = _
  rw [runesT_step 19 _ (by simp), show decT 19 [42] = (42, 1) by simp [decT, nth]]
  show (isK 19 && ((97 : Int) :: 42 :: runesT 19 []).all (hasT 19)) = _
  rw [runesT_nil]; decide
theorem kn_no2 : rightT 12 [192, 128] = false := by
  unfold rightT
  have : decT 12 [192, 128] = (-1, 1) := by
    unfold decT
    rw [Lib.decodeL_N]
    decide
  rw [runesT_step 12 _ (by simp), this]
  simp [hasT_neg]

set_option maxHeartbeats 1600000 in
theorem known6 (w : World) (hT : Tb w) : Calls Tryd.prog 15 #[] w fun e w' => e = .returned (.bool true) ∧ Below w.heap.size w w' := by
  go_enter Tryd.func15, Tryd.ntmps15
  obtain ⟨W1, hW1⟩ : ∃ W1, w.alloc (.cells #[.int .u8 0, .int .u8 65, .int .u8 32, .int .u8 172] 5) = W1 := ⟨_, rfl⟩
  have hb1 : Below w.heap.size w W1 := by rw [← hW1]; exact below_alloc1 _ _
  have hs1 : Bs W1 (some ⟨w.heap.size, 0, none⟩) 4 [0, 65, 32, 172] := by rw [← hW1]; exact Bs.newL w [0, 65, 32, 172] _
  have hC1 := txSignsYes 30 _ 4 4 _ W1 (hT.below hb1) hs1 (by omega) (by omega) kn_right
  rw [kn_runes] at hC1
  go_wp2_with fail
  refine hC1.mono ?_
  rintro e w2 ⟨v, rfl, hov, hb2⟩
  obtain ⟨A1, c1, rfl, hc1, hvs⟩ := hov.slice
  have hz2 : Zs w2 A1 2 [65, 8364] := hvs
  have hB2 : Below w.heap.size w w2 := hb1.trans (Below.mono hb2 hb1.size)
  have hT2 := hT.below hB2
  clear hW1 hC1 hvs hov hb1 hs1 hb2 hT
  obtain ⟨W3, hW3⟩ : ∃ W3, w2.alloc (.cells #[.int .u8 0, .int .u8 65, .int .u8 32, .int .u8 172] 5) = W3 := ⟨_, rfl⟩
  have hb3 : Below w2.heap.size w2 W3 := by rw [← hW3]; exact below_alloc1 _ _
  have hs3 : Bs W3 (some ⟨w2.heap.size, 0, none⟩) 4 [0, 65, 32, 172] := by rw [← hW3]; exact Bs.newL w2 [0, 65, 32, 172] _
  have hC3 := txUtf8Yes 30 _ 4 4 _ W3 (hT2.below hb3) hs3 (by omega) (by omega) kn_right
  rw [kn_utf8] at hC3
  go_wp2_with fail
  refine hC3.mono ?_
  rintro e w4 ⟨rfl, hb4⟩
  have hz4 := (hz2.below hb3).below hb4
  have hB4 : Below w.heap.size w w4 := (hB2.trans (Below.mono hb3 hB2.size)).trans (Below.mono hb4 (by have := hB2.size; have := hb3.size; omega))
  have hT4 := (hT2.below hb3).below hb4
  clear hW3 hC3 hb3 hs3 hb4 hT2 hB2 hz2
  obtain ⟨W5, hW5⟩ : ∃ W5, w4.alloc (.cells #[.int .i64 65, .int .i64 8364] 3) = W5 := ⟨_, rfl⟩
  have hb5 : Below w4.heap.size w4 W5 := by rw [← hW5]; exact below_alloc1 _ _
  have hs5 : Zs W5 (some ⟨w4.heap.size, 0, none⟩) 2 [65, 8364] := by rw [← hW5]; exact Zs.newL w4 [65, 8364] _ _ _ rfl
  have hC5 := ref4Same A1 _ 2 2 c1 2 _ _ W5 (hz4.below hb5) hs5 (by omega) (by omega)
  rw [decide_eq_true rfl] at hC5
  go_wp2_with fail
  refine hC5.mono ?_
  rintro e w6 ⟨rfl, hq6⟩
  have hB6 : Below w.heap.size w w6 := (hB4.trans (Below.mono hb5 hB4.size)).trans hq6.below
  have hT6 := (hT4.below hb5).below hq6.below
  clear hW5 hC5 hb5 hs5 hq6 hT4 hB4 hz4
  obtain ⟨W7, hW7⟩ : ∃ W7, w6.alloc (.cells #[.int .u8 97, .int .u8 42] 5) = W7 := ⟨_, rfl⟩
  obtain ⟨W8, hW8⟩ : ∃ W8, w6.alloc (.cells #[.int .u8 97, .int .u8 42] 5 (2, 3)) = W8 := ⟨_, rfl⟩
  have hcv : (convert 22 22 (.slice (some ⟨w6.heap.size, 0, none⟩) 2 2)).run Tryd.prog W7 = .ok (.slice (some ⟨w6.heap.size, 0, none⟩) 2 2) W8 := by
    rw [← hW7, ← hW8]
    exact Go.Lib.run_convert_bytes_const w6 22 5 #[.int .u8 97, .int .u8 42] 2 2 Tryd.underlying22 Tryd.underlying5
  have hb7 : Below w6.heap.size w6 W8 := by rw [← hW8]; exact below_alloc1 _ _
  have hs7 : Bs W8 (some ⟨w6.heap.size, 0, none⟩) 2 [97, 42] := by rw [← hW8]; exact Bs.newF w6 [97, 42] _ _
  clear hW8
  have hC7 := txRight 19 _ 2 2 _ W8 (hT6.below hb7) hs7 (by omega) (by omega)
  rw [kn_no] at hC7
  go_wp2_with fail
  refine hC7.mono ?_
  rintro e w8 ⟨rfl, hb8⟩
  have hB8 : Below w.heap.size w w8 := (hB6.trans (Below.mono hb7 hB6.size)).trans (Below.mono hb8 (by have := hB6.size; have := hb7.size; omega))
  have hT8 := (hT6.below hb7).below hb8
  clear hW7 hcv hC7 hb7 hs7 hb8 hT6 hB6
  obtain ⟨W9, hW9⟩ : ∃ W9, w8.alloc (.cells #[.int .u8 192, .int .u8 128] 5) = W9 := ⟨_, rfl⟩
  have hb9 : Below w8.heap.size w8 W9 := by rw [← hW9]; exact below_alloc1 _ _
  have hs9 : Bs W9 (some ⟨w8.heap.size, 0, none⟩) 2 [192, 128] := by rw [← hW9]; exact Bs.newL w8 [192, 128] _
  have hC9 := txRight 12 _ 2 2 _ W9 (hT8.below hb9) hs9 (by omega) (by omega)
  rw [kn_no2] at hC9
  go_wp2_with fail
  refine hC9.mono ?_
  rintro e wa ⟨rfl, hba⟩
  have hBa : Below w.heap.size w wa := (hB8.trans (Below.mono hb9 hB8.size)).trans (Below.mono hba (by have := hB8.size; have := hb9.size; omega))
  clear hW9 hC9 hb9 hs9 hba hT8 hB8
  go_wp2_with fail
  refine (txKinds wa).mono ?_
  rintro e wb ⟨rfl, _, hbb⟩
  have hBb := hBa.trans (Below.mono hbb hBa.size)
  clear hbb hBa
  go_wp2
  go_ret
  exact ⟨rfl, hBb⟩
end Go.Proofs.YtoklonnajpjgjaaDoor
