/-
  The law ClockOrders.
-/
import Derived.Test.YtepbjjhidemaiaaKn
import Derived.Test.YtepbjjhidemaiaaCo
namespace Go.Proofs.Ytepbjjhidemaiaa
open Go.RowKit
set_option linter.unusedVariables false
set_option linter.unusedSimpArgs false
set_option maxRecDepth 4000

theorem cmpZ2_facts (a b : Int) : (decide (cmpZ2 a b < 0) = decide (a < b)) ∧ ((cmpZ2 a b == 0) = (a == b)) := by
  unfold cmpZ2
  by_cases h1 : a < b
  · rw [if_pos h1]; simp [h1]; omega
  · rw [if_neg h1]
    by_cases h2 : b < a
    · rw [if_pos h2]; simp [h1]; omega
    · rw [if_neg h2]; simp [h1]; omega

set_option maxHeartbeats 6400000 in
theorem lawOrdersNo (a b : Int) (w : World) (ha : I64 a) (hb : I64 b) (h : kindS a = 0 ∨ kindS b = 0) :
    Calls Try.prog 6 #[.int .i64 a, .int .i64 b] w fun e w' => e = .returned (.bool true) ∧ Below w.heap.size w w' := by
  have HA0 := fun W => ckGeneral a W ha
  have HB0 := fun W => ckGeneral b W hb
  obtain ⟨x1, y1, e1, q1⟩ : ∃ x y e : Int, (if kindS a ≠ 0 then (Value.tuple #[tmv 24 a, .int .i64 0] : Value) else .tuple #[tmv 0 0, .int .i64 1]) = .tuple #[.agg #[.int .i64 x, .int .i64 y], .int .i64 e] ∧ (kindS a = 0 → e = 1) ∧ (kindS a ≠ 0 → e = 0) := by
    by_cases g : kindS a ≠ 0
    · rw [if_pos g]; exact ⟨_, _, _, rfl, fun h => absurd h g, fun _ => rfl⟩
    · rw [if_neg g]; exact ⟨_, _, _, rfl, fun _ => rfl, fun h => absurd h g⟩
  obtain ⟨x2, y2, e2, q2⟩ : ∃ x y e : Int, (if kindS b ≠ 0 then (Value.tuple #[tmv 24 b, .int .i64 0] : Value) else .tuple #[tmv 0 0, .int .i64 1]) = .tuple #[.agg #[.int .i64 x, .int .i64 y], .int .i64 e] ∧ (kindS b = 0 → e = 1) ∧ (kindS b ≠ 0 → e = 0) := by
    by_cases g : kindS b ≠ 0
    · rw [if_pos g]; exact ⟨_, _, _, rfl, fun h => absurd h g, fun _ => rfl⟩
    · rw [if_neg g]; exact ⟨_, _, _, rfl, fun _ => rfl, fun h => absurd h g⟩
  rw [q1.1] at HA0
  rw [q2.1] at HB0
  have HA := Lib.hid HA0
  have HB := Lib.hid HB0
  have HKn := Lib.hid known10
  have hcase : e1 = 1 ∨ (e1 = 0 ∧ e2 = 1) := by
    by_cases g : kindS a = 0
    · exact .inl (q1.2.1 g)
    · exact .inr ⟨q1.2.2 g, q2.2.1 (by rcases h with h | h; exact absurd h g; exact h)⟩
  clear HA0 HB0 q1 q2 ha hb h
  rcases hcase with rfl | ⟨rfl, rfl⟩
  all_goals
    go_enter Try.func6, Try.ntmps6
    go_wp2_with fail
    refine (HA.out _).mono ?_
    rintro e w2 ⟨rfl, hB2⟩
    have HB2 := Lib.hid (hB2.alloc hB2.size (.cells #[.int .i64 x1, .int .i64 y1] 28))
    clear hB2
    go_wp2_with fail
    refine (HB.out _).mono ?_
    rintro e w4 ⟨rfl, hB4⟩
    have HB4 := Lib.hid (HB2.out.trans ((hB4.alloc hB4.size (.cells #[.int .i64 x2, .int .i64 y2] 28)).mono HB2.out.size))
    clear hB4
    go_wp2_with fail
    refine (HKn.out _).mono ?_
    rintro e w6 ⟨rfl, hB6⟩
    have HB6 := Lib.hid (HB4.out.trans (hB6.mono HB4.out.size))
    clear hB6
    go_wp2
    go_ret
    exact ⟨rfl, HB6.out⟩

/-- A time's contents, as the project hands them back. -/
theorem ckContentsAny (k s : Int) (hs : I64 s) : ∃ (E : Int) (C : List UInt8), (∀ w, Calls Try.prog 7 #[tmv k s] w fun e w' => ∃ A n c, e = .returned (.tuple #[.slice A n c, .int .i64 E]) ∧ Bs w' A n C ∧ n ≤ c ∧ Below w.heap.size w w') ∧
    (rightT k s → E = 0 ∧ C.length ≤ 15 ∧ ∃ y m d a b c, RgtC y m d a b c ∧ sec y m d a b c = s ∧ C = contC k y m d a b c) ∧ (¬ rightT k s → E = 1 ∧ C = []) := by
  by_cases h : rightT k s
  · obtain ⟨y, m, d, a, b, c, hr, he⟩ := sec_of s h.range.1 h.range.2
    refine ⟨0, contC k y m d a b c, fun w => ?_, fun _ => ⟨rfl, by rw [contC_len]; split <;> omega, y, m, d, a, b, c, hr, he, rfl⟩, fun g => absurd h g⟩
    refine (ckContents k s y m d a b c w hs h hr he).mono ?_
    rintro e w' ⟨A, n, c', rfl, ho, hB⟩
    exact ⟨A, n, c', rfl, ho.bs.1, ho.bs.2, hB⟩
  · refine ⟨1, [], fun w => ?_, fun g => absurd g h, fun _ => ⟨rfl, rfl⟩⟩
    refine (ckContentsNo k s w hs h).mono ?_
    rintro e w' ⟨rfl, hB⟩
    exact ⟨_, _, _, rfl, Bs.nil _ _, Nat.le_refl _, hB⟩

set_option maxHeartbeats 12800000 in
theorem lawOrdersYes (a b : Int) (w : World) (ha : I64 a) (hb : I64 b) (h1 : kindS a ≠ 0) (h2 : kindS b ≠ 0) :
    Calls Try.prog 6 #[.int .i64 a, .int .i64 b] w fun e w' => e = .returned (.bool true) ∧ Below w.heap.size w w' := by
  have HA0 := fun W => ckGeneral a W ha
  have HB0 := fun W => ckGeneral b W hb
  rw [if_pos h1] at HA0
  rw [if_pos h2] at HB0
  have ra : rightT 24 a := ⟨h1, .inr rfl⟩
  have rb : rightT 24 b := ⟨h2, .inr rfl⟩
  obtain ⟨E1, C1, k1, t1, _⟩ := ckContentsAny 24 a ha
  obtain ⟨E2, C2, k2, t2, _⟩ := ckContentsAny 24 b hb
  obtain ⟨E3, C3, k3, t3, f3⟩ := ckContentsAny 23 a ha
  obtain ⟨E4, C4, k4, t4, f4⟩ := ckContentsAny 23 b hb
  obtain ⟨rfl, l1, y1, m1, d1, a1, b1, c1, r1, s1, g1⟩ := t1 ra
  obtain ⟨rfl, l2, y2, m2, d2', a2, b2, c2, r2, s2, g2⟩ := t2 rb
  have hcmp : Lib.compareBytes C1 C2 = cmpZ2 a b := by rw [g1, g2, ← s1, ← s2]; exact cont_cmp r1 r2 (.inl rfl)
  have hE3 : (E3 = 0 ∧ rightT 23 a ∧ C3.length ≤ 15) ∨ (E3 = 1) := by
    by_cases g : rightT 23 a
    · exact .inl ⟨(t3 g).1, g, (t3 g).2.1⟩
    · exact .inr (f3 g).1
  have hE4 : (E4 = 0 ∧ rightT 23 b ∧ C4.length ≤ 15) ∨ (E4 = 1) := by
    by_cases g : rightT 23 b
    · exact .inl ⟨(t4 g).1, g, (t4 g).2.1⟩
    · exact .inr (f4 g).1
  have hcmp2 : rightT 23 a → rightT 23 b → decide (a < 946684800) = decide (b < 946684800) → Lib.compareBytes C3 C4 = cmpZ2 a b := by
    intro q1 q2 hm
    obtain ⟨_, _, y3, m3, d3, a3, b3, c3, r3, s3, g3⟩ := t3 q1
    obtain ⟨_, _, y4, m4, d4, a4, b4, c4, r4, s4, g4⟩ := t4 q2
    rw [g3, g4, ← s3, ← s4]
    refine cont_cmp r3 r4 (.inr ⟨by decide, ?_⟩)
    have hyy : ∀ {y m d a b c s : Int}, RgtC y m d a b c → sec y m d a b c = s → rightT 23 s → (1950 ≤ y ∧ y ≤ 2049) ∧ (s < 946684800 ↔ y ≤ 1999) := by
      intro y m d a b c s hr hse hq
      have hu := kindS_of hr
      have hk : kindS s = 23 := by
        obtain ⟨_, h | h⟩ := hq
        · exact h.symm
        · exact absurd h (by decide)
      have h1 : 1950 ≤ y ∧ y ≤ 2049 := by
        rw [hse, hk] at hu
        by_cases g : 1950 ≤ y ∧ y ≤ 2049
        · exact g
        · rw [if_neg g] at hu; exact absurd hu (by decide)
      refine ⟨h1, ?_⟩
      have hn := num_year hr.1
      obtain ⟨_, w2, w3, w4⟩ := hr
      have e1 : ahd 2000 = 730485 := by decide
      rw [← hse]; unfold sec
      constructor
      · intro q
        rcases Int.lt_or_le 1999 y with z | z
        · have := ahd_mono (a := 2000) (b := y) (by omega); omega
        · exact z
      · intro q
        have := ahd_mono (a := y + 1) (b := 2000) (by omega); omega
    have z1 := hyy r3 s3 q1
    have z2 := hyy r4 s4 q2
    have hm2 : a < 946684800 ↔ b < 946684800 := by simpa using hm
    omega
  unfold tmv at HA0 HB0 k1 k2 k3 k4
  have HA := Lib.hid HA0
  have HB := Lib.hid HB0
  have K1 := Lib.hid k1
  have K2 := Lib.hid k2
  have K3 := Lib.hid k3
  have K4 := Lib.hid k4
  have HKn := Lib.hid known10
  have HCM := Lib.hid (fun A n c B m d x y W hx hy => octCompare A B n m c d x y W hx hy)
  obtain ⟨n1, n2⟩ := cmpZ2_facts a b
  have HC1 := Lib.hid hcmp
  have HC2 := Lib.hid hcmp2
  have HE3 := Lib.hid hE3
  have HE4 := Lib.hid hE4
  generalize cmpZ2 a b = Z at *
  clear HA0 HB0 k1 k2 k3 k4 t1 t2 t3 t4 f3 f4 ra rb g1 g2 s1 s2 r1 r2 hcmp hcmp2 hE3 hE4 h1 h2 ha hb
  go_enter Try.func6, Try.ntmps6
  go_wp2_with fail
  refine (HA.out _).mono ?_
  rintro e w1 ⟨rfl, hB1⟩
  have hB2 := hB1.alloc hB1.size (.cells #[.int .i64 24, .int .i64 a] 28)
  have HB2 := Lib.hid hB2
  have X2 := Lib.hid (Blk.two_new w1 (.int .i64 24) (.int .i64 a) 28)
  clear hB1 hB2 HA
  go_wp2_with fail
  generalize w1.alloc (.cells #[.int .i64 24, .int .i64 a] 28) = W2 at *
  generalize w1.heap.size = D1 at *
  refine (HB.out _).mono ?_
  rintro e w3 ⟨rfl, hB3⟩
  have hB4 := hB3.alloc hB3.size (.cells #[.int .i64 24, .int .i64 b] 28)
  have HB4 := Lib.hid (HB2.out.trans (hB4.mono HB2.out.size))
  have X4 := Lib.hid (X2.out.below hB4)
  have Y4 := Lib.hid (Blk.two_new w3 (.int .i64 24) (.int .i64 b) 28)
  clear hB3 hB4 HB HB2 X2
  go_upto_region 3 with (fail)
  generalize w3.alloc (.cells #[.int .i64 24, .int .i64 b] 28) = W4 at *
  generalize w3.heap.size = D2 at *
  obtain ⟨x0, x1, _, _⟩ := X4.out.two
  go_wp2_with fail
  refine (K1.out _).mono ?_
  rintro e w5 ⟨A5, n5, c5, rfl, s5, k5, hB5⟩
  have HB5 := Lib.hid (HB4.out.trans (hB5.mono HB4.out.size))
  have Y5 := Lib.hid (Y4.out.below hB5)
  have S5 := Lib.hid s5
  have hn5 : n5 ≤ 1000 := by have := s5.len; omega
  clear hB5 HB4 Y4 X4 x0 x1 s5 K1
  obtain ⟨y0, y1, _, _⟩ := Y5.out.two
  go_wp2_with fail
  refine (K2.out _).mono ?_
  rintro e w6 ⟨A6, n6, c6, rfl, s6, k6, hB6⟩
  have HB6 := Lib.hid (HB5.out.trans (hB6.mono HB5.out.size))
  have S6 := Lib.hid s6
  have T6 := Lib.hid (S5.out.below hB6)
  have hn6 : n6 ≤ 1000 := by have := s6.len; omega
  clear hB6 HB5 Y5 y0 y1 s6 K2 S5
  go_wp2_with fail
  refine (HCM.out _ _ _ _ _ _ _ _ _ T6.out S6.out).mono ?_
  rintro e w7 ⟨rfl, hq7⟩
  obtain rfl : w6 = w7 := hq7
  rw [HC1.out]
  clear T6 S6
  go_upto_region 10 with (fail)
  go_wp2_with fail
  refine (K3.out _).mono ?_
  rintro e w8 ⟨A8, n8, c8, rfl, s8, k8, hB8⟩
  have HB8 := Lib.hid (HB6.out.trans (hB8.mono HB6.out.size))
  have S8 := Lib.hid s8
  clear hB8 HB6 s8 K3
  go_wp2_with fail
  refine (K4.out _).mono ?_
  rintro e w9 ⟨A9, n9, c9, rfl, s9, k9, hB9⟩
  have HB9 := Lib.hid (HB8.out.trans (hB9.mono HB8.out.size))
  have S9 := Lib.hid s9
  have S8' := Lib.hid (S8.out.below hB9)
  clear hB9 HB8 s9 K4 S8
  have FIN : Hid (∀ W, Below w9.heap.size w9 W → Below w.heap.size w W) := fun W h => HB9.out.trans (h.mono HB9.out.size)
  rcases HE3.out with ⟨rfl, q3, l3⟩ | rfl
  rotate_left
  · clear HE3 HE4 HC2 HC1 n1 n2
    go_wp2_with fail
    refine (HKn.out _).mono ?_
    rintro e wz ⟨rfl, hBz⟩
    have F := Lib.hid (FIN.out _ hBz)
    clear hBz
    go_wp2
    go_ret
    exact ⟨rfl, F.out⟩
  rcases HE4.out with ⟨rfl, q4, l4⟩ | rfl
  rotate_left
  · clear HE3 HE4 HC2 HC1 n1 n2
    go_wp2_with fail
    refine (HKn.out _).mono ?_
    rintro e wz ⟨rfl, hBz⟩
    have F := Lib.hid (FIN.out _ hBz)
    clear hBz
    go_wp2
    go_ret
    exact ⟨rfl, F.out⟩
  by_cases hm : decide (a < 946684800) = decide (b < 946684800)
  rotate_left
  · have e1 : (decide (a < 946684800) == decide (b < 946684800)) = false := by simpa using hm
    clear HE3 HE4 HC2 HC1 n1 n2 hm q3 q4
    go_wp2_with fail
    refine (HKn.out _).mono ?_
    rintro e wz ⟨rfl, hBz⟩
    have F := Lib.hid (FIN.out _ hBz)
    clear hBz
    go_wp2
    go_ret
    exact ⟨rfl, F.out⟩
  have e1 : (decide (a < 946684800) == decide (b < 946684800)) = true := by simpa using hm
  have HC3 := Lib.hid (HC2.out q3 q4 hm)
  clear HE3 HE4 HC2 HC1 n1 n2 hm q3 q4
  go_wp2_with fail
  refine (HCM.out _ _ _ _ _ _ _ _ _ S8'.out S9.out).mono ?_
  rintro e wy ⟨rfl, hqy⟩
  obtain rfl : w9 = wy := hqy
  rw [HC3.out]
  go_wp2_with fail
  refine (HKn.out _).mono ?_
  rintro e wz ⟨rfl, hBz⟩
  have F := Lib.hid (FIN.out _ hBz)
  clear hBz
  go_wp2
  go_ret
  exact ⟨rfl, F.out⟩

theorem lawOrders (a b : Int) (w : World) (ha : I64 a) (hb : I64 b) :
    Calls Try.prog 6 #[.int .i64 a, .int .i64 b] w fun e w' => e = .returned (.bool true) ∧ Below w.heap.size w w' := by
  by_cases h1 : kindS a = 0
  · exact lawOrdersNo a b w ha hb (.inl h1)
  by_cases h2 : kindS b = 0
  · exact lawOrdersNo a b w ha hb (.inr h2)
  exact lawOrdersYes a b w ha hb h1 h2
end Go.Proofs.Ytepbjjhidemaiaa
