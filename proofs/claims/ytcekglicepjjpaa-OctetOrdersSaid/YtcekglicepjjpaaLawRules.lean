/-
  OctetRules: for any three rows of bytes, quittancelaw01.OctetRules returns true and changes nothing that was there.
-/
import Derived.Test.YtcekglicepjjpaaJoin
namespace Go.Proofs.Ytcekglicepjjpaa
open Go.RowKit
set_option linter.unusedVariables false
set_option linter.unusedSimpArgs false

theorem cmp_three : ∀ a b : List UInt8, Lib.compareBytes a b = -1 ∨ Lib.compareBytes a b = 0 ∨ Lib.compareBytes a b = 1
  | [], [] => by simp [cmp_nil]
  | [], y :: b => by simp [cmp_nil_cons]
  | x :: a, [] => by simp [cmp_cons_nil]
  | x :: a, y :: b => by
    rw [cmp_cons]
    have := cmp_three a b
    split
    · exact .inl rfl
    · split
      · exact .inr (.inr rfl)
      · exact this
theorem cmp_swap : ∀ a b : List UInt8, Lib.compareBytes b a = -Lib.compareBytes a b
  | [], [] => by simp [cmp_nil]
  | [], y :: b => by simp [cmp_nil_cons, cmp_cons_nil]
  | x :: a, [] => by simp [cmp_cons_nil, cmp_nil_cons]
  | x :: a, y :: b => by
    rw [cmp_cons, cmp_cons, cmp_swap a b]
    by_cases h1 : x.toNat < y.toNat
    · rw [if_neg (by omega), if_pos h1, if_pos h1]; rfl
    · by_cases h2 : y.toNat < x.toNat
      · rw [if_pos h2, if_neg h1, if_pos h2]
      · rw [if_neg h2, if_neg h1, if_neg h1, if_neg h2]
theorem cmp_trans : ∀ a b c : List UInt8, Lib.compareBytes a b ≤ 0 → Lib.compareBytes b c ≤ 0 → Lib.compareBytes a c ≤ 0
  | [], b, [], _, _ => by simp [cmp_nil]
  | [], b, z :: c, _, _ => by simp [cmp_nil_cons]
  | x :: a, [], c, h, _ => by simp [cmp_cons_nil] at h
  | x :: a, y :: b, [], _, h => by simp [cmp_cons_nil] at h
  | x :: a, y :: b, z :: c, h1, h2 => by
    rw [cmp_cons] at h1 h2 ⊢
    have ih := cmp_trans a b c
    by_cases h3 : x.toNat < z.toNat
    · rw [if_pos h3]; omega
    · rw [if_neg h3]
      by_cases h4 : x.toNat < y.toNat
      · by_cases h5 : y.toNat < z.toNat
        · omega
        · rw [if_neg h5] at h2
          by_cases h6 : z.toNat < y.toNat
          · rw [if_pos h6] at h2; omega
          · omega
      · rw [if_neg h4] at h1
        by_cases h5 : y.toNat < x.toNat
        · rw [if_pos h5] at h1; omega
        · rw [if_neg h5] at h1
          by_cases h6 : y.toNat < z.toNat
          · omega
          · rw [if_neg h6] at h2
            by_cases h7 : z.toNat < y.toNat
            · rw [if_pos h7] at h2; omega
            · rw [if_neg h7] at h2
              rw [if_neg (by omega)]
              exact ih h1 h2
theorem cmp_prefix : ∀ a r : List UInt8, Lib.compareBytes a (a ++ r) ≤ 0
  | [], [] => by simp [cmp_nil]
  | [], y :: b => by simp [cmp_nil_cons]
  | x :: a, r => by
    rw [List.cons_append, cmp_cons, if_neg (by omega), if_neg (by omega)]
    exact cmp_prefix a r
theorem alike_prefix : ∀ a r : List UInt8, alikeL (a ++ r) a = a.length
  | [], r => by cases r <;> simp [alikeL]
  | x :: a, r => by
    rw [List.cons_append, alikeL, if_pos rfl, alike_prefix a r]; rfl
theorem common_prefix (a r : List UInt8) : commonL [a ++ r, a] = a.length := by
  simp [commonL, minL, alike_prefix]

/-- A new block that holds slices. -/
theorem Bss.new (w : World) (e : TypeId) (f : Nat × Nat) (vs : List Value) (ls : List (List UInt8)) (hl : ls.length = vs.length)
    (h : ∀ (i : Nat) (l : List UInt8), ls[i]? = some l → ∃ Ai ni ci, vs[i]? = some (Value.slice Ai ni ci) ∧ Bs w Ai ni l ∧ ni ≤ ci) : Bss (w.alloc (.cells vs.toArray e f)) (some ⟨w.heap.size, 0, none⟩) vs.length ls := by
  refine ⟨hl, fun i l hi => ?_⟩
  obtain ⟨Ai, ni, ci, hv, hb, hc⟩ := h i l hi
  refine ⟨_, _, Ai, ni, ci, rfl, ?_, hb.below ((Below.refl _ _).alloc (Nat.le_refl _) _), hc⟩
  unfold World.cell?
  rw [heap_alloc_new]
  simp [hv]

set_option maxRecDepth 100000 in
set_option maxHeartbeats 1600000 in
theorem lawRules (A B C : Option Addr) (n m p cA cB cC : Nat) (a b c : List UInt8) (w : World) (hA : Bs w A n a) (hB : Bs w B m b) (hC : Bs w C p c) (hcA : n ≤ cA) (hcB : m ≤ cB) (hcC : p ≤ cC) :
    Calls Try.prog 6 #[.slice A n cA, .slice B m cB, .slice C p cC] w fun e w' => e = .returned (.bool true) ∧ Below w.heap.size w w' := by
  have hA' : Bs w A (min n 5000) (a.take (min n 5000)) := hA.take (by omega)
  have hB' : Bs w B (min m 5000) (b.take (min m 5000)) := hB.take (by omega)
  have hC' : Bs w C (min p 5000) (c.take (min p 5000)) := hC.take (by omega)
  have h1 : min n 5000 ≤ 5000 := by omega
  have h2 : min m 5000 ≤ 5000 := by omega
  have h3 : min p 5000 ≤ 5000 := by omega
  have d1 : min n 5000 ≤ cA := by omega
  have d2 : min m 5000 ≤ cB := by omega
  have d3 : min p 5000 ≤ cC := by omega
  go_enter Try.func6, Try.ntmps6
  go_wp2_with fail
  refine (few1 A n cA _ hcA).mono ?_
  rintro e w0 ⟨rfl, rfl⟩
  go_wp2_with fail
  refine (few1 B m cB _ hcB).mono ?_
  rintro e w0 ⟨rfl, rfl⟩
  go_wp2_with fail
  refine (few1 C p cC _ hcC).mono ?_
  rintro e w0 ⟨rfl, rfl⟩
  clear hA hB hC hcA hcB hcC
  generalize min n 5000 = n' at *
  generalize min m 5000 = m' at *
  generalize min p 5000 = p' at *
  generalize a.take n' = a at *
  generalize b.take m' = b at *
  generalize c.take p' = c at *
  go_wp2_with fail
  refine (octCompare A B n' m' cA cB a b _ hA' hB').mono ?_
  rintro e w0 ⟨rfl, rfl⟩
  go_wp2_with fail
  refine (octCompare B C m' p' cB cC b c _ hB' hC').mono ?_
  rintro e w0 ⟨rfl, rfl⟩
  go_wp2_with fail
  refine (octCompare A C n' p' cA cC a c _ hA' hC').mono ?_
  rintro e w0 ⟨rfl, rfl⟩
  go_wp2_with fail
  have hss := Bss.new w 22 (0, 0) [.slice A n' cA, .slice B m' cB, .slice C p' cC] [a, b, c] rfl (by
    intro i l hi
    match i, hi with
    | 0, hi => cases hi; exact ⟨A, n', cA, rfl, hA', d1⟩
    | 1, hi => cases hi; exact ⟨B, m', cB, rfl, hB', d2⟩
    | 2, hi => cases hi; exact ⟨C, p', cC, rfl, hC', d3⟩
    | i + 3, hi => simp at hi)
  have hfl : ([a, b, c] : List (List UInt8)).flatten.length ≤ 15000 := by
    have := hA'.len; have := hB'.len; have := hC'.len
    simp; omega
  refine (octJoin _ _ _ [a, b, c] _ hss (by simp) (by omega)).mono ?_
  rintro e w1 ⟨J, nj, cj, rfl, hobj, hb1⟩
  have B1 : Below w.heap.size w w1 := ((Below.refl _ _).alloc (Nat.le_refl _) _).trans (hb1.mono (by simp))
  have hfl2 : Hid ([a, b, c].flatten = a ++ (b ++ c)) := by unfold Hid; simp
  rw [hfl2.out] at hobj hfl
  clear hss
  go_wp2_with fail
  refine (known1 _).mono ?_
  rintro e w2 ⟨rfl, hb2⟩
  have B2 : Below w.heap.size w w2 := B1.trans (hb2.mono B1.size)
  obtain ⟨hbj, hncj⟩ := (hobj.below hb2).bs
  clear hobj
  have hA2 := hA'.below B2
  have hB2 := hB'.below B2
  have hnj : Hid (nj = n' + m' + p') := by
    unfold Hid
    have h1 := hA'.len; have h2 := hB'.len; have h3 := hC'.len
    rw [← hbj.len, List.length_append, List.length_append, h1, h2, h3]; omega
  have hsw : Hid (Lib.compareBytes b a = -Lib.compareBytes a b) := cmp_swap a b
  have htr := Lib.hid (cmp_trans a b c)
  have hze := Lib.hid (cmp_zero_iff a b)
  have hpf := Lib.hid (cmp_prefix a (b ++ c))
  have hcm := Lib.hid (common_prefix a (b ++ c))
  have hla := Lib.hid hA'.len
  have hss : Bss (w2.alloc (.cells #[.slice J nj cj, .slice A n' cA] 22)) (some ⟨w2.heap.size, 0, none⟩) 2 [a ++ (b ++ c), a] := Bss.new w2 22 (0, 0) [.slice J nj cj, .slice A n' cA] [a ++ (b ++ c), a] rfl (by
    intro i l hi
    match i, hi with
    | 0, hi => cases hi; exact ⟨J, nj, cj, rfl, hbj, hncj⟩
    | 1, hi => cases hi; exact ⟨A, n', cA, rfl, hA2, d1⟩
    | i + 2, hi => simp at hi)
  have hsh : Short 1099511627776 [a ++ (b ++ c), a] := by
    intro k
    have := hla.out
    match k with
    | 0 => show (a ++ (b ++ c)).length ≤ _; omega
    | 1 => show a.length ≤ _; omega
    | k + 2 => simp [rowL]
  go_wp2_with fail
  refine (octCompare B A m' n' cB cA b a _ hB2 hA2).mono ?_
  rintro e w0 ⟨rfl, rfl⟩
  rw [hsw.out]
  have hfin : ∀ w3 : World, Below (w2.alloc (.cells #[.slice J nj cj, .slice A n' cA] 22)).heap.size (w2.alloc (.cells #[.slice J nj cj, .slice A n' cA] 22)) w3 → Below w.heap.size w w3 :=
    fun w3 h3 => (B2.alloc B2.size _).trans (h3.mono (by have := B2.size; simp; omega))
  have HFIN := Lib.hid hfin; clear hfin
  obtain rfl := hnj.out
  rcases cmp_three a b with hx | hx | hx
  · by_cases hy : Lib.compareBytes b c ≤ 0
    · have hz := htr.out (by omega) hy
      have hab : decide (a = b) = false := by have := hze.out; simp; intro hh; have := this.2 hh; omega
      go_wp2_with fail
      refine (octEqual A B n' m' cA cB a b _ hA2 hB2).mono ?_
      rintro e w0 ⟨rfl, rfl⟩
      rw [hab]
      go_wp2_with fail
      refine (octCommon _ 2 2 _ _ hss (by omega) (by omega) hsh).mono ?_
      rintro e w3 ⟨rfl, q3⟩
      rw [hcm.out, hla.out]
      have B3 := HFIN.out w3 q3.below
      have hA3 := (hA'.below B3)
      have hJ3 := (hbj.below ((Below.refl _ _).alloc (Nat.le_refl _) (.cells #[.slice J (n' + m' + p') cj, .slice A n' cA] 22))).qt q3
      go_wp2_with fail
      refine (octCompare A J n' (n' + m' + p') cA cj a _ _ hA3 hJ3).mono ?_
      rintro e w0 ⟨rfl, rfl⟩
      have hle := hpf.out
      go_wp2
      go_ret
      exact ⟨rfl, B3⟩
    · have hy' : 0 < Lib.compareBytes b c := by omega
      have hab : decide (a = b) = false := by have := hze.out; simp; intro hh; have := this.2 hh; omega
      go_wp2_with fail
      refine (octEqual A B n' m' cA cB a b _ hA2 hB2).mono ?_
      rintro e w0 ⟨rfl, rfl⟩
      rw [hab]
      go_wp2_with fail
      refine (octCommon _ 2 2 _ _ hss (by omega) (by omega) hsh).mono ?_
      rintro e w3 ⟨rfl, q3⟩
      rw [hcm.out, hla.out]
      have B3 := HFIN.out w3 q3.below
      have hA3 := (hA'.below B3)
      have hJ3 := (hbj.below ((Below.refl _ _).alloc (Nat.le_refl _) (.cells #[.slice J (n' + m' + p') cj, .slice A n' cA] 22))).qt q3
      go_wp2_with fail
      refine (octCompare A J n' (n' + m' + p') cA cj a _ _ hA3 hJ3).mono ?_
      rintro e w0 ⟨rfl, rfl⟩
      have hle := hpf.out
      go_wp2
      go_ret
      exact ⟨rfl, B3⟩
  · by_cases hy : Lib.compareBytes b c ≤ 0
    · have hz := htr.out (by omega) hy
      have hab : decide (a = b) = true := by simp [hze.out.1 hx]
      go_wp2_with fail
      refine (octEqual A B n' m' cA cB a b _ hA2 hB2).mono ?_
      rintro e w0 ⟨rfl, rfl⟩
      rw [hab]
      go_wp2_with fail
      refine (octCommon _ 2 2 _ _ hss (by omega) (by omega) hsh).mono ?_
      rintro e w3 ⟨rfl, q3⟩
      rw [hcm.out, hla.out]
      have B3 := HFIN.out w3 q3.below
      have hA3 := (hA'.below B3)
      have hJ3 := (hbj.below ((Below.refl _ _).alloc (Nat.le_refl _) (.cells #[.slice J (n' + m' + p') cj, .slice A n' cA] 22))).qt q3
      go_wp2_with fail
      refine (octCompare A J n' (n' + m' + p') cA cj a _ _ hA3 hJ3).mono ?_
      rintro e w0 ⟨rfl, rfl⟩
      have hle := hpf.out
      go_wp2
      go_ret
      exact ⟨rfl, B3⟩
    · have hy' : 0 < Lib.compareBytes b c := by omega
      have hab : decide (a = b) = true := by simp [hze.out.1 hx]
      go_wp2_with fail
      refine (octEqual A B n' m' cA cB a b _ hA2 hB2).mono ?_
      rintro e w0 ⟨rfl, rfl⟩
      rw [hab]
      go_wp2_with fail
      refine (octCommon _ 2 2 _ _ hss (by omega) (by omega) hsh).mono ?_
      rintro e w3 ⟨rfl, q3⟩
      rw [hcm.out, hla.out]
      have B3 := HFIN.out w3 q3.below
      have hA3 := (hA'.below B3)
      have hJ3 := (hbj.below ((Below.refl _ _).alloc (Nat.le_refl _) (.cells #[.slice J (n' + m' + p') cj, .slice A n' cA] 22))).qt q3
      go_wp2_with fail
      refine (octCompare A J n' (n' + m' + p') cA cj a _ _ hA3 hJ3).mono ?_
      rintro e w0 ⟨rfl, rfl⟩
      have hle := hpf.out
      go_wp2
      go_ret
      exact ⟨rfl, B3⟩
  · have hab : decide (a = b) = false := by have := hze.out; simp; intro hh; have := this.2 hh; omega
    go_wp2_with fail
    refine (octEqual A B n' m' cA cB a b _ hA2 hB2).mono ?_
    rintro e w0 ⟨rfl, rfl⟩
    rw [hab]
    go_wp2_with fail
    refine (octCommon _ 2 2 _ _ hss (by omega) (by omega) hsh).mono ?_
    rintro e w3 ⟨rfl, q3⟩
    rw [hcm.out, hla.out]
    have B3 := HFIN.out w3 q3.below
    have hA3 := (hA'.below B3)
    have hJ3 := (hbj.below ((Below.refl _ _).alloc (Nat.le_refl _) (.cells #[.slice J (n' + m' + p') cj, .slice A n' cA] 22))).qt q3
    go_wp2_with fail
    refine (octCompare A J n' (n' + m' + p') cA cj a _ _ hA3 hJ3).mono ?_
    rintro e w0 ⟨rfl, rfl⟩
    have hle := hpf.out
    go_wp2
    go_ret
    exact ⟨rfl, B3⟩
end Go.Proofs.Ytcekglicepjjpaa
