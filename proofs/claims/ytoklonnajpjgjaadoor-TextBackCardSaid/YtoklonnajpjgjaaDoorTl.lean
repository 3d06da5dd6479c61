/-
  The contracts of the reference's Kind, among, May.
-/
import Derived.Test.YtoklonnajpjgjaaDoorTj
namespace Go.Proofs.YtoklonnajpjgjaaDoor
open Go.RowKit Go.Shelf
set_option linter.unusedVariables false
set_option linter.unusedSimpArgs false
set_option maxRecDepth 4000

theorem ref6Kind (k : Int) (w : World) : Calls Tryd.prog 35 #[.int .i64 k] w fun e w' => e = .returned (.bool (isK k)) ∧ w' = w := by
  by_cases h12 : k = 12
  · subst h12; go_enter Tryd.func35, Tryd.ntmps35; go_wp2; go_ret; exact ⟨rfl, rfl⟩
  · have b12 : (k == 12) = false := by simpa using h12
    by_cases h19 : k = 19
    · subst h19; go_enter Tryd.func35, Tryd.ntmps35; go_wp2; go_ret; exact ⟨rfl, rfl⟩
    · have b19 : (k == 19) = false := by simpa using h19
      by_cases h20 : k = 20
      · subst h20; go_enter Tryd.func35, Tryd.ntmps35; go_wp2; go_ret; exact ⟨rfl, rfl⟩
      · have b20 : (k == 20) = false := by simpa using h20
        by_cases h22 : k = 22
        · subst h22; go_enter Tryd.func35, Tryd.ntmps35; go_wp2; go_ret; exact ⟨rfl, rfl⟩
        · have b22 : (k == 22) = false := by simpa using h22
          by_cases h26 : k = 26
          · subst h26; go_enter Tryd.func35, Tryd.ntmps35; go_wp2; go_ret; exact ⟨rfl, rfl⟩
          · have b26 : (k == 26) = false := by simpa using h26
            by_cases h30 : k = 30
            · subst h30; go_enter Tryd.func35, Tryd.ntmps35; go_wp2; go_ret; exact ⟨rfl, rfl⟩
            · have b30 : (k == 30) = false := by simpa using h30
              have e : isK k = false := by simp [isK, h12, h19, h20, h22, h26, h30]
              rw [e]
              clear h12 h19 h20 h22 h26 h30 e
              go_enter Tryd.func35, Tryd.ntmps35; go_wp2; go_ret; exact ⟨rfl, rfl⟩

/-- Is a byte of this number among these? -/
def anyB (s : ByteArray) (n : Int) : Bool := s.data.toList.any fun b => decide ((b.toNat : Int) = n)
set_option maxHeartbeats 800000 in
theorem ref6Among (n : Int) (s : ByteArray) (w : World) (hs : s.size ≤ 1000) : Calls Tryd.prog 55 #[.int .i64 n, .string s] w fun e w' => e = .returned (.bool (anyB s n)) ∧ w' = w := by
  go_enter Tryd.func55, Tryd.ntmps55
  go_wp2
  go_loop [5] (fun i => ∃ k : Nat, k ≤ s.size ∧ i = .int .i64 (k : Int) ∧ Hid (∀ (j : Nat) (h : j < s.size), j < k → ((s[j]'h).toNat : Int) ≠ n)) (fun i => s.size - (intOf i).toNat)
  case atStart => exact ⟨0, Nat.zero_le _, rfl, Lib.hid (fun j h hj => by omega)⟩
  case round =>
    obtain ⟨k, hk, rfl, hno⟩ := hrel
    by_cases hlt : k < s.size
    · have i1 : (k : Int) < s.size := by omega
      have hb := (s[k]'hlt).toNat_lt
      have hwr : IntKind.i64.wrap ((s[k]'hlt).toNat : Int) = ((s[k]'hlt).toNat : Int) := wrap_small _ (by omega) (by omega)
      by_cases he : ((s[k]'hlt).toNat : Int) = n
      · have q : (((s[k]'hlt).toNat : Int) == n) = true := by simpa using he
        have ha : anyB s n = true := by
          unfold anyB
          rw [List.any_eq_true]
          exact ⟨s[k]'hlt, Array.getElem_mem_toList (xs := s.data) hlt, by simpa using he⟩
        have hH := Lib.hid ha
        clear ha he hno
        go_wp2
        go_ret
        exact ⟨by rw [hH.out]; rfl, rfl⟩
      · have q : (((s[k]'hlt).toNat : Int) == n) = false := by simpa using he
        have hH := Lib.hid he
        clear he
        go_wp2
        go_round
        case rel =>
          refine ⟨k + 1, by omega, by go_num, Lib.hid fun j h hj => ?_⟩
          by_cases e : j = k
          · subst e; exact hH.out
          · exact hno.out j h (by omega)
        case measure => simp [intOf]; omega
    · obtain rfl : k = s.size := by omega
      have ha : anyB s n = false := by
        unfold anyB
        rw [List.any_eq_false]
        intro b hb
        obtain ⟨j, hj, rfl⟩ := List.getElem_of_mem hb
        have hj' : j < s.size := by simpa using hj
        have h2 : ((s.data[j]'hj').toNat : Int) ≠ n := hno.out j hj' hj'
        simp only [Array.getElem_toList, decide_eq_true_eq]
        exact h2
      have hH := Lib.hid ha
      clear ha hno
      go_wp2
      go_ret
      exact ⟨by rw [hH.out]; rfl, rfl⟩

/-- The signs of a printable text. -/
def ALPH : ByteArray := ⟨([97, 98, 99, 100, 101, 102, 103, 104, 105, 106, 107, 108, 109, 110, 111, 112, 113, 114, 115, 116, 117, 118, 119, 120, 121, 122, 65, 66, 67, 68, 69, 70, 71, 72, 73, 74, 75, 76, 77, 78, 79, 80, 81, 82, 83, 84, 85, 86, 87, 88, 89, 90, 48, 49, 50, 51, 52, 53, 54, 55, 56, 57, 32, 39, 40, 41, 43, 44, 45, 46, 47, 58, 61, 63] : List UInt8).toArray⟩
theorem alph_small : ∀ n : Nat, n < 128 → anyB ALPH (n : Int) = (plainT (n : Int) || markT (n : Int)) := by decide +kernel
theorem alph_lt : ∀ b ∈ ALPH.data.toList, b.toNat < 128 := by decide +kernel
theorem alph_any (n : Int) (h0 : 0 ≤ n) : anyB ALPH n = (plainT n || markT n) := by
  by_cases h : n < 128
  · have := alph_small n.toNat (by omega)
    rwa [show ((n.toNat : Nat) : Int) = n by omega] at this
  · have h1 : anyB ALPH n = false := by
      unfold anyB
      rw [List.any_eq_false]
      intro b hb
      have := alph_lt b hb
      simp; omega
    have h2 : plainT n = false := by unfold plainT; exact decide_eq_false (by omega)
    have h3 : markT n = false := by unfold markT; exact decide_eq_false (by omega)
    rw [h1, h2, h3]; rfl
theorem valid_iff (n : Int) : Lib.validRune n = decide ((0 ≤ n ∧ n < 55296) ∨ (57343 < n ∧ n ≤ 1114111)) := rfl

set_option maxHeartbeats 1600000 in
theorem ref6May (k n : Int) (w : World) (hk : isK k = true) : Calls Tryd.prog 37 #[.int .i64 k, .int .i64 n] w fun e w' => e = .returned (.bool (hasT k n)) ∧ w' = w := by
  by_cases hv : Lib.validRune n = true
  · have hv' := hv
    rw [valid_iff] at hv'
    have hv' : (0 ≤ n ∧ n < 55296) ∨ (57343 < n ∧ n ≤ 1114111) := by simpa using hv'
    have h0 : ¬ n < 0 := by omega
    have h1 : ¬ n > 1114111 := by omega
    have hA := ref6Among n ALPH w (by decide)
    have hal := alph_any n (by omega)
    have e12 : hasT 12 n = true := by simp [hasT, hv]
    have e19 : hasT 19 n = anyB ALPH n := by simp [hasT, hal]
    have e20 : hasT 20 n = decide (n < 256) := by
      have : hasT 20 n = decide (0 ≤ n ∧ n ≤ 255) := by simp [hasT]
      rw [this, Bool.eq_iff_iff]; simp only [decide_eq_true_eq]; omega
    have e22 : hasT 22 n = decide (n < 128) := by
      have : hasT 22 n = decide (0 ≤ n ∧ n ≤ 127) := by simp [hasT]
      rw [this, Bool.eq_iff_iff]; simp only [decide_eq_true_eq]; omega
    have e26 : hasT 26 n = (decide (n > 31) && decide (n < 127)) := by simp only [hasT]; simp; rw [Bool.eq_iff_iff]; simp; omega
    have e30 : hasT 30 n = decide (n < 65536) := by simp only [hasT, hv]; simp; omega
    have hALPH : ALPH = ⟨([97, 98, 99, 100, 101, 102, 103, 104, 105, 106, 107, 108, 109, 110, 111, 112, 113, 114, 115, 116, 117, 118, 119, 120, 121, 122, 65, 66, 67, 68, 69, 70, 71, 72, 73, 74, 75, 76, 77, 78, 79, 80, 81, 82, 83, 84, 85, 86, 87, 88, 89, 90, 48, 49, 50, 51, 52, 53, 54, 55, 56, 57, 32, 39, 40, 41, 43, 44, 45, 46, 47, 58, 61, 63] : List UInt8).toArray⟩ := rfl
    generalize anyB ALPH n = an at *
    rw [hALPH] at hA
    clear hal hv hALPH
    by_cases h2 : n ≥ 55296
    · have h3 : ¬ n ≤ 57343 := by omega
      clear hv'
      rcases isK_cases hk with rfl | rfl | rfl | rfl | rfl | rfl
      · rw [e12]; clear e12 e19 e20 e22 e26 e30; go_enter Tryd.func37, Tryd.ntmps37; go_wp2_with fail; go_ret; exact ⟨rfl, rfl⟩
      · rw [e19]; clear e12 e19 e20 e22 e26 e30; go_enter Tryd.func37, Tryd.ntmps37; go_wp2_with fail; refine hA.mono ?_; rintro e w1 ⟨rfl, rfl⟩; go_wp2; go_ret; exact ⟨rfl, rfl⟩
      · rw [e20]; clear e12 e19 e20 e22 e26 e30; go_enter Tryd.func37, Tryd.ntmps37; go_wp2_with fail; go_ret; exact ⟨rfl, rfl⟩
      · rw [e22]; clear e12 e19 e20 e22 e26 e30; go_enter Tryd.func37, Tryd.ntmps37; go_wp2_with fail; go_ret; exact ⟨rfl, rfl⟩
      · have h4 : n > 31 := by omega
        rw [e26, decide_eq_true h4, Bool.true_and]; clear e12 e19 e20 e22 e26 e30; go_enter Tryd.func37, Tryd.ntmps37; go_wp2_with fail; go_ret; exact ⟨rfl, rfl⟩
      · rw [e30]; clear e12 e19 e20 e22 e26 e30; go_enter Tryd.func37, Tryd.ntmps37; go_wp2_with fail; go_ret; exact ⟨rfl, rfl⟩
    · clear hv'
      rcases isK_cases hk with rfl | rfl | rfl | rfl | rfl | rfl
      · rw [e12]; clear e12 e19 e20 e22 e26 e30; go_enter Tryd.func37, Tryd.ntmps37; go_wp2_with fail; go_ret; exact ⟨rfl, rfl⟩
      · rw [e19]; clear e12 e19 e20 e22 e26 e30; go_enter Tryd.func37, Tryd.ntmps37; go_wp2_with fail; refine hA.mono ?_; rintro e w1 ⟨rfl, rfl⟩; go_wp2; go_ret; exact ⟨rfl, rfl⟩
      · rw [e20]; clear e12 e19 e20 e22 e26 e30; go_enter Tryd.func37, Tryd.ntmps37; go_wp2_with fail; go_ret; exact ⟨rfl, rfl⟩
      · rw [e22]; clear e12 e19 e20 e22 e26 e30; go_enter Tryd.func37, Tryd.ntmps37; go_wp2_with fail; go_ret; exact ⟨rfl, rfl⟩
      · by_cases h4 : n > 31
        · rw [e26, decide_eq_true h4, Bool.true_and]; clear e12 e19 e20 e22 e26 e30; go_enter Tryd.func37, Tryd.ntmps37; go_wp2_with fail; go_ret; exact ⟨rfl, rfl⟩
        · rw [e26, decide_eq_false h4, Bool.false_and]; clear e12 e19 e20 e22 e26 e30; go_enter Tryd.func37, Tryd.ntmps37; go_wp2_with fail; go_ret; exact ⟨rfl, rfl⟩
      · rw [e30]; clear e12 e19 e20 e22 e26 e30; go_enter Tryd.func37, Tryd.ntmps37; go_wp2_with fail; go_ret; exact ⟨rfl, rfl⟩
  · have hf : hasT k n = false := by
      cases hx : hasT k n
      · rfl
      · exact absurd (hasT_valid hk hx) hv
    rw [hf]
    have hv' : ¬ ((0 ≤ n ∧ n < 55296) ∨ (57343 < n ∧ n ≤ 1114111)) := by
      intro h; apply hv; rw [valid_iff]; exact decide_eq_true h
    clear hv hf hk
    go_enter Tryd.func37, Tryd.ntmps37
    by_cases h0 : n < 0
    · clear hv'; go_wp2; go_ret; exact ⟨rfl, rfl⟩
    · by_cases h1 : n > 1114111
      · clear hv'; go_wp2; go_ret; exact ⟨rfl, rfl⟩
      · have h2 : n ≥ 55296 := by omega
        have h3 : n ≤ 57343 := by omega
        clear hv'
        go_wp2; go_ret; exact ⟨rfl, rfl⟩
end Go.Proofs.YtoklonnajpjgjaaDoor
