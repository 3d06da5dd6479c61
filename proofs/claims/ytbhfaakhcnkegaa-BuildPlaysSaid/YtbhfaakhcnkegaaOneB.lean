/-
  One reading, without a program: bytes that are read as a tag or as a length are that one's bytes.
-/
import Derived.Test.YtbhfaakhcnkegaaCutB
namespace Go.Proofs.Ytbhfaakhcnkegaa
open Go.RowKit
set_option linter.unusedVariables false
set_option linter.unusedSimpArgs false
set_option maxRecDepth 4000

theorem u8_nth {l : List UInt8} {k : Nat} : u8 (nth l k) = l.getD k 0 := by
  unfold u8 nth; simp
theorem seg {l : List UInt8} {k m : Nat} (h : k < l.length) : (l.drop k).take (m + 1) = u8 (nth l k) :: (l.drop (k + 1)).take m := by
  rw [u8_nth, List.drop_eq_getElem_cons h, List.take_succ_cons]
  simp [List.getD, h]

theorem cons_u8 {a b : Int} {l r : List UInt8} (h : a = b) (k : l = r) : u8 a :: l = u8 b :: r := by rw [h, k]
theorem tagB0 (c n : Int) (m : Bool) (h : n < 31) : tagB ⟨c, n, m⟩ = [u8 (64 * c + (if m then 32 else 0) + n)] := by simp only [tagB, if_pos h]
theorem tagB1 (c n : Int) (m : Bool) (h : 31 ≤ n) (k : n < 128) : tagB ⟨c, n, m⟩ = [u8 (64 * c + (if m then 32 else 0) + 31), u8 (n % 128)] := by
  simp only [tagB, if_neg (show ¬ n < 31 by omega), if_neg (show ¬ 16384 ≤ n by omega), if_neg (show ¬ 128 ≤ n by omega)]; simp
theorem tagB2 (c n : Int) (m : Bool) (h : 128 ≤ n) (k : n < 16384) : tagB ⟨c, n, m⟩ = [u8 (64 * c + (if m then 32 else 0) + 31), u8 (128 + n / 128 % 128), u8 (n % 128)] := by
  simp only [tagB, if_neg (show ¬ n < 31 by omega), if_neg (show ¬ 16384 ≤ n by omega), if_pos (show 128 ≤ n by omega)]; simp
theorem tagB3 (c n : Int) (m : Bool) (h : 16384 ≤ n) : tagB ⟨c, n, m⟩ = [u8 (64 * c + (if m then 32 else 0) + 31), u8 (128 + n / 16384), u8 (128 + n / 128 % 128), u8 (n % 128)] := by
  simp only [tagB, if_neg (show ¬ n < 31 by omega), if_pos (show 16384 ≤ n by omega), if_pos (show 128 ≤ n by omega)]; simp
theorem made_val (x : Int) (h0 : 0 ≤ x) (h1 : x < 256) : (if (x / 32 % 2 == 1) = true then (32 : Int) else 0) = x / 32 % 2 * 32 := by
  have : x / 32 % 2 = 0 ∨ x / 32 % 2 = 1 := by omega
  rcases this with h | h <;> simp [h]

theorem rTag_back (l : List UInt8) (k : Nat) (h : (rTag l k).2.2 = 0) : (rTag l k).1.right ∧ (l.drop k).take ((rTag l k).2.1 - k) = tagB (rTag l k).1 := by
  have b0 := nth_bound l k
  have b1 := nth_bound l (k + 1)
  have b2 := nth_bound l (k + 2)
  have b3 := nth_bound l (k + 3)
  have hm := made_val (nth l k) b0.1 b0.2
  unfold rTag at h ⊢
  split at h
  · simp at h
  · rename_i hl
    rw [if_neg hl]
    split at h
    · rename_i h1
      rw [if_pos h1]
      refine ⟨⟨by simp only [tg1]; omega, by simp only [tg1]; omega, by simp only [tg1]; omega, by simp only [tg1]; omega⟩, ?_⟩
      rw [show k + 1 - k = 0 + 1 by omega, seg (by omega)]
      unfold tg1
      rw [tagB0 _ _ _ h1, hm]
      simp only [List.take_zero]
      exact cons_u8 (by omega) rfl
    · rename_i h1
      rw [if_neg h1]
      rw [digs2] at h ⊢
      split at h
      · simp at h
      · rename_i h2
        rw [if_neg h2]
        split at h
        · simp at h
        · rename_i h3
          rw [if_neg h3]
          have h3' : ¬ nth l (k + 1) = 128 := fun e => h3 ⟨rfl, e⟩
          clear h3
          split at h
          · rename_i h4
            rw [if_pos h4]
            split at h
            · simp at h
            · rename_i h5
              rw [if_neg h5]
              refine ⟨⟨by simp only; omega, by simp only; omega, by simp only; omega, by simp only; omega⟩, ?_⟩
              rw [show k + 1 + 1 - k = 0 + 1 + 1 by omega, seg (by omega), seg (by omega), tagB1 _ _ _ (by omega) (by omega), hm]
              simp only [List.take_zero]
              exact cons_u8 (by omega) (cons_u8 (by omega) rfl)
          · rename_i h4
            rw [if_neg h4]
            rw [digs2] at h ⊢
            split at h
            · simp at h
            · rename_i h12
              rw [if_neg h12]
              rw [if_neg (by omega)] at h
              rw [if_neg (by omega)]
              split at h
              · rename_i h14
                rw [if_pos h14]
                split at h
                · simp at h
                · rename_i h15
                  rw [if_neg h15]
                  simp only [show k + (1 + 1) = k + 2 by omega] at *
                  refine ⟨⟨by simp only; omega, by simp only; omega, by simp only; omega, by simp only; omega⟩, ?_⟩
                  rw [show k + 2 + 1 - k = 0 + 1 + 1 + 1 by omega, seg (by omega), seg (by omega), seg (by omega), tagB2 _ _ _ (by omega) (by omega), hm]
                  simp only [List.take_zero, show k + 1 + 1 = k + 2 by omega]
                  exact cons_u8 (by omega) (cons_u8 (by omega) (cons_u8 (by omega) rfl))
              · rename_i h14
                rw [if_neg h14]
                rw [digs2] at h ⊢
                split at h
                · simp at h
                · rename_i h22
                  rw [if_neg h22]
                  rw [if_neg (by omega)] at h
                  rw [if_neg (by omega)]
                  split at h
                  · rename_i h24
                    rw [if_pos h24]
                    split at h
                    · simp at h
                    · rename_i h25
                      rw [if_neg h25]
                      simp only [show k + (1 + 1 + 1) = k + 3 by omega, show k + (1 + 1) = k + 2 by omega] at *
                      refine ⟨⟨by simp only; omega, by simp only; omega, by simp only; omega, by simp only; omega⟩, ?_⟩
                      rw [show k + 3 + 1 - k = 0 + 1 + 1 + 1 + 1 by omega, seg (by omega), seg (by omega), seg (by omega), seg (by omega), tagB3 _ _ _ (by omega), hm]
                      simp only [List.take_zero, show k + 1 + 1 = k + 2 by omega, show k + 2 + 1 = k + 3 by omega]
                      exact cons_u8 (by omega) (cons_u8 (by omega) (cons_u8 (by omega) (cons_u8 (by omega) rfl)))
                  · rw [digs2] at h
                    split at h <;> simp at h


theorem rLen_back (l : List UInt8) (k : Nat) (h : (rLen l k).2.2 = 0) : (l.drop k).take ((rLen l k).2.1 - k) = lenB (rLen l k).1 := by
  have b0 := nth_bound l k
  have b1 := nth_bound l (k + 1)
  have b2 := nth_bound l (k + 1 + 1)
  have b3 := nth_bound l (k + 1 + 1 + 1)
  have b4 := nth_bound l (k + 1 + 1 + 1 + 1)
  unfold rLen at h ⊢
  split at h
  · simp at h
  · rename_i hl
    rw [if_neg hl]
    split at h
    · rename_i h1
      rw [if_pos h1]
      simp only
      rw [show k + 1 - k = 0 + 1 by omega, seg (by omega), lenB, if_pos h1]
      simp
    · rename_i h1
      rw [if_neg h1]
      split at h
      · simp at h
      · rename_i h2
        rw [if_neg h2]
        split at h
        · simp at h
        · rename_i h3
          rw [if_neg h3]
          split at h
          · simp at h
          · rename_i h4
            rw [if_neg h4]
            split at h
            · simp at h
            · rename_i h5
              rw [if_neg h5]
              clear h
              have hu : ∀ (a : UInt8) (z : Int), z = (a.toNat : Int) → u8 z = a := by rintro a z rfl; unfold u8; simp
              obtain ⟨r, hr, hr1, hr4⟩ : ∃ r : Nat, (nth l k - 128).toNat = r ∧ 1 ≤ r ∧ r ≤ 4 := ⟨_, rfl, by omega, by omega⟩
              have hx : nth l k = 128 + r := by omega
              simp only [hr] at *
              have hr' : r = 1 ∨ r = 2 ∨ r = 3 ∨ r = 4 := by omega
              rcases hr' with rfl | rfl | rfl | rfl
              · simp only [bign] at *
                rw [show k + 1 + 1 - k = 0 + 1 + 1 by omega, seg (by omega), seg (by omega), hx, show u8 (128 + ((1 : Nat) : Int)) = 129 from rfl, lenB, if_neg (by omega), if_pos (by omega)]
                simp only [List.take_zero]
                exact congrArg _ (cons_u8 (by omega) rfl)
              · simp only [bign] at *
                rw [show k + 2 + 1 - k = 0 + 1 + 1 + 1 by omega, seg (by omega), seg (by omega), seg (by omega), hx, show u8 (128 + ((2 : Nat) : Int)) = 130 from rfl, lenB, if_neg (by omega), if_neg (by omega), if_pos (by omega)]
                simp only [List.take_zero]
                exact congrArg _ (cons_u8 (by omega) (cons_u8 (by omega) rfl))
              · simp only [bign] at *
                rw [show k + 3 + 1 - k = 0 + 1 + 1 + 1 + 1 by omega, seg (by omega), seg (by omega), seg (by omega), seg (by omega), hx, show u8 (128 + ((3 : Nat) : Int)) = 131 from rfl, lenB, if_neg (by omega), if_neg (by omega), if_neg (by omega), if_pos (by omega)]
                simp only [List.take_zero]
                exact congrArg _ (cons_u8 (by omega) (cons_u8 (by omega) (cons_u8 (by omega) rfl)))
              · simp only [bign] at *
                rw [show k + 4 + 1 - k = 0 + 1 + 1 + 1 + 1 + 1 by omega, seg (by omega), seg (by omega), seg (by omega), seg (by omega), seg (by omega), hx, show u8 (128 + ((4 : Nat) : Int)) = 132 from rfl, lenB, if_neg (by omega), if_neg (by omega), if_neg (by omega), if_neg (by omega)]
                simp only [List.take_zero]
                exact congrArg _ (cons_u8 (by omega) (cons_u8 (by omega) (cons_u8 (by omega) (cons_u8 (by omega) rfl))))

end Go.Proofs.Ytbhfaakhcnkegaa
