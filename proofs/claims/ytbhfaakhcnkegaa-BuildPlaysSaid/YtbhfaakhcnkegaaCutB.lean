/-
  Cut-off bytes, without a program: what is read before the cut is read as it was, and what reaches beyond it meets the end.
-/
import Derived.Test.YtbhfaakhcnkegaaBackB
namespace Go.Proofs.Ytbhfaakhcnkegaa
open Go.RowKit
set_option linter.unusedVariables false
set_option linter.unusedSimpArgs false
set_option maxRecDepth 4000

theorem nth_take {l : List UInt8} {i j : Nat} (h : i < j) : nth (l.take j) i = nth l i := by
  simp [nth, List.getD, List.getElem?_take, h]

theorem digs_cut (l : List UInt8) (k j : Nat) (c : Int) (m : Bool) : ∀ (f i : Nat) (z : Int), (digs2 l k c m f i z).2.2 = 0 → j < (digs2 l k c m f i z).2.1 → digs2 (l.take j) k c m f i z = (tg0, k, 3) := by
  intro f
  induction f with
  | zero =>
    intro i z h0 h1
    unfold digs2 at h0
    split at h0 <;> simp at h0
  | succ f ih =>
    intro i z h0 h1
    by_cases hj : j ≤ k + i
    · rw [digs2, if_pos (by simp; omega)]
    · rw [digs2] at h0 h1
      split at h0
      · simp at h0
      · rename_i hl
        rw [if_neg hl] at h1
        rw [digs2, if_neg (by simp; omega), nth_take (by omega)]
        split at h0
        · simp at h0
        · rename_i h2
          rw [if_neg h2] at h1 ⊢
          split at h0
          · rename_i h3
            rw [if_pos h3] at h1
            split at h0
            · simp at h0
            · rename_i h4
              rw [if_neg h4] at h1
              simp only at h1
              omega
          · rename_i h3
            rw [if_neg h3] at h1 ⊢
            exact ih _ _ h0 h1

theorem digs_keep (l : List UInt8) (k j : Nat) (c : Int) (m : Bool) : ∀ (f i : Nat) (z : Int), (digs2 l k c m f i z).2.2 = 0 → (digs2 l k c m f i z).2.1 ≤ j → digs2 (l.take j) k c m f i z = digs2 l k c m f i z ∧ k + i < (digs2 l k c m f i z).2.1 := by
  intro f
  induction f with
  | zero =>
    intro i z h0 h1
    unfold digs2 at h0
    split at h0 <;> simp at h0
  | succ f ih =>
    intro i z h0 h1
    rw [digs2] at h0 h1
    split at h0
    · simp at h0
    · rename_i hl
      rw [if_neg hl] at h1
      split at h0
      · simp at h0
      · rename_i h2
        rw [if_neg h2] at h1
        split at h0
        · rename_i h3
          rw [if_pos h3] at h1
          split at h0
          · simp at h0
          · rename_i h4
            rw [if_neg h4] at h1
            simp only at h1
            rw [digs2, if_neg (by simp; omega), nth_take (by omega), if_neg h2, if_pos h3, if_neg h4, digs2, if_neg hl, if_neg h2, if_pos h3, if_neg h4]
            exact ⟨rfl, by simp⟩
        · rename_i h3
          rw [if_neg h3] at h1
          have h5 := ih _ _ h0 h1
          have h6 : k + i < j := by omega
          rw [digs2, if_neg (by simp; omega), nth_take (by omega), if_neg h2, if_neg h3, digs2, if_neg hl, if_neg h2, if_neg h3]
          exact ⟨h5.1, by omega⟩

theorem rTag_cut (l : List UInt8) (k j : Nat) (h0 : (rTag l k).2.2 = 0) (h1 : j < (rTag l k).2.1) : rTag (l.take j) k = (tg0, k, 3) := by
  by_cases hj : j ≤ k
  · unfold rTag; rw [if_pos (by simp; omega)]
  · unfold rTag at h0 h1
    split at h0
    · simp at h0
    · rename_i hl
      rw [if_neg hl] at h1
      split at h0
      · rename_i h2
        rw [if_pos h2] at h1
        simp only at h1
        omega
      · rename_i h2
        rw [if_neg h2] at h1
        unfold rTag
        rw [if_neg (by simp; omega), nth_take (by omega), if_neg h2]
        exact digs_cut l k j _ _ _ _ _ h0 h1

theorem rTag_keep (l : List UInt8) (k j : Nat) (h0 : (rTag l k).2.2 = 0) (h1 : (rTag l k).2.1 ≤ j) : rTag (l.take j) k = rTag l k := by
  unfold rTag at h0 h1
  split at h0
  · simp at h0
  · rename_i hl
    rw [if_neg hl] at h1
    split at h0
    · rename_i h2
      rw [if_pos h2] at h1
      simp only at h1
      unfold rTag
      rw [if_neg (by simp; omega), nth_take (by omega), if_pos h2, if_neg hl, if_pos h2]
    · rename_i h2
      rw [if_neg h2] at h1
      have h5 := digs_keep l k j _ _ _ _ _ h0 h1
      unfold rTag
      rw [if_neg (by simp; omega), nth_take (by omega), if_neg h2, if_neg hl, if_neg h2]
      exact h5.1

theorem bign_take (l : List UInt8) (j : Nat) : ∀ (f p : Nat) (z : Int), p + f ≤ j → bign (l.take j) p f z = bign l p f z := by
  intro f
  induction f with
  | zero => intro p z h; rfl
  | succ f ih => intro p z h; unfold bign; rw [nth_take (by omega), ih _ _ (by omega)]

theorem rLen_cut (l : List UInt8) (k j : Nat) (h0 : (rLen l k).2.2 = 0) (h1 : j < (rLen l k).2.1) : rLen (l.take j) k = (0, k, 3) := by
  by_cases hj : j ≤ k
  · unfold rLen; rw [if_pos (by simp; omega)]
  · have hb := nth_bound l k
    unfold rLen at h0 h1
    split at h0
    · simp at h0
    · rename_i hl
      rw [if_neg hl] at h1
      split at h0
      · rename_i h2
        rw [if_pos h2] at h1
        simp only at h1
        omega
      · rename_i h2
        rw [if_neg h2] at h1
        split at h0
        · simp at h0
        · rename_i h3
          rw [if_neg h3] at h1
          split at h0
          · simp at h0
          · rename_i h4
            rw [if_neg h4] at h1
            split at h0
            · simp at h0
            · rename_i h5
              rw [if_neg h5] at h1
              split at h0
              · simp at h0
              · rename_i h6
                rw [if_neg h6] at h1
                simp only at h1
                unfold rLen
                rw [if_neg (by simp; omega), nth_take (by omega), if_neg h2, if_neg h3, if_pos (by simp; omega)]

theorem rLen_keep (l : List UInt8) (k j : Nat) (h0 : (rLen l k).2.2 = 0) (h1 : (rLen l k).2.1 ≤ j) : rLen (l.take j) k = rLen l k := by
  have hb := nth_bound l k
  unfold rLen at h0 h1
  split at h0
  · simp at h0
  · rename_i hl
    rw [if_neg hl] at h1
    split at h0
    · rename_i h2
      rw [if_pos h2] at h1
      simp only at h1
      unfold rLen
      rw [if_neg (by simp; omega), nth_take (by omega), if_pos h2, if_neg hl, if_pos h2]
    · rename_i h2
      rw [if_neg h2] at h1
      split at h0
      · simp at h0
      · rename_i h3
        rw [if_neg h3] at h1
        split at h0
        · simp at h0
        · rename_i h4
          rw [if_neg h4] at h1
          split at h0
          · simp at h0
          · rename_i h5
            rw [if_neg h5] at h1
            split at h0
            · simp at h0
            · rename_i h6
              rw [if_neg h6] at h1
              simp only at h1
              unfold rLen
              rw [if_neg (by simp; omega), nth_take (by omega), if_neg h2, if_neg h3, if_neg (by simp; omega), nth_take (by omega), bign_take _ _ _ _ _ (by omega), if_neg h5, if_neg h6,
                if_neg hl, if_neg h2, if_neg h3, if_neg h4]

/-- A whole that is cut off is not opened. -/
theorem rAlone_cut (t : Tg) (l : List UInt8) (j : Nat) (h : t.right) (hl : l.length ≤ 16777216) (hj : j < (wrapB t l).length) : rAlone ((wrapB t l).take j) t = ([], 3) := by
  have e1 : wrapB t l = tagB t ++ (lenB l.length ++ l) := by simp [wrapB]
  have hT : rTag (wrapB t l) 0 = (t, (tagB t).length, 0) := by
    have := rTag_tagB [] (lenB l.length ++ l) t h
    rw [e1]; simpa using this
  have hN : rLen (wrapB t l) (tagB t).length = ((l.length : Int), (tagB t).length + (lenB l.length).length, 0) := by
    have := rLen_lenB (tagB t) l l.length (by omega) (by omega)
    rw [e1]; exact this
  have hlen : (wrapB t l).length = (tagB t).length + (lenB l.length).length + l.length := by simp [wrapB]; omega
  have hO : rOpen ((wrapB t l).take j) 0 t = ([], 0, 3) := by
    by_cases h1 : j < (tagB t).length
    · have := rTag_cut (wrapB t l) 0 j (by rw [hT]) (by rw [hT]; exact h1)
      unfold rOpen rHead
      simp [this]
    · have k1 := rTag_keep (wrapB t l) 0 j (by rw [hT]) (by rw [hT]; simp only; omega)
      rw [hT] at k1
      by_cases h2 : j < (tagB t).length + (lenB l.length).length
      · have k2 := rLen_cut (wrapB t l) (tagB t).length j (by rw [hN]) (by rw [hN]; exact h2)
        unfold rOpen rHead
        simp [k1, k2]
      · have k2 := rLen_keep (wrapB t l) (tagB t).length j (by rw [hN]) (by rw [hN]; simp only; omega)
        rw [hN] at k2
        unfold rOpen rHead
        simp only [k1, k2, if_true]
        rw [if_pos (by simp; omega)]
  unfold rAlone
  rw [hO]
  simp

end Go.Proofs.Ytbhfaakhcnkegaa
