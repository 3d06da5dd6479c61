/-
  Plain functions on texts: their characters by kind, which kinds have a character, the bytes of a character, and how these go together.
-/
import Derived.Test.YtoklonnajpjgjaaDoorBase
import Derived.Lib.MapLaws
namespace Go.Proofs.YtoklonnajpjgjaaDoor
open Go.RowKit
set_option linter.unusedVariables false
set_option linter.unusedSimpArgs false

/-- The first character of bytes, and how many bytes it has; -1 for what is none. -/
def decT (k : Int) (l : List UInt8) : Int × Nat :=
  if k = 12 then (if (Lib.decodeL l).1 = 65533 ∧ (Lib.decodeL l).2 = 1 then (-1, 1) else (((Lib.decodeL l).1 : Int), (Lib.decodeL l).2))
  else if k = 30 then (if l.length < 2 then (-1, l.length) else (256 * nth l 0 + nth l 1, 2))
  else (nth l 0, 1)
theorem decT_size (k : Int) (l : List UInt8) (h : l ≠ []) : 1 ≤ (decT k l).2 ∧ (decT k l).2 ≤ l.length := by
  have hl : 0 < l.length := List.length_pos_iff.2 h
  unfold decT
  split
  · split
    · exact ⟨by omega, by simp; omega⟩
    · exact ⟨Lib.decodeL_width l, Lib.decodeL_le l h⟩
  · split
    · split
      · exact ⟨by simp; omega, by simp⟩
      · exact ⟨by simp, by simp; omega⟩
    · exact ⟨by simp, by simp; omega⟩
theorem decT_rune (k : Int) (l : List UInt8) : -1 ≤ (decT k l).1 ∧ (decT k l).1 ≤ 1114111 := by
  have h0 := nth_bound l 0
  have h1 := nth_bound l 1
  have h2 := Lib.decodeL_rune l
  unfold decT
  split
  · split <;> simp <;> omega
  · split
    · split <;> simp <;> omega
    · simp; omega
/-- All characters of bytes. -/
def runesT (k : Int) (l : List UInt8) : List Int :=
  if h : l = [] then [] else (decT k l).1 :: runesT k (l.drop (decT k l).2)
termination_by l.length
decreasing_by
  have := decT_size k l h
  rw [List.length_drop]; omega
theorem runesT_nil (k : Int) : runesT k [] = [] := by rw [runesT]; simp
theorem runesT_step (k : Int) (l : List UInt8) (h : l ≠ []) : runesT k l = (decT k l).1 :: runesT k (l.drop (decT k l).2) := by
  rw [runesT]; simp [h]
theorem runesT_length (k : Int) (l : List UInt8) : (runesT k l).length ≤ l.length := by
  induction l using runesT.induct (k := k) with
  | case1 => simp [runesT_nil]
  | case2 l h ih =>
    rw [runesT_step k l h]
    have := decT_size k l h
    rw [List.length_drop] at ih
    simp only [List.length_cons]; omega
theorem runesT_rune (k : Int) (l : List UInt8) : ∀ r ∈ runesT k l, -1 ≤ r ∧ r ≤ 1114111 := by
  induction l using runesT.induct (k := k) with
  | case1 => simp [runesT_nil]
  | case2 l h ih =>
    rw [runesT_step k l h]
    intro r hr
    rcases List.mem_cons.1 hr with rfl | hr
    · exact decT_rune k l
    · exact ih r hr
/-- A letter or a digit. -/
def plainT (r : Int) : Bool := decide ((97 ≤ r ∧ r ≤ 122) ∨ (65 ≤ r ∧ r ≤ 90) ∨ (48 ≤ r ∧ r ≤ 57))
/-- What a printable text has beside these. -/
def markT (r : Int) : Bool := decide (r = 32 ∨ (39 ≤ r ∧ r ≤ 41) ∨ (43 ≤ r ∧ r ≤ 47) ∨ r = 58 ∨ r = 61 ∨ r = 63)
/-- Which kinds have which characters. -/
def hasT (k r : Int) : Bool :=
  if k = 12 then Lib.validRune r else if k = 19 then (plainT r || markT r) else if k = 20 then decide (0 ≤ r ∧ r ≤ 255) else if k = 22 then decide (0 ≤ r ∧ r ≤ 127)
  else if k = 26 then decide (32 ≤ r ∧ r ≤ 126) else if k = 30 then (Lib.validRune r && decide (r ≤ 65535)) else false
def isK (k : Int) : Bool := decide (k = 12 ∨ k = 19 ∨ k = 20 ∨ k = 22 ∨ k = 26 ∨ k = 30)
theorem isK_cases {k : Int} (h : isK k = true) : k = 12 ∨ k = 19 ∨ k = 20 ∨ k = 22 ∨ k = 26 ∨ k = 30 := by simpa [isK] using h
def rightT (k : Int) (l : List UInt8) : Bool := isK k && (runesT k l).all (hasT k)
theorem hasT_valid {k r : Int} (hk : isK k = true) (h : hasT k r = true) : Lib.validRune r = true := by
  have hv : ∀ r : Int, Lib.validRune r = decide ((0 ≤ r ∧ r < 55296) ∨ (57343 < r ∧ r ≤ 1114111)) := fun _ => rfl
  rw [hv]
  rcases isK_cases hk with rfl | rfl | rfl | rfl | rfl | rfl <;> simp [hasT, plainT, markT, hv] at h ⊢ <;> omega
theorem valid_bound {r : Int} (h : Lib.validRune r = true) : 0 ≤ r ∧ r ≤ 1114111 := by
  have hv : Lib.validRune r = decide ((0 ≤ r ∧ r < 55296) ∨ (57343 < r ∧ r ≤ 1114111)) := rfl
  rw [hv] at h; simp at h; omega
/-- A byte of a number. -/
def loB (r : Int) : UInt8 := UInt8.ofNat (r % 256).toNat
theorem loB_toNat (r : Int) : ((loB r).toNat : Int) = r % 256 := by
  unfold loB; rw [UInt8.toNat_ofNat']; omega
theorem loB_nth {r : Int} {l : List UInt8} {i : Nat} (h : r % 256 = nth l i) : loB r = l.getD i 0 := by
  apply UInt8.toNat_inj.1
  have := loB_toNat r
  unfold nth at h; omega
/-- The bytes of a character. -/
def encT (k r : Int) : List UInt8 := if k = 12 then Lib.encodeRune r else if k = 30 then [loB (r / 256), loB r] else [loB r]
theorem encT_length (k r : Int) : 1 ≤ (encT k r).length ∧ (encT k r).length ≤ 4 := by
  unfold encT
  split
  · have := Lib.encodeRuneZ_length r; simpa [Lib.encodeRune] using this
  · split <;> simp

theorem drop1 (l : List UInt8) (h : l ≠ []) : l = l.getD 0 0 :: l.drop 1 := by cases l with | nil => exact absurd rfl h | cons a t => simp
theorem drop2 (l : List UInt8) (h : 2 ≤ l.length) : l = l.getD 0 0 :: l.getD 1 0 :: l.drop 2 := by
  match l, h with
  | _ :: _ :: _, _ => simp

/-- A character that a kind has is made of just its bytes. -/
theorem enc_dec (k : Int) (l : List UInt8) (h : l ≠ []) (hr : (decT k l).1 ≠ -1) : encT k (decT k l).1 = l.take (decT k l).2 := by
  by_cases h12 : k = 12
  · subst h12
    have hd : decT 12 l = if (Lib.decodeL l).1 = 65533 ∧ (Lib.decodeL l).2 = 1 then (-1, 1) else (((Lib.decodeL l).1 : Int), (Lib.decodeL l).2) := by simp [decT]
    by_cases hv : (Lib.decodeL l).1 = 65533 ∧ (Lib.decodeL l).2 = 1
    · rw [hd, if_pos hv] at hr; exact absurd rfl hr
    · rw [hd, if_neg hv]
      simp only [encT, if_true]
      exact Lib.encode_decode l h hv
  · by_cases h30 : k = 30
    · subst h30
      have hd : decT 30 l = if l.length < 2 then (-1, l.length) else (256 * nth l 0 + nth l 1, 2) := by simp [decT]
      by_cases hl : l.length < 2
      · rw [hd, if_pos hl] at hr; exact absurd rfl hr
      · rw [hd, if_neg hl]
        have b0 := nth_bound l 0
        have b1 := nth_bound l 1
        have e := drop2 l (by omega)
        simp only [encT, h12, if_false, if_true]
        rw [loB_nth (i := 0) (l := l) (by omega), loB_nth (i := 1) (l := l) (by omega)]
        rw [e]; simp
    · have hd : decT k l = (nth l 0, 1) := by simp [decT, h12, h30]
      rw [hd]
      have b0 := nth_bound l 0
      have e := drop1 l h
      simp only [encT, h12, h30, if_false]
      rw [loB_nth (i := 0) (l := l) (by omega)]
      rw [e]; simp
theorem hasT_neg (k : Int) : hasT k (-1) = false := by
  unfold hasT
  repeat' split
  all_goals first | rfl | decide
/-- The characters of a text that is right are made of just its bytes. -/
theorem enc_runes (k : Int) (l : List UInt8) (h : (runesT k l).all (hasT k) = true) : (runesT k l).flatMap (encT k) = l := by
  induction l using runesT.induct (k := k) with
  | case1 => simp [runesT_nil]
  | case2 l hl ih =>
    rw [runesT_step k l hl] at h ⊢
    simp only [List.all_cons, Bool.and_eq_true] at h
    have hne : (decT k l).1 ≠ -1 := by intro e; rw [e, hasT_neg] at h; exact absurd h.1 (by simp)
    rw [List.flatMap_cons, ih h.2, enc_dec k l hl hne, List.take_append_drop]

theorem toB (z : Int) (h0 : 0 ≤ z) (h1 : z < 256) : ((z.toNat.toUInt8).toNat : Int) = z := by
  rw [show z.toNat.toUInt8 = UInt8.ofNat z.toNat from rfl, UInt8.toNat_ofNat']; omega
/-- The bytes of a character are read as it. -/
theorem dec_enc12 (r : Int) (t : List UInt8) (h : Lib.validRune r = true) : decT 12 (Lib.encodeRune r ++ t) = (r, (Lib.encodeRune r).length) := by
  have hv : Lib.validRune r = decide ((0 ≤ r ∧ r < 55296) ∨ (57343 < r ∧ r ≤ 1114111)) := rfl
  rw [hv] at h
  have h' : (0 ≤ r ∧ r < 55296) ∨ (57343 < r ∧ r ≤ 1114111) := by simpa using h
  have key : Lib.decodeL (Lib.encodeRune r ++ t) = (r.toNat, (Lib.encodeRune r).length) := by
    rw [Lib.decodeL_N]
    unfold Lib.encodeRune
    by_cases c1 : r ≤ 127
    · rw [Lib.encodeRuneZ_one (by omega) c1]
      have e0 := toB r (by omega) (by omega)
      simp only [List.map_cons, List.map_nil, List.cons_append, List.nil_append, List.getD_cons_zero, List.length_cons, List.length_nil]
      generalize r.toNat.toUInt8 = x0 at *
      unfold Lib.decodeN
      rw [if_pos (by omega)]
      apply Prod.ext <;> simp only <;> omega
    · by_cases c2 : r ≤ 2047
      · rw [Lib.encodeRuneZ_two (by omega) c2]
        have e0 := toB (192 + r / 64) (by omega) (by omega)
        have e1 := toB (128 + r % 64) (by omega) (by omega)
        simp only [List.map_cons, List.map_nil, List.cons_append, List.nil_append, List.getD_cons_zero, List.getD_cons_succ, List.length_cons, List.length_nil]
        generalize (192 + r / 64).toNat.toUInt8 = x0 at *
        generalize (128 + r % 64).toNat.toUInt8 = x1 at *
        generalize (t.getD 0 0).toNat = y0
        generalize (t.getD 1 0).toNat = y1
        unfold Lib.decodeN
        rw [if_neg (by omega), if_pos (by omega), if_pos (by omega)]
        apply Prod.ext <;> simp only <;> omega
      · by_cases c3 : r ≤ 65535
        · rw [Lib.encodeRuneZ_three (by omega)]
          have e0 := toB (224 + r / 4096) (by omega) (by omega)
          have e1 := toB (128 + r / 64 % 64) (by omega) (by omega)
          have e2 := toB (128 + r % 64) (by omega) (by omega)
          simp only [List.map_cons, List.map_nil, List.cons_append, List.nil_append, List.getD_cons_zero, List.getD_cons_succ, List.length_cons, List.length_nil]
          generalize (224 + r / 4096).toNat.toUInt8 = x0 at *
          generalize (128 + r / 64 % 64).toNat.toUInt8 = x1 at *
          generalize (128 + r % 64).toNat.toUInt8 = x2 at *
          generalize (t.getD 0 0).toNat = y0
          unfold Lib.decodeN
          rw [if_neg (by omega), if_neg (by omega), if_pos (by omega), if_pos (by omega)]
          apply Prod.ext <;> simp only <;> omega
        · rw [Lib.encodeRuneZ_four (by omega) (by omega)]
          have e0 := toB (240 + r / 262144) (by omega) (by omega)
          have e1 := toB (128 + r / 4096 % 64) (by omega) (by omega)
          have e2 := toB (128 + r / 64 % 64) (by omega) (by omega)
          have e3 := toB (128 + r % 64) (by omega) (by omega)
          simp only [List.map_cons, List.map_nil, List.cons_append, List.nil_append, List.getD_cons_zero, List.getD_cons_succ, List.length_cons, List.length_nil]
          generalize (240 + r / 262144).toNat.toUInt8 = x0 at *
          generalize (128 + r / 4096 % 64).toNat.toUInt8 = x1 at *
          generalize (128 + r / 64 % 64).toNat.toUInt8 = x2 at *
          generalize (128 + r % 64).toNat.toUInt8 = x3 at *
          unfold Lib.decodeN
          rw [if_neg (by omega), if_neg (by omega), if_neg (by omega), if_pos (by omega), if_pos (by omega)]
          apply Prod.ext <;> simp only <;> omega
  have hlen3 : r = 65533 → (Lib.encodeRune r).length ≠ 1 := by
    rintro rfl; unfold Lib.encodeRune; rw [Lib.encodeRuneZ_three (by omega)]; simp
  have hd : decT 12 (Lib.encodeRune r ++ t) = if (Lib.decodeL (Lib.encodeRune r ++ t)).1 = 65533 ∧ (Lib.decodeL (Lib.encodeRune r ++ t)).2 = 1 then (-1, 1) else (((Lib.decodeL (Lib.encodeRune r ++ t)).1 : Int), (Lib.decodeL (Lib.encodeRune r ++ t)).2) := by simp [decT]
  rw [hd, key]
  rw [if_neg (by rintro ⟨a, b⟩; exact hlen3 (by simp only at a; omega) b)]
  apply Prod.ext <;> simp only
  omega
theorem enc_ne (r : Int) : Lib.encodeRune r ≠ [] := by
  have := Lib.encodeRuneZ_length r
  intro e
  have h : (Lib.encodeRune r).length = 0 := by rw [e]; rfl
  simp [Lib.encodeRune] at h; rw [h] at this; simp at this
/-- Characters as UTF-8 are read as they were. -/
theorem runes_enc12 : ∀ (L : List Int), (L.all Lib.validRune) = true → runesT 12 (L.flatMap Lib.encodeRune) = L
  | [], _ => by simp [runesT_nil]
  | r :: t, h => by
    simp only [List.all_cons, Bool.and_eq_true] at h
    rw [List.flatMap_cons]
    have hne : Lib.encodeRune r ++ t.flatMap Lib.encodeRune ≠ [] := by intro e; exact enc_ne r (List.append_eq_nil_iff.1 e).1
    rw [runesT_step 12 _ hne, dec_enc12 r _ h.1]
    simp only [List.drop_left, runes_enc12 t h.2]
theorem encT12 : encT 12 = Lib.encodeRune := by funext r; simp [encT]
theorem hasT12 : hasT 12 = Lib.validRune := by funext r; simp [hasT]
end Go.Proofs.YtoklonnajpjgjaaDoor
