/-
  What needs no program: oids, their numbers in base 128, there and back.
-/
import Derived.Test.YtfighoplbmmijaaDoorVal
import Derived.Lib.ItoaNum
import Derived.Lib.ItoaMem
import Derived.Lib.Join
import Derived.Lib.IndexMore
namespace Go.Proofs.YtfighoplbmmijaaDoor
open Go.RowKit
set_option linter.unusedVariables false
set_option linter.unusedSimpArgs false
set_option maxRecDepth 4000

/-- The greatest second number. -/
def most2 (t : Int) : Int := if t < 2 then 39 else 2147483567
/-- A number that may stand in an oid. -/
def arcB (n : Int) : Bool := decide (0 ≤ n) && decide (n ≤ 2147483647)
/-- It is an oid. -/
def rightO (l : List Int) : Bool := decide (2 ≤ l.length) && (decide (l.length ≤ 32) && (l.all arcB && (decide (zth l 0 ≤ 2) && decide (zth l 1 ≤ most2 (zth l 0)))))
structure RightO (l : List Int) : Prop where
  two : 2 ≤ l.length
  max : l.length ≤ 32
  arcs : ∀ n ∈ l, 0 ≤ n ∧ n ≤ 2147483647
  top : zth l 0 ≤ 2
  second : zth l 1 ≤ most2 (zth l 0)
theorem rightO_iff (l : List Int) : rightO l = true ↔ RightO l := by
  unfold rightO
  simp only [Bool.and_eq_true, decide_eq_true_eq, List.all_eq_true, arcB]
  exact ⟨fun ⟨a, b, c, d, e⟩ => ⟨a, b, c, d, e⟩, fun h => ⟨h.two, h.max, h.arcs, h.top, h.second⟩⟩
theorem zth_mem {l : List Int} {k : Nat} (h : k < l.length) : zth l k ∈ l := by
  unfold zth; simp [List.getD, List.getElem?_eq_getElem h]
theorem RightO.at_ {l : List Int} (h : RightO l) (k : Nat) : 0 ≤ zth l k ∧ zth l k ≤ 2147483647 := by
  by_cases hk : k < l.length
  · exact h.arcs _ (zth_mem hk)
  · unfold zth; rw [List.getD, List.getElem?_eq_none (by omega)]; simp
theorem RightO.first {l : List Int} (h : RightO l) : 0 ≤ 40 * zth l 0 + zth l 1 ∧ 40 * zth l 0 + zth l 1 ≤ 2147483647 := by
  have h0 := h.at_ 0
  have h1 := h.at_ 1
  have h2 := h.top
  have h3 := h.second
  unfold most2 at h3
  split at h3 <;> omega

/-- A number in base 128; m is added to the last digit. -/
def spl (n m : Nat) : List UInt8 := (if h : 128 ≤ n then spl (n / 128) 128 else []) ++ [UInt8.ofNat (n % 128 + m)]
termination_by n
decreasing_by omega
theorem spl_small {n m : Nat} (h : n < 128) : spl n m = [UInt8.ofNat (n + m)] := by
  rw [spl, dif_neg (by omega), List.nil_append, Nat.mod_eq_of_lt h]
theorem spl_big {n m : Nat} (h : 128 ≤ n) : spl n m = spl (n / 128) 128 ++ [UInt8.ofNat (n % 128 + m)] := by
  rw [spl, dif_pos h]
theorem spl_pos (n m : Nat) : 0 < (spl n m).length := by rw [spl]; simp
theorem spl_len (n m : Nat) (h : n < 128) : (spl n m).length = 1 := by rw [spl_small h]; rfl
theorem spl_len5 (n m : Nat) (h : n ≤ 2147483647) : (spl n m).length ≤ 5 := by
  have s : ∀ k m, k < 128 → (spl k m).length ≤ 1 := fun k m h => by rw [spl_len k m h]; omega
  have t : ∀ k m b, (∀ x y, x < b → (spl x y).length ≤ k) → 128 ≤ b → ∀ n, n < 128 * b → (spl n m).length ≤ k + 1 := by
    intro k m b hb hb1 n hn
    by_cases h : 128 ≤ n
    · rw [spl_big h]; have := hb (n / 128) 128 (by omega); simp; omega
    · rw [spl_len n m (by omega)]; omega
  exact t 4 m (128 ^ 4) (fun x y hx => t 3 y (128 ^ 3) (fun x y hx => t 2 y (128 ^ 2) (fun x y hx => t 1 y 128 (fun x y hx => s x y hx) (by omega) x hx) (by omega) x hx) (by omega) x hx) (by omega) n (by omega)

/-- A number of an oid, as contents. -/
def arcO (n : Int) : List UInt8 := spl n.toNat 0
/-- The contents of an oid. -/
def contO (l : List Int) : List UInt8 := arcO (40 * zth l 0 + zth l 1) ++ (l.drop 2).flatMap arcO

/-- The number at the beginning: the number, how many bytes, an error. -/
def numR : List UInt8 → Nat → Int → Int × Nat × Int
  | [], _, _ => (0, 0, 6)
  | x :: r, i, n =>
    if i = 0 ∧ x.toNat = 128 then (0, 0, 6)
    else if 2147483647 < n * 128 + (x.toNat : Int) % 128 then (0, 0, 2)
    else if x.toNat < 128 then (n * 128 + (x.toNat : Int) % 128, i + 1, 0)
    else numR r (i + 1) (n * 128 + (x.toNat : Int) % 128)
/-- What numR hands back. -/
theorem numR_ok : ∀ (l : List UInt8) (i : Nat) (n : Int), 0 ≤ n → n ≤ 2147483647 → (numR l i n).2.2 = 0 → i < (numR l i n).2.1 ∧ (numR l i n).2.1 ≤ i + l.length ∧ 0 ≤ (numR l i n).1 ∧ (numR l i n).1 ≤ 2147483647
  | [], i, n, _, _, h => by simp [numR] at h
  | x :: r, i, n, h0, h1, h => by
    unfold numR at h ⊢
    split at h
    · simp at h
    · rename_i c1
      rw [if_neg c1]
      split at h
      · simp at h
      · rename_i c2
        rw [if_neg c2]
        split at h
        · rename_i c3
          rw [if_pos c3]
          simp only [List.length_cons]
          omega
        · rename_i c3
          rw [if_neg c3]
          have := numR_ok r (i + 1) _ (by omega) (by omega) h
          simp only [List.length_cons]
          omega
theorem numR_err (l : List UInt8) : ∀ (i : Nat) (n : Int), (numR l i n).2.2 = 0 ∨ (numR l i n = (0, 0, 6)) ∨ (numR l i n = (0, 0, 2)) := by
  induction l with
  | nil => intro i n; simp [numR]
  | cons x r ih =>
    intro i n
    unfold numR
    split
    · simp
    · split
      · simp
      · split
        · simp
        · exact ih _ _
theorem u8n (k : Nat) (h : k < 256) : (UInt8.ofNat k).toNat = k := by rw [UInt8.toNat_ofNat']; omega
/-- Digits that others follow are read on. -/
theorem numR_more : ∀ (n : Nat) (r : List UInt8), 1 ≤ n → n ≤ 2147483647 → numR (spl n 128 ++ r) 0 0 = numR r (spl n 128).length n := by
  intro n
  induction n using Nat.strongRecOn with
  | ind n ih =>
    intro r h1 h2
    by_cases h : 128 ≤ n
    · rw [spl_big h, List.append_assoc, ih (n / 128) (by omega) _ (by omega) (by omega)]
      have hp := spl_pos (n / 128) 128
      rw [List.cons_append, List.nil_append, numR, u8n _ (by omega), if_neg (by omega), if_neg (by omega), if_neg (by omega)]
      congr 1
      · simp
      · omega
    · rw [spl_small (by omega), List.cons_append, List.nil_append, numR, u8n _ (by omega), if_neg (by omega), if_neg (by omega), if_neg (by omega)]
      congr 1
      omega
theorem numR_arc (n : Int) (r : List UInt8) (h0 : 0 ≤ n) (h1 : n ≤ 2147483647) : numR (arcO n ++ r) 0 0 = (n, (arcO n).length, 0) := by
  unfold arcO
  obtain ⟨k, rfl⟩ := Int.eq_ofNat_of_zero_le h0
  rw [Int.toNat_natCast]
  by_cases h : 128 ≤ k
  · rw [spl_big h, List.append_assoc, numR_more (k / 128) _ (by omega) (by omega)]
    have hp := spl_pos (k / 128) 128
    rw [List.cons_append, List.nil_append, numR, u8n _ (by omega), if_neg (by omega), if_neg (by omega), if_pos (by omega)]
    simp only [List.length_append, List.length_cons, List.length_nil, Prod.mk.injEq, and_true]
    omega
  · rw [spl_small (by omega), List.cons_append, List.nil_append, numR, u8n _ (by omega), if_neg (by omega), if_neg (by omega), if_pos (by omega)]
    simp only [List.length_cons, List.length_nil, Prod.mk.injEq, and_true]
    omega
theorem numR_tail : ∀ (r : List UInt8) (k : Nat), 1 ≤ k → k ≤ 2147483647 → (numR r (spl k 128).length k).2.2 = 0 →
    (spl k 128 ++ r).take (numR r (spl k 128).length k).2.1 = arcO (numR r (spl k 128).length k).1 := by
  intro r
  induction r with
  | nil => intro k _ _ h; simp [numR] at h
  | cons x r ih =>
    intro k h1 h2 h
    have hp := spl_pos k 128
    have hx := UInt8.toNat_lt x
    have hxe : UInt8.ofNat x.toNat = x := by simp
    unfold numR at h ⊢
    rw [if_neg (by omega)] at h ⊢
    split at h
    · simp at h
    · rename_i c2
      rw [if_neg c2]
      split at h
      · rename_i c3
        rw [if_pos c3]
        simp only
        unfold arcO
        have e : ((k : Int) * 128 + (x.toNat : Int) % 128).toNat = k * 128 + x.toNat := by omega
        have es : spl (k * 128 + x.toNat) 0 = spl k 128 ++ [x] := by
          rw [spl_big (by omega), show (k * 128 + x.toNat) / 128 = k by omega, show (k * 128 + x.toNat) % 128 + 0 = x.toNat by omega, hxe]
        rw [e, es, List.take_append, List.take_of_length_le (by omega), show (spl k 128).length + 1 - (spl k 128).length = 1 by omega]
        rfl
      · rename_i c3
        rw [if_neg c3]
        have e : (k : Int) * 128 + (x.toNat : Int) % 128 = ((k * 128 + x.toNat % 128 : Nat) : Int) := by omega
        have es : spl (k * 128 + x.toNat % 128) 128 = spl k 128 ++ [x] := by
          rw [spl_big (by omega), show (k * 128 + x.toNat % 128) / 128 = k by omega, show (k * 128 + x.toNat % 128) % 128 + 128 = x.toNat by omega, hxe]
        have := ih (k * 128 + x.toNat % 128) (by omega) (by omega)
        rw [es] at this
        simp only [List.length_append, List.length_cons, List.length_nil, List.append_assoc, List.cons_append, List.nil_append] at this
        rw [e] at h ⊢
        exact this h
theorem numR_take (b : List UInt8) (h : (numR b 0 0).2.2 = 0) : b.take (numR b 0 0).2.1 = arcO (numR b 0 0).1 := by
  cases b with
  | nil => simp [numR] at h
  | cons x r =>
    have hx := UInt8.toNat_lt x
    have hxe : UInt8.ofNat x.toNat = x := by simp
    unfold numR at h ⊢
    split at h
    · simp at h
    · rename_i c1
      rw [if_neg c1]
      split at h
      · simp at h
      · rename_i c2
        rw [if_neg c2]
        split at h
        · rename_i c3
          rw [if_pos c3]
          simp only
          unfold arcO
          rw [show ((0 : Int) * 128 + (x.toNat : Int) % 128).toNat = x.toNat by omega, spl_small c3, show x.toNat + 0 = x.toNat from rfl, hxe]
          rfl
        · rename_i c3
          rw [if_neg c3]
          have e : (0 : Int) * 128 + (x.toNat : Int) % 128 = ((x.toNat % 128 : Nat) : Int) := by omega
          have es : spl (x.toNat % 128) 128 = [x] := by
            rw [spl_small (by omega), show x.toNat % 128 + 128 = x.toNat by omega, hxe]
          have := numR_tail r (x.toNat % 128) (by omega) (by omega)
          rw [es] at this
          rw [e] at h ⊢
          exact this h

/-- The first two numbers. -/
def splitO (n : Int) : List Int := [min (n / 40) 2, n - min (n / 40) 2 * 40]
/-- The numbers of what follows; o: those so far. -/
def prsR : Nat → List UInt8 → List Int → List Int × Int
  | 0, _, o => (o, 0)
  | f + 1, b, o =>
    if b = [] then (o, 0)
    else if (numR b 0 0).2.2 ≠ 0 then ([], (numR b 0 0).2.2)
    else if o.length = 32 then ([], 2)
    else prsR f (b.drop (numR b 0 0).2.1) (o ++ [(numR b 0 0).1])
/-- The oid of contents. -/
def prsO (b : List UInt8) : List Int × Int :=
  if (numR b 0 0).2.2 ≠ 0 then ([], (numR b 0 0).2.2) else prsR b.length (b.drop (numR b 0 0).2.1) (splitO (numR b 0 0).1)
/-- More steps than bytes change nothing. -/
theorem prsR_fuel : ∀ (f g : Nat) (b : List UInt8) (o : List Int), b.length ≤ f → b.length ≤ g → prsR f b o = prsR g b o
  | 0, 0, b, o, _, _ => rfl
  | 0, g + 1, b, o, h, _ => by
    have : b = [] := List.eq_nil_of_length_eq_zero (by omega)
    subst this; simp [prsR]
  | f + 1, 0, b, o, _, h => by
    have : b = [] := List.eq_nil_of_length_eq_zero (by omega)
    subst this; simp [prsR]
  | f + 1, g + 1, b, o, h1, h2 => by
    unfold prsR
    by_cases hb : b = []
    · rw [if_pos hb, if_pos hb]
    · rw [if_neg hb, if_neg hb]
      by_cases he : (numR b 0 0).2.2 ≠ 0
      · rw [if_pos he, if_pos he]
      · rw [if_neg he, if_neg he]
        have hn := numR_ok b 0 0 (by omega) (by omega) (by simpa using he)
        by_cases ho : o.length = 32
        · rw [if_pos ho, if_pos ho]
        · rw [if_neg ho, if_neg ho]
          exact prsR_fuel f g _ _ (by simp; omega) (by simp; omega)
theorem arcO_pos (n : Int) : 0 < (arcO n).length := spl_pos _ _
theorem prsR_cont : ∀ (l : List Int) (f : Nat) (o : List Int), (∀ n ∈ l, 0 ≤ n ∧ n ≤ 2147483647) → o.length + l.length ≤ 32 → (l.flatMap arcO).length ≤ f → prsR f (l.flatMap arcO) o = (o ++ l, 0)
  | [], f, o, _, _, _ => by cases f <;> simp [prsR]
  | n :: l, f, o, hn, hl, hf => by
    have hp := arcO_pos n
    rw [List.flatMap_cons] at hf ⊢
    simp only [List.length_append] at hf
    obtain ⟨g, rfl⟩ : ∃ g, f = g + 1 := ⟨f - 1, by omega⟩
    have hne : arcO n ++ l.flatMap arcO ≠ [] := by intro e; have := congrArg List.length e; simp at this; simp [this.1] at hp
    have h0 := hn n (by simp)
    simp only [List.length_cons] at hl
    rw [prsR, if_neg hne, numR_arc n _ h0.1 h0.2, if_neg (by simp), if_neg (by omega)]
    simp only [List.drop_left]
    rw [prsR_cont l g (o ++ [n]) (fun m hm => hn m (by simp [hm])) (by simp; omega) (by omega)]
    simp
theorem splitO_of {a b : Int} (h0 : 0 ≤ a) (h1 : a ≤ 2) (h2 : 0 ≤ b) (h3 : b ≤ most2 a) : splitO (40 * a + b) = [a, b] := by
  unfold most2 at h3
  unfold splitO
  have e : min ((40 * a + b) / 40) 2 = a := by split at h3 <;> omega
  rw [e]
  congr 2
  omega
theorem list_two {l : List Int} (h : 2 ≤ l.length) : l = zth l 0 :: zth l 1 :: l.drop 2 := by
  match l, h with
  | a :: b :: r, _ => rfl
/-- There and back. -/
theorem prs_cont {l : List Int} (h : RightO l) : prsO (contO l) = (l, 0) := by
  have hf := h.first
  have h0 := h.at_ 0
  have h1 := h.at_ 1
  unfold prsO contO
  rw [numR_arc _ _ hf.1 hf.2, if_neg (by simp)]
  simp only [List.drop_left]
  rw [splitO_of h0.1 h.top h1.1 h.second, prsR_cont]
  · rw [List.cons_append, List.cons_append, List.nil_append, ← list_two h.two]
  · intro n hn; exact h.arcs n (List.mem_of_mem_drop hn)
  · have := h.max; have := h.two; simp; omega
  · simp
/-- What is read is an oid, and written as it was. -/
theorem prsR_back : ∀ (f : Nat) (b : List UInt8) (o l : List Int), b.length ≤ f → o.length ≤ 32 → (∀ n ∈ o, 0 ≤ n ∧ n ≤ 2147483647) → prsR f b o = (l, 0) →
    ∃ r, l = o ++ r ∧ r.flatMap arcO = b ∧ l.length ≤ 32 ∧ ∀ n ∈ l, 0 ≤ n ∧ n ≤ 2147483647
  | 0, b, o, l, hb, ho, hn, h => by
    have : b = [] := List.eq_nil_of_length_eq_zero (by omega)
    subst this
    simp [prsR] at h
    subst h
    exact ⟨[], by simp, rfl, ho, hn⟩
  | f + 1, b, o, l, hb, ho, hn, h => by
    unfold prsR at h
    split at h
    · rename_i hb0
      simp at h
      subst h hb0
      exact ⟨[], by simp, rfl, ho, hn⟩
    · rename_i hb0
      split at h
      · rename_i he
        simp at h
        exact absurd h.2 he
      · rename_i he
        have he' : (numR b 0 0).2.2 = 0 := by simpa using he
        split at h
        · simp at h
        · rename_i h32
          have hk := numR_ok b 0 0 (by omega) (by omega) he'
          have ht := numR_take b he'
          obtain ⟨r, hl, hr, h3, h4⟩ := prsR_back f _ _ l (by simp; omega) (by simp; omega) (by
            intro n hn'
            rw [List.mem_append] at hn'
            rcases hn' with hn' | hn'
            · exact hn n hn'
            · simp at hn'; subst hn'; exact ⟨hk.2.2.1, hk.2.2.2⟩) h
          refine ⟨(numR b 0 0).1 :: r, by rw [hl]; simp, ?_, h3, h4⟩
          rw [List.flatMap_cons, hr, ← ht, List.take_append_drop]
theorem prs_back {b : List UInt8} {l : List Int} (h : prsO b = (l, 0)) : RightO l ∧ contO l = b := by
  unfold prsO at h
  split at h
  · rename_i he
    simp at h
    exact absurd h.2 he
  · rename_i he
    have he' : (numR b 0 0).2.2 = 0 := by simpa using he
    have hk := numR_ok b 0 0 (by omega) (by omega) he'
    have ht := numR_take b he'
    generalize hn : (numR b 0 0).1 = n at *
    have hsp : ∀ m ∈ splitO n, 0 ≤ m ∧ m ≤ 2147483647 := by
      intro m hm
      simp [splitO] at hm
      rcases hm with rfl | rfl <;> omega
    obtain ⟨r, hl, hr, h3, h4⟩ := prsR_back b.length _ _ l (by simp) (by simp [splitO]) hsp h
    have e0 : zth l 0 = min (n / 40) 2 := by rw [hl]; rfl
    have e1 : zth l 1 = n - min (n / 40) 2 * 40 := by rw [hl]; rfl
    have e2 : l.drop 2 = r := by rw [hl]; rfl
    refine ⟨⟨by rw [hl]; simp [splitO], h3, h4, by rw [e0]; omega, by rw [e0, e1]; unfold most2; split <;> omega⟩, ?_⟩
    unfold contO
    rw [e2, hr, e0, e1, show 40 * min (n / 40) 2 + (n - min (n / 40) 2 * 40) = n by omega, ← ht, List.take_append_drop]
end Go.Proofs.YtfighoplbmmijaaDoor
