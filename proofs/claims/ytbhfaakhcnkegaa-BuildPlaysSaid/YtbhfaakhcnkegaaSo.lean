/-
  Rows of bytes in order: the plain facts.
-/
import Derived.Test.YtbhfaakhcnkegaaOct
namespace Go.Proofs.Ytbhfaakhcnkegaa
open Go.RowKit
set_option linter.unusedVariables false
set_option linter.unusedSimpArgs false
set_option maxRecDepth 4000

theorem cmp_three : ∀ a b : List UInt8, Lib.compareBytes a b = -1 ∨ Lib.compareBytes a b = 0 ∨ Lib.compareBytes a b = 1
  | [], [] => by simp [cmp_nil]
  | [], y :: b => by simp [cmp_nil_cons]
  | x :: a, [] => by simp [cmp_cons_nil]
  | x :: a, y :: b => by
    rw [cmp_cons]
    have := cmp_three a b
    split
    · exact .inl rfl
    · split
      · exact .inr (.inr rfl)
      · exact this
theorem cmp_swap : ∀ a b : List UInt8, Lib.compareBytes b a = -Lib.compareBytes a b
  | [], [] => by simp [cmp_nil]
  | [], y :: b => by simp [cmp_nil_cons, cmp_cons_nil]
  | x :: a, [] => by simp [cmp_cons_nil, cmp_nil_cons]
  | x :: a, y :: b => by
    rw [cmp_cons, cmp_cons, cmp_swap a b]
    by_cases h1 : x.toNat < y.toNat
    · rw [if_neg (by omega), if_pos h1, if_pos h1]; rfl
    · by_cases h2 : y.toNat < x.toNat
      · rw [if_pos h2, if_neg h1, if_pos h2]
      · rw [if_neg h2, if_neg h1, if_neg h1, if_neg h2]
theorem cmp_trans : ∀ a b c : List UInt8, Lib.compareBytes a b ≤ 0 → Lib.compareBytes b c ≤ 0 → Lib.compareBytes a c ≤ 0
  | [], b, [], _, _ => by simp [cmp_nil]
  | [], b, z :: c, _, _ => by simp [cmp_nil_cons]
  | x :: a, [], c, h, _ => by simp [cmp_cons_nil] at h
  | x :: a, y :: b, [], _, h => by simp [cmp_cons_nil] at h
  | x :: a, y :: b, z :: c, h1, h2 => by
    rw [cmp_cons] at h1 h2 ⊢
    have ih := cmp_trans a b c
    by_cases h3 : x.toNat < z.toNat
    · rw [if_pos h3]; omega
    · rw [if_neg h3]
      by_cases h4 : x.toNat < y.toNat
      · by_cases h5 : y.toNat < z.toNat
        · omega
        · rw [if_neg h5] at h2
          by_cases h6 : z.toNat < y.toNat
          · rw [if_pos h6] at h2; omega
          · omega
      · rw [if_neg h4] at h1
        by_cases h5 : y.toNat < x.toNat
        · rw [if_pos h5] at h1; omega
        · rw [if_neg h5] at h1
          by_cases h6 : y.toNat < z.toNat
          · omega
          · rw [if_neg h6] at h2
            by_cases h7 : z.toNat < y.toNat
            · rw [if_pos h7] at h2; omega
            · rw [if_neg h7] at h2
              rw [if_neg (by omega)]
              exact ih h1 h2

/-- Not behind. -/
def leB (a b : List UInt8) : Prop := Lib.compareBytes a b ≤ 0
theorem leB_anti {a b : List UInt8} (h : leB a b) (k : leB b a) : a = b := by
  unfold leB at h k
  rw [cmp_swap] at k
  exact (cmp_zero_iff a b).1 (by omega)
theorem leB_trans {a b c : List UInt8} (h : leB a b) (k : leB b c) : leB a c := cmp_trans a b c h k
theorem leB_total {a b : List UInt8} (h : ¬leB a b) : leB b a := by
  unfold leB at h ⊢
  rw [cmp_swap]; omega
theorem leB_refl (a : List UInt8) : leB a a := by unfold leB; rw [(cmp_zero_iff a a).2 rfl]; omega

/-- Where x goes among the first n of a row: behind the last that isn't behind it. -/
def dnO (out : List (List UInt8)) (x : List UInt8) : Nat → Nat
  | 0 => 0
  | n + 1 => if 0 < Lib.compareBytes (rowO out n) x then dnO out x n else n + 1
where rowO (out : List (List UInt8)) (n : Nat) : List UInt8 := out.getD n []
theorem dnO_le (out : List (List UInt8)) (x : List UInt8) : ∀ n, dnO out x n ≤ n
  | 0 => Nat.le_refl _
  | n + 1 => by unfold dnO; split; exact Nat.le_succ_of_le (dnO_le out x n); exact Nat.le_refl _
/-- A row with one more, in its place. -/
def insO (out : List (List UInt8)) (x : List UInt8) : List (List UInt8) := out.take (dnO out x out.length) ++ x :: out.drop (dnO out x out.length)
/-- The rows in order. -/
def ordO (l : List (List UInt8)) : List (List UInt8) := l.foldl insO []

theorem dnO_above (out : List (List UInt8)) (x : List UInt8) : ∀ (n i : Nat), dnO out x n ≤ i → i < n → leB x (out.getD i [])
  | 0, i, _, h => by omega
  | n + 1, i, h1, h2 => by
    unfold dnO at h1
    split at h1
    · rename_i hc
      rcases Nat.lt_or_ge i n with h | h
      · exact dnO_above out x n i h1 h
      · have e : i = n := by omega
        subst e
        unfold leB
        rw [cmp_swap]
        unfold dnO.rowO at hc
        omega
    · omega
theorem dnO_at (out : List (List UInt8)) (x : List UInt8) : ∀ n, dnO out x n = 0 ∨ leB (out.getD (dnO out x n - 1) []) x
  | 0 => .inl rfl
  | n + 1 => by
    unfold dnO
    split
    · exact dnO_at out x n
    · rename_i hc
      right
      unfold dnO.rowO at hc
      unfold leB
      simpa using hc

theorem insO_perm (out : List (List UInt8)) (x : List UInt8) : (insO out x).Perm (x :: out) := by
  unfold insO
  have h : (out.take (dnO out x out.length) ++ out.drop (dnO out x out.length)) = out := List.take_append_drop _ _
  refine List.perm_middle.trans ?_
  rw [h]
theorem insO_sorted {out : List (List UInt8)} (x : List UInt8) (h : out.Pairwise leB) : (insO out x).Pairwise leB := by
  unfold insO
  have hk := dnO_le out x out.length
  have habove := fun i => dnO_above out x out.length i
  have hat := dnO_at out x out.length
  generalize dnO out x out.length = k at *
  have hd : ∀ b ∈ out.drop k, leB x b := by
    intro b hb
    obtain ⟨i, hi, rfl⟩ := List.getElem_of_mem hb
    rw [List.getElem_drop]
    simp at hi
    have := habove (k + i) (by omega) (by omega)
    rwa [List.getD_eq_getElem?_getD, List.getElem?_eq_getElem (by omega)] at this
  have ht : ∀ a ∈ out.take k, leB a x := by
    intro a ha
    obtain ⟨i, hi, rfl⟩ := List.getElem_of_mem ha
    rw [List.getElem_take]
    simp at hi
    rcases hat with h0 | h0
    · omega
    · rw [List.getD_eq_getElem?_getD, List.getElem?_eq_getElem (by omega)] at h0
      rcases Nat.lt_or_ge i (k - 1) with h1 | h1
      · exact leB_trans ((List.pairwise_iff_getElem.1 h) i (k - 1) (by omega) (by omega) h1) h0
      · have e : i = k - 1 := by omega
        subst e; exact h0
  rw [List.pairwise_append]
  refine ⟨h.sublist (List.take_sublist _ _), ?_, ?_⟩
  · rw [List.pairwise_cons]
    exact ⟨hd, h.sublist (List.drop_sublist _ _)⟩
  · intro a ha b hb
    rw [List.mem_cons] at hb
    rcases hb with rfl | hb
    · exact ht a ha
    · exact leB_trans (ht a ha) (hd b hb)
theorem ordO_fold : ∀ (l out : List (List UInt8)), out.Pairwise leB → (l.foldl insO out).Pairwise leB ∧ (l.foldl insO out).Perm (out ++ l)
  | [], out, h => ⟨h, by simp⟩
  | x :: l, out, h => by
    have h1 := ordO_fold l (insO out x) (insO_sorted x h)
    refine ⟨h1.1, h1.2.trans ?_⟩
    have h2 := (insO_perm out x).append_right l
    refine h2.trans ?_
    rw [List.cons_append]
    exact List.perm_middle.symm
theorem ordO_sorted (l : List (List UInt8)) : (ordO l).Pairwise leB := (ordO_fold l [] List.Pairwise.nil).1
theorem ordO_perm (l : List (List UInt8)) : (ordO l).Perm l := by have h := (ordO_fold l [] List.Pairwise.nil).2; rw [List.nil_append] at h; exact h
/-- What is in order and has the same parts is that row. -/
theorem ordO_unique {l m : List (List UInt8)} (h : m.Pairwise leB) (hp : m.Perm l) : m = ordO l :=
  List.Perm.eq_of_pairwise (fun _ _ _ _ h k => leB_anti h k) h (ordO_sorted l) (hp.trans (ordO_perm l).symm)
theorem ordO_of_perm {l m : List (List UInt8)} (hp : m.Perm l) : ordO m = ordO l := ordO_unique (ordO_sorted m) ((ordO_perm m).trans hp)
theorem flatten_perm_length {l m : List (List UInt8)} (hp : m.Perm l) : m.flatten.length = l.flatten.length := hp.flatten.length_eq
theorem insO_len (out : List (List UInt8)) (x : List UInt8) : (insO out x).length = out.length + 1 := (insO_perm out x).length_eq

end Go.Proofs.Ytbhfaakhcnkegaa
