/-
  The law BitsFlags, over any arguments.
-/
import Derived.Test.YtjcddbcokiaehaaLf
namespace Go.Proofs.Ytjcddbcokiaehaa
open Go.RowKit
set_option linter.unusedVariables false
set_option linter.unusedSimpArgs false
set_option maxRecDepth 4000

theorem flgS_len (u : Int) (l : List UInt8) : (flgS u l).1.length ≤ 8 * l.length + 8 := by
  unfold flgS
  split
  · simp
  · split
    · simp
    · have h := flagsS_len l (lenS u l)
      simp only [Bool.not_eq_false] at *
      have h2 : lenS u l ≤ 8 * l.length := by unfold lenS; omega
      show (flagsS l (lenS u l)).length ≤ _
      omega
theorem ofR_len (l : List Int) : (ofR l).2.length ≤ 5 := by
  cases hf : isFl 0 l
  · rw [ofR_no hf]; simp
  · rw [ofR_yes hf]
    by_cases h0 : l.length = 0
    · unfold ofS; rw [if_pos h0]; simp
    · have hb := isFl_mem hf _ (zth_last_mem (l := l) h0)
      unfold ofS
      rw [if_neg h0]
      show (ofB l _).length ≤ 5
      rw [ofB_len]
      omega
theorem flgV_zs {w w' : World} {r : List Int × Int} {e : Ending} (h : FlgV w r e w') : ∃ A1 c1, e = .returned (.tuple #[.slice A1 r.1.length c1, .int .i64 r.2]) ∧ Zs w' A1 r.1.length r.1 ∧ r.1.length ≤ c1 ∧ Below w.heap.size w w' := by
  obtain ⟨v, rfl, ho, hB⟩ := h
  obtain ⟨A1, c1, rfl, hle, hv⟩ := ho.slice
  rw [List.length_map] at hle hv ⊢
  exact ⟨A1, c1, rfl, hv, hle, hB⟩

theorem lawFlags (u : Int) (A B : Option Addr) (n c k d : Nat) (l : List UInt8) (fl : List Int) (w : World) (hz : Zs w B k fl) (hb : Bs w A n l) (hd : k ≤ d) (hc : n ≤ c) :
    Calls Try.prog 5 #[.slice B k d, .agg #[.int .i64 u, .slice A n c]] w fun e w' => e = .returned (.bool true) ∧ Below w.heap.size w w' := by
  have hb1 := hb.take (Nat.min_le_left n 300)
  have hz1 := hz.take (Nat.min_le_left k 60)
  have hn1 : min n 300 ≤ 300 := Nat.min_le_right _ _
  have hk1 : min k 60 ≤ 60 := Nat.min_le_right _ _
  generalize l.take (min n 300) = l1 at *
  generalize fl.take (min k 60) = f1 at *
  have hl1 := hb1.len
  have hfl := flgS_len u l1
  have hor := ofR_len f1
  refine lawFlagsCore u A n (min n 300) c l1 B k (min k 60) d f1 (ofR f1).1 (ofR f1).2.length (ofR f1).2 (if isFl 0 f1 = true then 0 else 1) (isFl 0 f1) (flgS u l1).1.length (flgS u l1).1 (flgS u l1).2 w
    (show _ = _ by split <;> omega) hd hk1 (show _ ≤ _ by omega) hb1 hz1 (fun W => lw5To u A n c W hc)
    (fun W h => (btOfAll B _ d f1 W h (by omega)).mono fun e w' h => h)
    (fun W h => (rf5Of B _ d f1 W h (by omega)).mono fun e w' h => h)
    (fun W h => (btFlagsAll u A _ c l1 W h (by omega)).mono fun e w' h => flgV_zs h)
    (fun W h => (rf5Flags u A _ c l1 W h (by omega) (by omega)).mono fun e w' h => flgV_zs h) ?_ ?_ ?_ ?_
  · intro hg W A' c' h
    refine (btOfAll A' _ c' _ W h (by omega)).mono fun e w' h => ?_
    obtain ⟨A1, c1, he, hs, hle, hB⟩ := h
    have hr : rightS u l1 = true := by
      cases hr : rightS u l1
      · unfold flgS at hg; rw [if_pos hr] at hg; cases hg
      · rfl
    have hn : notFl l1 (lenS u l1) = false := by
      cases hn : notFl l1 (lenS u l1)
      · rfl
      · unfold flgS at hg; rw [if_neg (by rw [hr]; simp), if_pos hn] at hg; cases hg
    have e1 : (flgS u l1).1 = flagsS l1 (lenS u l1) := by unfold flgS; rw [if_neg (by rw [hr]; simp), if_neg (by rw [hn]; simp)]
    obtain ⟨h1, h2⟩ := flg_back hr hn
    have e2 : ofR (flgS u l1).1 = (u, l1) := by rw [e1, ofR_yes h1, h2]
    rw [e2] at he hs hle
    rw [e1, if_pos h1] at he
    rw [hl1] at he hs hle
    exact ⟨A1, c1, he, hs, hle, hB⟩
  · intro hf W A' c' h
    refine (btFlagsAll _ A' _ c' _ W h (by omega)).mono fun e w' h => ?_
    have e1 : flgS (ofR f1).1 (ofR f1).2 = (f1, 0) := by rw [ofR_yes hf]; exact (of_right hf).2
    rw [e1] at h
    have := flgV_zs h
    rw [show (f1, (0 : Int)).1.length = min k 60 from hz1.len] at this
    exact this
  · intro W A' c' h
    refine (btFlagsAll _ A' _ c' _ W h (by omega)).mono fun e w' h => ?_
    obtain ⟨A1, c1, he, _, _, hB⟩ := flgV_zs h
    exact ⟨A1, _, c1, _, he, hB⟩
  · show _ ∨ _
    cases isFl 0 f1
    · exact .inr ⟨rfl, by simp⟩
    · exact .inl ⟨rfl, by simp⟩
end Go.Proofs.Ytjcddbcokiaehaa
