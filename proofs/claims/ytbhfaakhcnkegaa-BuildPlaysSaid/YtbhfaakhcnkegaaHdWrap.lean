/-
  The contracts of the project's head: encode, total, Size, Wrap.
-/
import Derived.Test.YtbhfaakhcnkegaaHdBytes
namespace Go.Proofs.Ytbhfaakhcnkegaa
open Go.RowKit
set_option linter.unusedVariables false
set_option linter.unusedSimpArgs false
set_option maxRecDepth 4000

theorem sl_info : (Try.prog.info? 41).map (fun i => (i.zero, i.size, i.bytes)) = some (some (.slice none 0 0), 1, 24) := by kernel_rfl

/-- Both parts of a front, and no error. -/
def EncOk (w : World) (t : Tg) (n : Int) (e : Ending) (w' : World) : Prop :=
  ∃ A1 n1 c1 A2 n2 c2, e = .returned (.tuple #[.slice A1 n1 c1, .slice A2 n2 c2, .int .i64 0]) ∧ Bs w' A1 n1 (tagB t) ∧ Bs w' A2 n2 (lenB n) ∧ n1 ≤ c1 ∧ n2 ≤ c2 ∧ Below w.heap.size w w'
/-- Why there is none. -/
def encE (t : Tg) (n : Int) : Int := if t.rightB = false then 1 else if n < 0 then 1 else if 16777216 < n then 2 else 0

set_option maxHeartbeats 1600000 in
theorem hdEncode (t : Tg) (n : Int) (w : World) (h : encE t n = 0) :
    Calls Try.prog 71 #[t.v, .int .i64 n] w (EncOk w t n) := by
  have ht : t.rightB = true := by
    cases hr : t.rightB
    · simp [encE, hr] at h
    · rfl
  have h0 : 0 ≤ n := by
    by_cases h0 : n < 0
    · simp [encE, ht, h0] at h
    · omega
  have h1 : n ≤ 16777216 := by
    by_cases h1 : 16777216 < n
    · have h2 : ¬ n < 0 := by omega
      simp [encE, ht, h1, h2] at h
    · omega
  have hB := Lib.hid (fun W => hdBytes t W ((Tg.rightB_iff t).1 ht))
  clear h ht
  obtain ⟨tc, tn, tm⟩ := t
  unfold Tg.v at *
  go_enter Try.func71, Try.ntmps71
  go_wp2_with fail
  refine (hB.out _).mono ?_
  rintro e w1 ⟨A1, n1, c1, rfl, hob1, hb1⟩
  have hB1 : Below w.heap.size w w1 := (below_alloc1 _ _).trans (Below.mono hb1 (by simp))
  clear hb1 hB
  go_wp2_with fail
  refine (hdLength n _ h0 h1).mono ?_
  rintro e w2 ⟨A2, n2, c2, rfl, hob2, hb2⟩
  have hB2 : Below w.heap.size w w2 := hB1.trans (Below.mono hb2 hB1.size)
  have hbs1 := hob1.bs.1.below hb2
  have hc1 := hob1.bs.2
  have hbs2 := hob2.bs
  clear hb2 hob1 hob2 hB1
  go_wp2
  go_ret3
  exact ⟨A1, n1, c1, A2, n2, c2, rfl, hbs1, hbs2.1, hc1, hbs2.2, hB2⟩

set_option maxHeartbeats 1600000 in
theorem hdEncodeNo (t : Tg) (n : Int) (w : World) (h : encE t n ≠ 0) :
    Calls Try.prog 71 #[t.v, .int .i64 n] w fun e w' => e = .returned (.tuple #[.slice none 0 0, .slice none 0 0, .int .i64 (encE t n)]) ∧ Below w.heap.size w w' := by
  by_cases ht : t.rightB = false
  · have hE : Hid (encE t n = 1) := by unfold Hid encE; rw [if_pos ht]
    have hB := Lib.hid (fun W => hdBytesNo t W ht)
    rw [hE.out]
    clear h ht
    obtain ⟨tc, tn, tm⟩ := t
    unfold Tg.v at *
    go_enter Try.func71, Try.ntmps71
    go_wp2_with fail
    refine (hB.out _).mono ?_
    rintro e w1 ⟨rfl, hb1⟩
    have hB1 : Below w.heap.size w w1 := (below_alloc1 _ _).trans (Below.mono hb1 (by simp))
    clear hb1 hB
    go_wp2
    go_ret3
    exact ⟨rfl, hB1⟩
  · have ht' : t.rightB = true := by simpa using ht
    have hn : n < 0 ∨ 16777216 < n := by
      by_cases a : n < 0
      · exact .inl a
      · by_cases b : 16777216 < n
        · exact .inr b
        · simp [encE, ht', a, b] at h
    have hE : Hid (encE t n = if n < 0 then 1 else 2) := by
      unfold Hid encE; rw [if_neg ht]
      by_cases a : n < 0
      · rw [if_pos a, if_pos a]
      · rw [if_neg a, if_neg a, if_pos (by omega)]
    have hB := Lib.hid (fun W => hdBytes t W ((Tg.rightB_iff t).1 ht'))
    have hL := Lib.hid (fun W => hdLengthNo n W hn)
    rw [hE.out]
    have e1 : ((if n < 0 then (1 : Int) else 2) != 0) = true := by split <;> rfl
    have e2 : ((if n < 0 then (1 : Int) else 2) == 0) = false := by split <;> rfl
    generalize (if n < 0 then (1 : Int) else 2) = E at *
    clear h ht ht' hn
    obtain ⟨tc, tn, tm⟩ := t
    unfold Tg.v at *
    go_enter Try.func71, Try.ntmps71
    go_wp2_with fail
    refine (hB.out _).mono ?_
    rintro e w1 ⟨A1, n1, c1, rfl, hob1, hb1⟩
    have hB1 : Below w.heap.size w w1 := (below_alloc1 _ _).trans (Below.mono hb1 (by simp))
    clear hb1 hB hob1
    go_wp2_with fail
    refine (hL.out _).mono ?_
    rintro e w2 ⟨rfl, rfl⟩
    go_wp2
    go_ret3
    exact ⟨rfl, hB1⟩

set_option maxHeartbeats 800000 in
theorem hdTotal (A : Option Addr) (n c : Nat) (ls : List (List UInt8)) (w : World) (h : Bss w A n ls) (hn : n ≤ 1099511627776) (hsh : Short 1099511627776 ls) :
    Calls Try.prog 72 #[.slice A n c] w fun e w' => e = .returned (.int .i64 ((min ls.flatten.length 16777217 : Nat) : Int)) ∧ w' = w := by
  obtain ⟨T, hT⟩ : ∃ T, T = ls.flatten.length := ⟨_, rfl⟩
  have HT := Lib.hid hT
  rw [← hT]
  clear hT
  go_enter Try.func72, Try.ntmps72
  go_wp2
  go_loop [3, 8] (fun s i => ∃ k m : Nat, k ≤ n ∧ i = .int .i64 (k : Int) ∧ s = .int .i64 (m : Int) ∧ m ≤ 16777217 ∧ Hid (m = min (catL ls k).length 16777217)) (fun _ i => n - (intOf i).toNat)
  case atStart => exact ⟨0, 0, Nat.zero_le _, rfl, rfl, by omega, by simp [Hid, catL]⟩
  case round =>
    obtain ⟨k, m, hk, rfl, rfl, hm1, hm⟩ := hrel
    by_cases hlt : k < n
    · obtain ⟨b, o, Ai, ni, ci, rfl, hc, hbs, hni⟩ := h.at_ hlt
      have hs : Hid ((catL ls (k + 1)).length = (catL ls k).length + ni) := by
        have h1 := hbs.len
        unfold Hid
        rw [catL_succ (by have := h.len; omega), List.length_append, h1]
      have hb2 : ni ≤ 1099511627776 := by have := hsh k; have h1 := hbs.len; omega
      by_cases hq : m + ni ≤ 16777217
      · have hq' : (m : Int) + ni ≤ 16777217 := by omega
        go_wp2
        go_round
        case rel => exact ⟨k + 1, m + ni, by omega, by go_num, by go_num, hq, by have h1 := hs.out; have h2 := hm.out; unfold Hid; omega⟩
        case measure => simp [intOf]; omega
      · have hq' : (16777217 : Int) < m + ni := by omega
        go_wp2
        go_round
        case rel => exact ⟨k + 1, 16777217, by omega, by go_num, rfl, by omega, by have h1 := hs.out; have h2 := hm.out; unfold Hid; omega⟩
        case measure => simp [intOf]; omega
    · have hkn : Hid (catL ls k = ls.flatten) := catL_all (by have := h.len; omega)
      rw [hkn.out, ← HT.out] at hm
      go_wp2
      go_ret
      exact ⟨by rw [hm.out]; rfl, rfl⟩

end Go.Proofs.Ytbhfaakhcnkegaa
