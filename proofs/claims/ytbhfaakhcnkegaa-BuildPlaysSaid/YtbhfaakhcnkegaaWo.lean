/-
  The reference's Join, At, Right, wrap, Wrap, Implicit; the law's few.
-/
import Derived.Test.YtbhfaakhcnkegaaWm
namespace Go.Proofs.Ytbhfaakhcnkegaa
open Go.RowKit
set_option linter.unusedVariables false
set_option linter.unusedSimpArgs false
set_option maxRecDepth 4000

set_option maxHeartbeats 1600000 in
theorem refJoin (A : Option Addr) (n c : Nat) (ls : List (List UInt8)) (w : World) (h : Bss w A n ls) (hn : n ≤ 1099511627776) (ht : ls.flatten.length ≤ 1099511627776) :
    Calls Try.prog 23 #[.slice A n c] w (NewBs w ls.flatten) := by
  obtain ⟨i0, hi, hz0, hz1, hz2⟩ := info_parts u8_info
  have hle := fun k => catL_le ls k
  have HLE := Lib.hid hle; clear hle
  go_enter Try.func23, Try.ntmps23
  go_wp2
  go_loopw [3, 4] (fun v i wr => ∃ k : Nat, k ≤ n ∧ i = .int .i64 (k : Int) ∧ Ob wr w.heap.size 5 v (catL ls k) ∧ Below w.heap.size w wr) (fun _ i _ => n - (intOf i).toNat)
  case atStart => exact ⟨0, Nat.zero_le _, rfl, Ob.nil _ _ _, Below.refl _ _⟩
  case round =>
    obtain ⟨k, hk, rfl, hob, hbel⟩ := hrel
    by_cases hlt : k < n
    · obtain ⟨b, o, Ai, ni, ci, rfl, hc, hbs, hni⟩ := (h.below hbel).at_ hlt
      have g1 : (k : Int) < n := by omega
      have hsz : Hid ((catL ls k).length + ni ≤ 1099511627776) := by
        have h1 := hbs.len
        have h2 := HLE.out (k + 1)
        rw [catL_succ (by have := h.len; omega), List.length_append, h1] at h2
        unfold Hid; omega
      have hcat : Hid (catL ls (k + 1) = catL ls k ++ rowL ls k) := catL_succ (by have := h.len; omega)
      go_wp2_with (at_builtin; refine wpList_appendB rfl _ _ 41 rfl w.heap.size 5 i0 (.int .u8 0) Try.underlying41 hi hz0 hz1 hz2 rfl _ (catL ls k) rfl hob _ _ _ (rowL ls k) rfl hbs ?ab1 ?ab2 ?_)
      case ab1 => have := hsz.out; omega
      case ab2 => exact hbel.size
      intro v' w1 hob1 hg1 _ _
      have hbel1 := hob.grew hbel (Nat.le_refl _) hg1
      rw [← hcat.out] at hob1
      go_wp2
      go_roundw
      case rel => exact ⟨k + 1, by omega, by go_num, hob1, hbel1⟩
      case measure => simp [intOf]; omega
    · have hkn : Hid (catL ls k = ls.flatten) := catL_all (by have := h.len; omega)
      rw [hkn.out] at hob
      obtain ⟨A', c', rfl, hc', hbs'⟩ := hob.slice
      go_wp2
      go_ret
      exact ⟨A', _, c', rfl, hob, hbel⟩

set_option maxHeartbeats 800000 in
theorem refRight (t : Tg) (w : World) :
    Calls Try.prog 43 #[t.v] w fun e w' => e = .returned (.bool t.rightB) ∧ Below w.heap.size w w' := by
  obtain ⟨tc, tn, tm⟩ := t
  unfold Tg.v
  have fin : Hid (∀ q, q = Tg.rightB ⟨tc, tn, tm⟩ → Ending.returned (.bool q) = .returned (.bool (Tg.rightB ⟨tc, tn, tm⟩))) := by rintro q rfl; rfl
  go_enter Try.func43, Try.ntmps43
  go_wp2
  all_goals
    go_ret
    refine ⟨?_, below_alloc1 _ _⟩
    refine fin.out _ ?_
    simp [Tg.rightB]
    try omega

set_option maxHeartbeats 800000 in
theorem refAt (n : Int) (m : Bool) (w : World) :
    Calls Try.prog 29 #[.int .i64 n, .bool m] w fun e w' => e = .returned (Tg.v ⟨2, n, m⟩) ∧ Below w.heap.size w w' := by
  unfold Tg.v
  go_enter Try.func29, Try.ntmps29
  go_wp2
  refine bodyPost_ret (v := .agg #[.int .i64 2, .int .i64 n, .bool m]) (by simp [results, Try.results29, go_sem]) rfl ?_
  exact ⟨rfl, below_alloc1 _ _⟩


/-- The first ten rows' first hundred bytes. -/
def fewL (ls : List (List UInt8)) (k : Nat) : List (List UInt8) := (ls.take k).map fun l => l.take 100
theorem fewL_succ {ls : List (List UInt8)} {k : Nat} (h : k < ls.length) : fewL ls (k + 1) = fewL ls k ++ [(rowL ls k).take 100] := by
  unfold fewL rowL
  rw [List.take_add_one, List.map_append, List.getD_eq_getElem?_getD, List.getElem?_eq_getElem h]; rfl
theorem fewL_len {ls : List (List UInt8)} {k : Nat} (h : k ≤ ls.length) : (fewL ls k).length = k := by unfold fewL; simp; omega

/-- What few hands back. -/
def FewOk (w : World) (n : Nat) (ls : List (List UInt8)) (e : Ending) (w' : World) : Prop := ∃ v vs, e = .returned v ∧ w'.ownsRow w.heap.size 41 1 v (min n 10) vs ∧ Vss w vs (fewL ls (min n 10)) ∧ Below w.heap.size w w'

set_option maxHeartbeats 3200000 in
theorem lw8Few (A : Option Addr) (n c : Nat) (ls : List (List UInt8)) (w : World) (h : Bss w A n ls) :
    Calls Try.prog 10 #[.slice A n c] w (FewOk w n ls) := by
  obtain ⟨i1, hi1, hz0, hz1, hz2⟩ := info_parts sl_info
  have hll := h.len
  have H := Lib.hid h
  have HLL := Lib.hid hll
  clear h hll
  go_enter Try.func10, Try.ntmps10
  go_wp2
  go_loopw [3, 4] (fun v i wr => ∃ (k : Nat) (vs : List Value), k ≤ min n 10 ∧ i = .int .i64 (k : Int) ∧ wr.ownsRow w.heap.size 41 1 v k vs ∧ Vss w vs (fewL ls k) ∧ Below w.heap.size w wr) (fun _ i _ => 10 - (intOf i).toNat)
  case atStart => exact ⟨0, [], Nat.zero_le _, rfl, World.ownsRow_nil _ _ _ _, Vss.nil _, Below.refl _ _⟩
  case round =>
    obtain ⟨k, vs, hk, rfl, hrow, hvs, hB⟩ := hrel
    by_cases hlt : k < n
    · by_cases h10 : k < 10
      · obtain ⟨b, o, Ai, ni, ci, rfl, hc, hbs, hni⟩ := H.out.at_ hlt
        have hcw := (hB.cell (World.block_lt_of_cell? w _ hc)).trans hc
        obtain ⟨M, hM⟩ : ∃ M, M = min ni 100 := ⟨_, rfl⟩
        have hm1 : (if (100 : Int) < (ni : Int) then (100 : Int) else (ni : Int)) = (M : Int) := by split <;> omega
        have hm2 : min (ni : Int) 100 = (M : Int) := by omega
        have hMc : (M : Int) ≤ (ci : Int) := by omega
        have hMc2 : M ≤ ci := by omega
        have hbt : Hid (Bs w Ai M ((rowL ls k).take 100)) := by
          have h1 := hbs.take (m := M) (by omega)
          have h2 : (rowL ls k).take M = (rowL ls k).take 100 := by
            have h3 := hbs.len
            rw [hM]
            rcases Nat.lt_or_ge ni 100 with h4 | h4
            · rw [show min ni 100 = ni by omega, List.take_of_length_le (by omega), List.take_of_length_le (by omega)]
            · rw [show min ni 100 = 100 by omega]
          unfold Hid; rw [← h2]; exact h1
        have HC := Lib.hid hcw
        have HROW := Lib.hid hrow
        have HB := Lib.hid hB
        have hBs := hB.size
        have hvs2 := Lib.hid (hvs.append (Vss.cons hbt.out hMc2 (Vss.nil w)))
        have hfs := Lib.hid (fewL_succ (ls := ls) (k := k) (by have := HLL.out; omega))
        clear hbs hni hM hc hrow hB hvs hbt
        have e1 : (k : Int) < (n : Int) := by omega
        have e2 : (k : Int) < 10 := by omega
        go_wp2_with fail
        go_region_law ((refine step_appendF (by rfl) _ _ 27 (by rfl) w.heap.size 41 i1 (.slice none 0 0) 1 24 Try.underlying27 hi1 hz0 hz1 hz2 (by rfl) (by omega) _ k vs (by rfl) (World.ownsRow.alloc HROW.out _) _ 1 _ [.slice Ai M ci] (by rfl) (by rfl) (news_new _ _ _) (by intro u hu; simp at hu; subst hu; rfl) (by unfold maxLen; omega) (by omega) (by simp; omega) ?_); intro v9 w2 hrow2 hg2 _)
        all_goals
          have hB2 : Below w.heap.size w w2 := (HB.out.alloc hBs (.cells #[.slice Ai M ci] 41)).grown ⟨hg2.os, hg2.tape, hg2.output, hg2.size, hg2.block⟩ (by simp; omega) (fun q hq => (HROW.out.lt q hq).1)
          have HR2 := Lib.hid hrow2
          clear hg2 hrow2 hcw
          go_wp2
          go_roundw
          case rel => exact ⟨k + 1, _, by omega, by go_num, HR2.out, by rw [hfs.out]; exact hvs2.out, hB2⟩
          case measure => (try simp [intOf]) <;> (try omega)
      · have hk10 : k = 10 := by omega
        have e1 : (k : Int) < (n : Int) := by omega
        have hmn : Hid (min n 10 = k) := by unfold Hid; omega
        subst hk10
        have HR2 := Lib.hid hrow
        have HV2 := Lib.hid hvs
        have HB2 := Lib.hid hB
        clear hrow hvs hB hk
        go_wp2
        go_ret
        unfold FewOk
        rw [hmn.out]
        exact ⟨_, vs, rfl, HR2.out, HV2.out, HB2.out⟩
    · have hkn : k = n := by omega
      have hmn : Hid (min n 10 = k) := by unfold Hid; omega
      have e1 : ¬ (k : Int) < (n : Int) := by omega
      have HR2 := Lib.hid hrow
      have HV2 := Lib.hid hvs
      have HB2 := Lib.hid hB
      clear hrow hvs hB hk
      go_wp2
      go_ret
      unfold FewOk
      rw [hmn.out]
      exact ⟨_, vs, rfl, HR2.out, HV2.out, HB2.out⟩

end Go.Proofs.Ytbhfaakhcnkegaa
