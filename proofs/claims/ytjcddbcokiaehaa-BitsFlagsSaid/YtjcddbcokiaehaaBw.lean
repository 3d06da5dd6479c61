/-
  The contracts of layer 5's reference: Flags; of layer 4's: Compare, Same.
-/
import Derived.Test.YtjcddbcokiaehaaBp
import Derived.Test.YtjcddbcokiaehaaCmp
namespace Go.Proofs.Ytjcddbcokiaehaa
open Go.RowKit
set_option linter.unusedVariables false
set_option linter.unusedSimpArgs false
set_option maxRecDepth 4000

set_option maxHeartbeats 1600000 in
theorem ref4Compare (A B : Option Addr) (n m c d : Nat) (a b : List Int) (w : World) (ha : Zs w A n a) (hb : Zs w B m b) (hn : n ≤ 1099511627776) (hm : m ≤ 1099511627776) :
    Calls Try.prog 50 #[.slice A n c, .slice B m d] w fun e w' => e = .returned (.int .i64 (cmpZ a b)) ∧ Qt w w' := by
  have la := Lib.hid ha.len
  have lb := Lib.hid hb.len
  go_enter Try.func50, Try.ntmps50
  go_wp2
  go_loopw [5] (fun i wr => ∃ k : Nat, k ≤ n ∧ k ≤ m ∧ i = .int .i64 (k : Int) ∧ Hid (cmpZ a b = cmpZ (a.drop k) (b.drop k)) ∧ Qt w wr) (fun i _ => n - (intOf i).toNat)
  case atStart => exact ⟨0, by omega, by omega, rfl, by simp [Hid], Qt.refl _⟩
  case round =>
    obtain ⟨k, hk, hkm, rfl, hv, hq⟩ := hrel
    by_cases hlt : k < n
    · obtain ⟨b1, o1, rfl, c1⟩ := (ha.qt hq).at_ hlt
      have e1 : (k : Int) < n := by omega
      by_cases hlm : k < m
      · obtain ⟨b2, o2, rfl, c2⟩ := (hb.qt hq).at_ hlm
        have e2 : (k : Int) < m := by omega
        have hst := Lib.hid (cmpZ_step (a := a) (b := b) (k := k) (by rw [la.out]; exact hlt) (by rw [lb.out]; exact hlm))
        generalize zth a k = x at *
        generalize zth b k = y at *
        by_cases h1 : x < y
        · have hF : Hid (cmpZ a b = -1) := by unfold Hid; rw [hv.out, hst.out, if_pos h1]
          clear hst hv
          go_wp2
          go_quiet (fail)
          go_wp2
          go_ret
          rw [hF.out]
          first | exact ⟨rfl, hq.drewN _⟩ | exact ⟨rfl, (hq.drewN _).drewN _⟩
        · by_cases h2 : y < x
          · have hF : Hid (cmpZ a b = 1) := by unfold Hid; rw [hv.out, hst.out, if_neg h1, if_pos h2]
            clear hst hv
            go_wp2
            go_quiet (fail)
            go_wp2
            go_quiet (fail)
            go_wp2
            go_ret
            rw [hF.out]
            first | exact ⟨rfl, hq.drewN _⟩ | exact ⟨rfl, (hq.drewN _).drewN _⟩
          · have hF : Hid (cmpZ a b = cmpZ (a.drop (k + 1)) (b.drop (k + 1))) := by unfold Hid; rw [hv.out, hst.out, if_neg h1, if_neg h2]
            clear hst hv
            go_wp2
            go_quiet (fail)
            go_wp2
            go_quiet (fail)
            go_wp2
            go_roundw
            case rel => exact ⟨k + 1, by omega, by omega, by go_num, hF, hq.drewN _⟩
            case measure => simp [intOf]; omega
      · have hF : Hid (cmpZ a b = 1) := by unfold Hid; rw [hv.out]; exact cmpZ_long (by rw [la.out]; exact hlt) (by rw [lb.out]; omega)
        have e2 : ¬ (k : Int) < m := by omega
        have e3 : (m : Int) ≤ k := by omega
        have e4 : m ≤ k := by omega
        have e5 : decide (k < m) = false := by simp; omega
        have e6 : decide (m ≤ k) = true := by simp; omega
        have e7 : decide (n ≤ k) = false := by simp; omega
        clear hv
        go_wp2
        go_quiet (fail)
        go_wp2
        go_quiet (fail)
        go_wp2
        go_ret
        rw [hF.out]
        first | exact ⟨rfl, hq.drewN _⟩ | exact ⟨rfl, (hq.drewN _).drewN _⟩
    · have hkn : k = n := by omega
      have e0 : ¬ (k : Int) < n := by omega
      have e0' : (n : Int) ≤ k := by omega
      have e5 : decide (k < n) = false := by simp; omega
      have e7 : decide (n ≤ k) = true := by simp; omega
      by_cases hlm : k < m
      · have hF : Hid (cmpZ a b = -1) := by unfold Hid; rw [hv.out]; exact cmpZ_short (by rw [la.out]; omega) (by rw [lb.out]; omega)
        have e2 : (k : Int) < m := by omega
        clear hv hkn
        go_wp2
        go_quiet (fail)
        go_wp2
        go_ret
        rw [hF.out]
        first | exact ⟨rfl, hq.drewN _⟩ | exact ⟨rfl, (hq.drewN _).drewN _⟩
      · have hF : Hid (cmpZ a b = 0) := by unfold Hid; rw [hv.out]; exact cmpZ_end (by rw [la.out]; omega) (by rw [lb.out]; omega)
        have e2 : ¬ (k : Int) < m := by omega
        clear hv hkn
        go_wp2
        go_ret
        rw [hF.out]
        exact ⟨rfl, hq⟩

theorem ref4Same (A B : Option Addr) (n m c d : Nat) (a b : List Int) (w : World) (ha : Zs w A n a) (hb : Zs w B m b) (hn : n ≤ 1099511627776) (hm : m ≤ 1099511627776) :
    Calls Try.prog 28 #[.slice A n c, .slice B m d] w fun e w' => e = .returned (.bool (decide (a = b))) ∧ Qt w w' := by
  have hF : Hid ((cmpZ a b == 0) = decide (a = b)) := by
    unfold Hid; rw [Bool.eq_iff_iff]; simp [cmpZ_zero]
  go_enter Try.func28, Try.ntmps28
  go_wp2_with fail
  refine (ref4Compare A B n m c d a b w ha hb hn hm).mono ?_
  rintro e w' ⟨rfl, hq⟩
  go_wp2
  go_ret
  refine ⟨?_, hq⟩
  rw [← hF.out]
  rfl
/-- What the reference's Flags hands back. -/
def FlgV (w : World) (r : List Int × Int) (e : Ending) (w' : World) : Prop := ∃ v, e = .returned (.tuple #[v, .int .i64 r.2]) ∧ Ov w' w.heap.size 3 v (r.1.map intV) ∧ Below w.heap.size w w'

set_option maxHeartbeats 3200000 in
theorem rf5Flags (u : Int) (A : Option Addr) (n c : Nat) (l : List UInt8) (w : World) (h : Bs w A n l) (hc : n ≤ c) (hn : n ≤ 1099511) :
    Calls Try.prog 27 #[.agg #[.int .i64 u, .slice A n c]] w (FlgV w (flgS u l)) := by
  obtain ⟨i0, hi, hz0, hz1, hz2⟩ := info_parts int_info
  have hO := Blk.new2 w (.int .i64 u) (.slice A n c) 24
  have b0 := below_alloc1 w (.cells #[.int .i64 u, .slice A n c] 24)
  have h0 := h.below b0
  have hl := Lib.hid h.len
  go_enter Try.func27, Try.ntmps27
  go_upto_region 1 with (fail)
  generalize (w.alloc (Obj.cells #[.int .i64 u, .slice A n c] 24)) = W0 at *
  obtain ⟨o0, o1, _, _⟩ := hO.two
  have R1 := rf5Right u A n c l W0 h0 hc hn
  cases hr : rightS u l
  · have hF : Hid (flgS u l = ([], 1)) := by unfold Hid flgS; rw [if_pos hr]
    rw [hr] at R1
    go_wp2_with fail
    refine R1.mono ?_
    rintro e w1 ⟨rfl, b1⟩
    have b1 := below_st b0 b1
    go_wp2
    go_ret2
    rw [hF.out]
    exact ⟨_, rfl, Ov.nil _ _ _, b1⟩
  · rw [hr] at R1
    have hF : Hid (flgS u l = if notFl l (lenS u l) = true then ([], 6) else (flagsS l (lenS u l), 0)) := by unfold Hid flgS; rw [if_neg (by rw [hr]; simp)]
    go_wp2_with fail
    refine R1.mono ?_
    rintro e w1 ⟨rfl, b1⟩
    have hO1 := hO.below b1
    have h1 := h0.below b1
    have b1 := below_st b0 b1
    clear o0 o1 hO h0 b0 R1
    obtain ⟨o0, o1, _, _⟩ := hO1.two
    go_wp2_with fail
    refine (rf5Bits u A n c l w1 h1 hn hr).mono ?_
    rintro e w2 ⟨A2, c2, rfl, hc2, z2, b2⟩
    have b2 := below_st b1 b2
    have hlen : lenS u l ≤ 8 * n := by have := hl.out; unfold lenS; omega
    have CELL : Hid (∀ W, Zs W A2 (lenS u l) (bitsS u l) → ∀ j : Nat, j < lenS u l → ∃ b o, A2 = some ⟨b, o, none⟩ ∧ W.cell? ⟨b, o + j, none⟩ = some (.int .i64 ((bitS l j).toNat : Int))) := by
      intro W hW j hj
      obtain ⟨b', o', e, hcj⟩ := hW.at_ hj
      rw [bitsS_get hj] at hcj
      exact ⟨b', o', e, hcj⟩
    clear o0 o1 hO1 h1 b1 hr
    generalize lenS u l = len at *
    generalize bitsS u l = zs at *
    go_wp2
    go_loopw [5, 6] (fun v i wr => ∃ k : Nat, k ≤ len ∧ i = .int .i64 (k : Int) ∧ Ov wr w2.heap.size 3 v ((flagsS l k).map intV) ∧ Below w2.heap.size w2 wr) (fun _ i _ => len - (intOf i).toNat)
    case atStart => exact ⟨0, Nat.zero_le _, rfl, Ov.nil _ _ _, Below.refl _ _⟩
    case round =>
      obtain ⟨k, hk, rfl, hov, hB⟩ := hrel
      have hz := z2.below hB
      by_cases hlt : k < len
      · obtain ⟨A1, c1, rfl, hc1, _⟩ := hov.slice
        obtain ⟨b', o', rfl, hcell⟩ := CELL.out _ hz k hlt
        have k1 : (k : Int) < len := by omega
        have hsz := hB.size
        have hfl : ((flagsS l k).map intV).length ≤ 1099511627 := by have := flagsS_len l k; rw [List.length_map]; omega
        cases hbit : bitS l k
        · rw [hbit] at hcell
          have hst := Lib.hid (flagsS_succ_f hbit)
          go_wp2
          go_roundw
          case rel => exact ⟨k + 1, by omega, by go_num, by rw [hst.out]; exact hov, hB⟩
          case measure => simp [intOf]; omega
        · rw [hbit] at hcell
          have hst : Hid ((flagsS l (k + 1)).map intV = (flagsS l k).map intV ++ [intV (k : Int)]) := by unfold Hid; rw [flagsS_succ_t hbit, List.map_append]; rfl
          generalize (flagsS l k).map intV = row at *
          go_wp2_with (at_builtin; (refine wpList_appendV rfl _ _ 38 rfl w2.heap.size 3 i0 (.int .i64 0) Try.underlying38 hi hz0 hz1 (by omega) rfl _ row rfl (hov.alloc _) _ _ _ [intV _] rfl (Vs.new1 wr _ 3) ?ab0 ?ab1 ?ab2 ?_))
          case ab0 => intro u hu; simp at hu; subst hu; rfl
          case ab1 => omega
          case ab2 => simp; omega
          intro v' w9 hov9 hg9 _ _
          have hbel1 := (hov.alloc _).grew (hB.alloc hsz _) (Nat.le_refl _) hg9
          go_wp2
          go_roundw
          case rel => exact ⟨k + 1, by omega, by go_num, by rw [hst.out]; exact hov9, hbel1⟩
          case measure => simp [intOf]; omega
      · have hkl : k = len := by omega
        subst hkl
        have hov9 := hov.mono (base' := w.heap.size) b2.size
        have hB9 := b2.trans (Below.mono hB b2.size)
        obtain ⟨A1, c1, rfl, hc1, _⟩ := hov.slice
        clear hov hB
        by_cases h32 : 32 < k
        · have hG : Hid (flgS u l = ([], 6)) := by unfold Hid; rw [hF.out, if_pos (by simp [notFl, h32])]
          have d1 : decide (32 < (k : Int)) = true := by simp; omega
          have d2 : decide (32 < k) = true := by simp; omega
          generalize ((flagsS l k).map intV).length = rl at *
          go_wp2
          go_ret2
          rw [hG.out]
          exact ⟨_, rfl, Ov.nil _ _ _, hB9⟩
        · have d1 : decide (32 < (k : Int)) = false := by simp; omega
          have d2 : decide (32 < k) = false := by simp; omega
          by_cases h00 : k = 0
          · subst h00
            have hG : Hid (flgS u l = (flagsS l 0, 0)) := by unfold Hid; rw [hF.out, if_neg (by simp [notFl])]
            generalize hrow : (flagsS l 0).map intV = row at *
            have HROW := Lib.hid hrow
            clear hrow
            generalize row.length = rl at *
            go_wp2
            go_ret2
            rw [hG.out]
            exact ⟨_, rfl, by rw [HROW.out]; exact hov9, hB9⟩
          · have l0 : 0 < k := by omega
            have d3 : decide (0 < (k : Int)) = true := by simp; omega
            have d4 : decide (0 < k) = true := by simp; omega
            obtain ⟨b', o', rfl, hcell⟩ := CELL.out _ hz (k - 1) (by omega)
            have k1 : (k : Int) - 1 < k := by omega
            cases hbit : bitS l (k - 1)
            · rw [hbit] at hcell
              have hG : Hid (flgS u l = ([], 6)) := by unfold Hid; rw [hF.out, if_pos (by simp [notFl, hbit, l0])]
              generalize ((flagsS l k).map intV).length = rl at *
              go_wp2
              go_ret2
              rw [hG.out]
              exact ⟨_, rfl, Ov.nil _ _ _, hB9⟩
            · rw [hbit] at hcell
              have hG : Hid (flgS u l = (flagsS l k, 0)) := by unfold Hid; rw [hF.out, if_neg (by simp [notFl, hbit]; omega)]
              generalize hrow : (flagsS l k).map intV = row at *
              have HROW := Lib.hid hrow
              clear hrow
              generalize row.length = rl at *
              go_wp2
              go_ret2
              rw [hG.out]
              exact ⟨_, rfl, by rw [HROW.out]; exact hov9, hB9⟩

end Go.Proofs.Ytjcddbcokiaehaa
