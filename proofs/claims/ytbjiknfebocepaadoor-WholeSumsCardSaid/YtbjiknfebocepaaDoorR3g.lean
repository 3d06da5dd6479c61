/-
  The contracts of layer 3's reference: sizes compared.
-/
import Derived.Test.YtbjiknfebocepaaDoorR3b
import Derived.Test.YtbjiknfebocepaaDoorWe
namespace Go.Proofs.YtbjiknfebocepaaDoor
open Go.RowKit Go.Joins
set_option linter.unusedVariables false
set_option linter.unusedSimpArgs false
set_option maxRecDepth 4000

theorem val_zero_cons (l : List UInt8) : val (0 :: l) = val l := by rw [val_cons]; simp
theorem cmpB_step {a b : List UInt8} {k : Nat} {x y : UInt8} (ha : a[k]? = some x) (hb : b[k]? = some y) :
    Lib.compareBytes (a.drop k) (b.drop k) = if x.toNat < y.toNat then -1 else if y.toNat < x.toNat then 1 else Lib.compareBytes (a.drop (k + 1)) (b.drop (k + 1)) := by
  obtain ⟨h1, rfl⟩ := List.getElem?_eq_some_iff.1 ha
  obtain ⟨h2, rfl⟩ := List.getElem?_eq_some_iff.1 hb
  rw [List.drop_eq_getElem_cons h1, List.drop_eq_getElem_cons h2]
  simp only [Lib.compareBytes, UInt8.lt_iff_toNat_lt]
theorem bstepQ {w a b : World} (h : Below w.heap.size w a) (k : Qt a b) : Below w.heap.size w b := h.trans (Below.mono k.below h.size)

set_option maxHeartbeats 3200000 in
theorem ref3Sizes (A B : Option Addr) (n m c d : Nat) (a b : List UInt8) (w : World) (ha : Bs w A n a) (hb : Bs w B m b) (hn : n ≤ 900000) (hm : m ≤ 900000) :
    Calls Tryd.prog 46 #[.slice A n c, .slice B m d] w fun e w' => e = .returned (.int .i64 (sg (val a) (val b))) ∧ Below w.heap.size w w' := by
  obtain ⟨i0, hi, hz0, hz1, hz2⟩ := info_parts u8_info
  go_enter Tryd.func46, Tryd.ntmps46
  go_wp2
  go_loopw [0] (fun v wr => ∃ A' n' c' la, v = .slice A' n' c' ∧ Bs wr A' n' la ∧ Hid (val la = val a) ∧ n' ≤ 900000 ∧ Below w.heap.size w wr) (fun v _ => m - lenV v)
  case atStart => exact ⟨A, n, c, a, rfl, ha, rfl, hn, Below.refl _ _⟩
  case round =>
    obtain ⟨A', n', c', la, rfl, hla, hva, hn', hB⟩ := hrel
    have hbb := hb.below hB
    by_cases hlt : n' < m
    · have e1 : (n' : Int) < m := by omega
      have ho1 := Ob.one wr w.heap.size 5 0 0 hB.size rfl
      have hbs1 := hla.below (below_alloc1 wr (Obj.cells #[.int .u8 0] 5))
      go_wp2_with (at_builtin; refine wpList_appendB rfl _ _ 22 rfl w.heap.size 5 i0 (.int .u8 0) Tryd.underlying22 hi hz0 hz1 hz2 rfl _ [0] rfl ho1 _ _ _ la rfl hbs1 (by simp; omega) (by have := hB.size; simp; omega) ?_)
      intro v1 w1 hob1 hg1 _ _
      have hB1 : Below w.heap.size w w1 := (hB.alloc hB.size _).grown hg1 (by have := hB.size; simp; omega) (by
        intro k hk
        simp [Value.ownBlock] at hk
        have := hB.size
        omega)
      obtain ⟨A1, c1, rfl, hc1, hbs2⟩ := hob1.slice
      have hll := hla.len
      have hlen : ((0 : UInt8) :: la).length = n' + 1 := by simp; omega
      rw [hlen] at hbs2 hc1 ⊢
      have HV : Hid (val ((0 : UInt8) :: la) = val a) := by unfold Hid; rw [val_zero_cons]; exact hva.out
      clear hob1 hg1 ho1 hbs1
      generalize (0 : UInt8) :: la = la1 at *
      go_wp2
      refine ⟨⟨A1, n' + 1, c1, la1, rfl, hbs2, HV, by omega, hB1⟩, ?_⟩
      simp [lenV]
      omega
    · have e1 : ¬ (n' : Int) < m := by omega
      have e1' : (m : Int) ≤ n' := by omega
      go_wp2
      go_loopw [1] (fun v wr => ∃ B' m' d' lb, v = .slice B' m' d' ∧ Bs wr B' m' lb ∧ Bs wr A' n' la ∧ Hid (val lb = val b) ∧ m' ≤ n' ∧ Below w.heap.size w wr) (fun v _ => n' - lenV v)
      case atStart => exact ⟨B, m, d, b, rfl, hbb, hla, rfl, by omega, hB⟩
      case round =>
        clear hB hla hbb
        obtain ⟨B', m', d', lb, rfl, hlb, hla, hvb, hm', hB⟩ := hrel
        by_cases hlt2 : m' < n'
        · have e2 : (m' : Int) < n' := by omega
          have ho1 := Ob.one wr w.heap.size 5 0 0 hB.size rfl
          have hal := below_alloc1 wr (Obj.cells #[.int .u8 0] 5)
          have hbs1 := hlb.below hal
          go_wp2_with (at_builtin; refine wpList_appendB rfl _ _ 22 rfl w.heap.size 5 i0 (.int .u8 0) Tryd.underlying22 hi hz0 hz1 hz2 rfl _ [0] rfl ho1 _ _ _ lb rfl hbs1 (by simp; omega) (by have := hB.size; simp; omega) ?_)
          intro v1 w1 hob1 hg1 _ _
          have hnw : Below wr.heap.size wr w1 := hal.grown hg1 (by simp) (by
            intro k hk
            simp [Value.ownBlock] at hk
            omega)
          have hB1 : Below w.heap.size w w1 := hB.trans (Below.mono hnw hB.size)
          have hla1 := hla.below hnw
          obtain ⟨A1, c1, rfl, hc1, hbs2⟩ := hob1.slice
          have hll := hlb.len
          have hlen : ((0 : UInt8) :: lb).length = m' + 1 := by simp; omega
          rw [hlen] at hbs2 hc1 ⊢
          have HV : Hid (val ((0 : UInt8) :: lb) = val b) := by unfold Hid; rw [val_zero_cons]; exact hvb.out
          clear hob1 hg1 ho1 hbs1 hal hnw
          generalize (0 : UInt8) :: lb = lb1 at *
          go_wp2
          refine ⟨⟨A1, m' + 1, c1, lb1, rfl, hbs2, hla1, HV, by omega, hB1⟩, ?_⟩
          simp [lenV]
          omega
        · have e2 : ¬ (m' : Int) < n' := by omega
          have hmn : m' = n' := by omega
          subst hmn
          have hcv : Hid (sg (val a) (val b) = Lib.compareBytes la lb) := by
            unfold Hid; rw [← hva.out, ← hvb.out, cmp_val (by rw [hla.len, hlb.len])]
          go_wp2
          go_loopw [5] (fun iv w' => ∃ k : Nat, k ≤ m' ∧ iv = .int .i64 (k : Int) ∧ Hid (Lib.compareBytes la lb = Lib.compareBytes (la.drop k) (lb.drop k)) ∧ Qt wr w') (fun iv _ => m' - (intOf iv).toNat)
          case atStart => exact ⟨0, by omega, rfl, by simp [Hid], Qt.refl _⟩
          case round =>
            obtain ⟨k, hk, rfl, hcm, hq⟩ := hrel
            by_cases hlt3 : k < m'
            · obtain ⟨ba, oa, rfl, ca⟩ := (hla.qt hq).at_ (k := k) hlt3
              obtain ⟨bb, ob, rfl, cb⟩ := (hlb.qt hq).at_ (k := k) hlt3
              have la2 := hla.len
              have lb2 := hlb.len
              obtain ⟨x, hx⟩ : ∃ x, la[k]? = some x := ⟨la[k]'(by omega), List.getElem?_eq_getElem _⟩
              obtain ⟨y, hy⟩ : ∃ y, lb[k]? = some y := ⟨lb[k]'(by omega), List.getElem?_eq_getElem _⟩
              have hnx : nth la k = (x.toNat : Int) := by simp [nth, List.getD, hx]
              have hny : nth lb k = (y.toNat : Int) := by simp [nth, List.getD, hy]
              rw [hnx] at ca
              rw [hny] at cb
              have hst := Lib.hid (cmpB_step hx hy)
              clear hnx hny hx hy la2 lb2
              have e3 : (k : Int) < m' := by omega
              generalize x.toNat = X at *
              generalize y.toNat = Y at *
              by_cases h1 : X < Y
              · have hF : Hid (sg (val a) (val b) = -1) := by unfold Hid; rw [hcv.out, hcm.out, hst.out, if_pos h1]
                have t1 : (X : Int) < Y := by omega
                clear hcv hcm hst
                go_wp2
                go_quiet (fail)
                go_wp2
                go_ret
                refine ⟨ret_int (by rw [hF.out]), ?_⟩
                first | exact bstepQ hB (hq.drewN _) | exact bstepQ hB ((hq.drewN _).drewN _)
              · by_cases h2 : Y < X
                · have hF : Hid (sg (val a) (val b) = 1) := by unfold Hid; rw [hcv.out, hcm.out, hst.out, if_neg h1, if_pos h2]
                  have t1 : ¬ (X : Int) < Y := by omega
                  have t2 : (Y : Int) < X := by omega
                  clear hcv hcm hst
                  go_wp2
                  go_quiet (fail)
                  go_wp2
                  go_quiet (fail)
                  go_wp2
                  go_ret
                  refine ⟨ret_int (by rw [hF.out]), ?_⟩
                  first | exact bstepQ hB (hq.drewN _) | exact bstepQ hB ((hq.drewN _).drewN _)
                · have hF : Hid (Lib.compareBytes la lb = Lib.compareBytes (la.drop (k + 1)) (lb.drop (k + 1))) := by unfold Hid; rw [hcm.out, hst.out, if_neg h1, if_neg h2]
                  have t1 : ¬ (X : Int) < Y := by omega
                  have t2 : ¬ (Y : Int) < X := by omega
                  clear hcm hst
                  go_wp2
                  go_quiet (fail)
                  go_wp2
                  go_quiet (fail)
                  go_wp2
                  go_roundw
                  case rel => exact ⟨k + 1, by omega, by go_num, hF, by first | exact hq.drewN _ | exact (hq.drewN _).drewN _⟩
                  case measure => simp [intOf]; omega
            · have hkm : k = m' := by omega
              subst hkm
              have e3 : ¬ (k : Int) < k := by omega
              have hF : Hid (sg (val a) (val b) = 0) := by
                unfold Hid; rw [hcv.out, hcm.out, List.drop_eq_nil_of_le (by rw [hla.len]; exact Nat.le_refl _), List.drop_eq_nil_of_le (by rw [hlb.len]; exact Nat.le_refl _)]; rfl
              clear hcv hcm
              go_wp2
              go_ret
              exact ⟨ret_int (by rw [hF.out]), bstepQ hB hq⟩
end Go.Proofs.YtbjiknfebocepaaDoor
