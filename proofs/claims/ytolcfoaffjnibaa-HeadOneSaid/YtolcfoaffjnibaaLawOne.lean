/-
  HeadOne: for any bytes quittancelaw02.HeadOne returns true and changes nothing that was there.
-/
import Derived.Test.YtolcfoaffjnibaaKnown2
import Derived.Test.YtolcfoaffjnibaaOneB
namespace Go.Proofs.Ytolcfoaffjnibaa
open Go.RowKit
set_option linter.unusedVariables false
set_option linter.unusedSimpArgs false
set_option maxRecDepth 4000

set_option maxHeartbeats 3200000 in
theorem lawOne (A : Option Addr) (n c : Nat) (l : List UInt8) (w : World) (h : Bs w A n l) (hc : n ≤ c) :
    Calls Try.prog 7 #[.slice A n c] w fun e w' => e = .returned (.bool true) ∧ Below w.heap.size w w' := by
  have h' : Bs w A (min n 3000) (l.take (min n 3000)) := h.take (by omega)
  have hn' : min n 3000 ≤ 3000 := by omega
  go_enter Try.func7, Try.ntmps7
  go_wp2_with fail
  refine (few2 A n c _ hc).mono ?_
  rintro e w0 ⟨rfl, rfl⟩
  have hc' : min n 3000 ≤ c := by omega
  clear h hc
  generalize min n 3000 = n at *
  generalize l.take n = l at *
  have h := h'
  clear h'
  have hl := Lib.hid h.len
  go_wp2_with fail
  refine (octNew A n c l _ h (by omega)).mono ?_
  rintro e w1 ⟨g, s, rfl, hg, hc1, b1⟩
  go_wp2_with fail
  refine (hdReadTag g 0 l _ hc1).mono ?_
  rintro e w2 ⟨rfl, hc2, hO2⟩
  have B2 : Below w.heap.size w w2 := hO2.below b1 hg b1.size
  have hbk := rTag_back l 0
  have hle := rTag_le l 0 (by omega)
  generalize rTag l 0 = T at *
  obtain ⟨⟨tc, tn, tm⟩, k1, E⟩ := T
  simp only at hc2 hbk hle
  have B3 := B2.alloc B2.size (blk3 tc tn tm)
  have hc3 := hc2.below (below_alloc1 w2 (blk3 tc tn tm))
  clear hc1 b1 hO2 hc2
  by_cases q : E = 0
  · subst q
    obtain ⟨hr, hbk⟩ := hbk rfl
    have HBK := Lib.hid hbk
    have hBy := Lib.hid (fun W => hdBytes ⟨tc, tn, tm⟩ W hr)
    have hL := tagB_len ⟨tc, tn, tm⟩
    clear hbk hr
    unfold Tg.v at *
    go_wp2_with fail
    refine (hBy.out _).mono ?_
    rintro e w4 ⟨A1, n1, c1, rfl, hob1, b4⟩
    have B4 := bstep B3 b4
    clear hBy
    go_wp2_with fail
    refine (curAt g k1 l _ (hc3.below b4)).mono ?_
    rintro e w9 ⟨rfl, rfl⟩
    have hkc : (k1 : Int) ≤ c := by have := hl.out; omega
    have hkn : k1 ≤ n := by have := hl.out; omega
    have hT1 := (h.below B4).take hkn
    have hEq : Hid (tagB ⟨tc, tn, tm⟩ = l.take k1) := by have := HBK.out; simp at this; exact this.symm
    have hn1 : n1 ≤ 1099511627776 := by have := hob1.bs.1.len; omega
    go_wp2_with fail
    refine (refSame A1 A n1 k1 c1 c _ _ _ hob1.bs.1 hT1 hn1 (by omega)).mono ?_
    rintro e w5 ⟨rfl, hq5⟩
    rw [decide_eq_true hEq.out]
    have B5 := B4.trans hq5.below
    clear hob1 hc3 hT1 b4 B4 B3 B2
    go_wp2_with fail
    refine (octNew A n c l _ (h.below B5) (by omega)).mono ?_
    rintro e w6 ⟨g2, s2, rfl, hg6, hc6, b6⟩
    have B6 : Below w.heap.size w w6 := bstep B5 b6
    have hgw6 : w.heap.size ≤ g2 := Nat.le_trans B5.size hg6
    go_wp2_with fail
    refine (hdReadLength g2 0 l _ hc6).mono ?_
    rintro e w7 ⟨rfl, hc7, hO7⟩
    have B7 : Below w.heap.size w w7 := hO7.below B6 hgw6 B6.size
    have hbk := rLen_back l 0
    have hok := rLen_ok l 0
    generalize rLen l 0 = T at *
    obtain ⟨m, k2, E2⟩ := T
    simp only at hc7 hbk hok
    clear b6 hc6 hO7 B6 hg6
    by_cases q2 : E2 = 0
    · subst q2
      have HBK2 := Lib.hid (hbk rfl)
      clear hbk
      obtain ⟨hm0, hm1, hk2⟩ := hok rfl
      clear hok
      go_wp2_with fail
      refine (hdLength m _ hm0 hm1).mono ?_
      rintro e w8 ⟨A2, n2, c2, rfl, hob2, b8⟩
      have B8 := bstep B7 b8
      go_wp2_with fail
      refine (curAt g2 k2 l _ (hc7.below b8)).mono ?_
      rintro e w9 ⟨rfl, rfl⟩
      have hkc : (k2 : Int) ≤ c := by have := hl.out; omega
      have hkn : k2 ≤ n := by have := hl.out; omega
      have hT2 := (h.below B8).take hkn
      have hEq : Hid (lenB m = l.take k2) := by have := HBK2.out; simp at this; exact this.symm
      have hn2 : n2 ≤ 1099511627776 := by have := hob2.bs.1.len; have := lenB_len m; omega
      go_wp2_with fail
      refine (refSame A2 A n2 k2 c2 c _ _ _ hob2.bs.1 hT2 hn2 (by omega)).mono ?_
      rintro e w10 ⟨rfl, hq10⟩
      rw [decide_eq_true hEq.out]
      have B10 := B8.trans hq10.below
      clear hob2 hc7 hT2
      go_wp2_with fail
      refine (known2 _).mono ?_
      rintro e w11 ⟨rfl, b11⟩
      have B11 := bstep B10 b11
      go_wp2
      go_ret
      exact ⟨rfl, B11⟩
    · have e3 : (E2 == 0) = false := by simp; exact q2
      clear hbk hok
      go_wp2_with fail
      refine (known2 _).mono ?_
      rintro e w11 ⟨rfl, b11⟩
      have B11 := bstep B7 b11
      go_wp2
      go_ret
      exact ⟨rfl, B11⟩
  · have e3 : (E == 0) = false := by simp; exact q
    have B5 := B3
    clear hbk hc3 B2 B3
    unfold Tg.v
    go_wp2_with fail
    refine (octNew A n c l _ (h.below B5) (by omega)).mono ?_
    rintro e w6 ⟨g2, s2, rfl, hg6, hc6, b6⟩
    have B6 : Below w.heap.size w w6 := bstep B5 b6
    have hgw6 : w.heap.size ≤ g2 := Nat.le_trans B5.size hg6
    go_wp2_with fail
    refine (hdReadLength g2 0 l _ hc6).mono ?_
    rintro e w7 ⟨rfl, hc7, hO7⟩
    have B7 : Below w.heap.size w w7 := hO7.below B6 hgw6 B6.size
    have hbk := rLen_back l 0
    have hok := rLen_ok l 0
    generalize rLen l 0 = T at *
    obtain ⟨m, k2, E2⟩ := T
    simp only at hc7 hbk hok
    clear b6 hc6 hO7 B6 hg6
    by_cases q2 : E2 = 0
    · subst q2
      have HBK2 := Lib.hid (hbk rfl)
      clear hbk
      obtain ⟨hm0, hm1, hk2⟩ := hok rfl
      clear hok
      go_wp2_with fail
      refine (hdLength m _ hm0 hm1).mono ?_
      rintro e w8 ⟨A2, n2, c2, rfl, hob2, b8⟩
      have B8 := bstep B7 b8
      go_wp2_with fail
      refine (curAt g2 k2 l _ (hc7.below b8)).mono ?_
      rintro e w9 ⟨rfl, rfl⟩
      have hkc : (k2 : Int) ≤ c := by have := hl.out; omega
      have hkn : k2 ≤ n := by have := hl.out; omega
      have hT2 := (h.below B8).take hkn
      have hEq : Hid (lenB m = l.take k2) := by have := HBK2.out; simp at this; exact this.symm
      have hn2 : n2 ≤ 1099511627776 := by have := hob2.bs.1.len; have := lenB_len m; omega
      go_wp2_with fail
      refine (refSame A2 A n2 k2 c2 c _ _ _ hob2.bs.1 hT2 hn2 (by omega)).mono ?_
      rintro e w10 ⟨rfl, hq10⟩
      rw [decide_eq_true hEq.out]
      have B10 := B8.trans hq10.below
      clear hob2 hc7 hT2
      go_wp2_with fail
      refine (known2 _).mono ?_
      rintro e w11 ⟨rfl, b11⟩
      have B11 := bstep B10 b11
      go_wp2
      go_ret
      exact ⟨rfl, B11⟩
    · have e3 : (E2 == 0) = false := by simp; exact q2
      clear hbk hok
      go_wp2_with fail
      refine (known2 _).mono ?_
      rintro e w11 ⟨rfl, b11⟩
      have B11 := bstep B7 b11
      go_wp2
      go_ret
      exact ⟨rfl, B11⟩

end Go.Proofs.Ytolcfoaffjnibaa
