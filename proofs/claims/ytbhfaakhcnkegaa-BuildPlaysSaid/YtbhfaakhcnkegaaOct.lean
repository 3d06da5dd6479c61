/-
  The contracts of package octet, of the library's functions that it calls, and of quittanceref01's Compare and Same.
-/
import Derived.Test.YtbhfaakhcnkegaaRows
import Derived.Test.YtbhfaakhcnkegaaBase
namespace Go.Proofs.Ytbhfaakhcnkegaa
open Go.RowKit
set_option linter.unusedVariables false
set_option linter.unusedSimpArgs false
set_option maxRecDepth 4000

theorem u8_info : (Try.prog.info? 5).map (fun i => (i.zero, i.size, i.bytes)) = some (some (.int .u8 0), 1, 1) := by kernel_rfl

theorem ret_int {k : IntKind} {a b : Int} (h : a = b) : Ending.returned (.int k a) = .returned (.int k b) := by rw [h]
theorem drop_cons {l : List UInt8} {k : Nat} (h : k < l.length) : l.drop k = l.getD k 0 :: l.drop (k+1) := by
  rw [List.drop_eq_getElem_cons h]; simp [List.getD, List.getElem?_eq_getElem h]
theorem drop_end {l : List UInt8} {k : Nat} (h : l.length ≤ k) : l.drop k = [] := List.drop_eq_nil_of_le h

theorem cmp_cons (x y : UInt8) (a b : List UInt8) : Lib.compareBytes (x :: a) (y :: b) = if x.toNat < y.toNat then -1 else if y.toNat < x.toNat then 1 else Lib.compareBytes a b := by
  simp only [Lib.compareBytes, UInt8.lt_iff_toNat_lt]
theorem cmp_nil_cons (y : UInt8) (b : List UInt8) : Lib.compareBytes [] (y :: b) = -1 := by simp [Lib.compareBytes]
theorem cmp_cons_nil (y : UInt8) (b : List UInt8) : Lib.compareBytes (y :: b) [] = 1 := by simp [Lib.compareBytes]
theorem cmp_nil : Lib.compareBytes [] [] = 0 := by simp [Lib.compareBytes]

/-! ### quittanceref01.Compare, Same -/

set_option maxHeartbeats 800000 in
theorem refCompare (A B : Option Addr) (n m c d : Nat) (a b : List UInt8) (w : World) (ha : Bs w A n a) (hb : Bs w B m b)
    (hnm : n ≤ 1099511627776) (hmm : m ≤ 1099511627776) :
    Calls Try.prog 40 #[.slice A n c, .slice B m d] w fun e w' => e = .returned (.int .i64 (Lib.compareBytes a b)) ∧ Qt w w' := by
  go_enter Try.func40, Try.ntmps40
  go_wp2
  go_loopw [5] (fun i wr => ∃ k : Nat, k ≤ n ∧ k ≤ m ∧ i = .int .i64 k ∧ Hid (Lib.compareBytes a b = Lib.compareBytes (a.drop k) (b.drop k)) ∧ Qt w wr) (fun i _ => n + m - (intOf i).toNat)
  case atStart => exact ⟨0, Nat.zero_le _, Nat.zero_le _, rfl, rfl, Qt.refl _⟩
  case round =>
    obtain ⟨k, hkn, hkm, rfl, hc, hq⟩ := hrel
    obtain ⟨q, rfl⟩ := hq
    by_cases h1 : k < n
    · have l1 : k < a.length := by have := ha.len; omega
      obtain ⟨ba, oa, rfl, ca⟩ := ha.at_ h1
      have e1 : decide (n ≤ k) = false := by simp; omega
      have e2 : decide (k < n) = true := by simp; omega
      have i1 : (k : Int) < n := by omega
      by_cases h2 : k < m
      · have l2 : k < b.length := by have := hb.len; omega
        obtain ⟨bb, ob, rfl, cb⟩ := hb.at_ h2
        have e3 : decide (m ≤ k) = false := by simp; omega
        have e4 : decide (k < m) = true := by simp; omega
        have i2 : (k : Int) < m := by omega
        have hs : Hid (Lib.compareBytes a b = if nth a k < nth b k then -1 else if nth b k < nth a k then 1 else Lib.compareBytes (a.drop (k+1)) (b.drop (k+1))) := by
          show _ = _; rw [hc.out, drop_cons l1, drop_cons l2, cmp_cons]; simp only [nth, Int.ofNat_lt]
        clear hc
        by_cases h3 : nth a k < nth b k
        · go_wp2
          go_quiet (fail)
          go_wp2
          go_ret
          exact ⟨ret_int (by rw [hs.out, if_pos (by omega)]), ((Qt.of _ _).drewN _)⟩
        · by_cases h4 : nth b k < nth a k
          · go_wp2
            go_quiet (fail)
            go_wp2
            go_quiet (fail)
            go_wp2
            go_ret
            exact ⟨ret_int (by rw [hs.out, if_neg (by omega), if_pos (by omega)]), (((Qt.of _ _).drewN _).drewN _)⟩
          · go_wp2
            go_quiet (fail)
            go_wp2
            go_quiet (fail)
            go_wp2
            go_roundw
            case rel => exact ⟨k + 1, by omega, by omega, by go_num, by rw [Hid, hs.out, if_neg (by omega), if_neg (by omega)], by first | exact Qt.of _ _ | exact (((Qt.of _ _).drewN _).drewN _)⟩
            case measure => simp [intOf]; omega
      · have l2 : b.length ≤ k := by have := hb.len; omega
        have e3 : decide (m ≤ k) = true := by simp; omega
        have e4 : decide (k < m) = false := by simp; omega
        have hs : Hid (Lib.compareBytes a b = 1) := by
          rw [hc.out, drop_cons l1, drop_end l2]; exact cmp_cons_nil _ _
        go_wp2
        go_quiet (fail)
        go_wp2
        go_quiet (fail)
        go_wp2
        go_ret
        exact ⟨ret_int (by rw [hs.out]), (((Qt.of _ _).drewN _).drewN _)⟩
    · have l1 : a.length ≤ k := by have := ha.len; omega
      by_cases h2 : k < m
      · have l2 : k < b.length := by have := hb.len; omega
        have e1 : decide (n ≤ k) = true := by simp; omega
        have e2 : decide (k < n) = false := by simp; omega
        have hs : Hid (Lib.compareBytes a b = -1) := by
          rw [hc.out, drop_cons l2, drop_end l1]; exact cmp_nil_cons _ _
        go_wp2
        go_quiet (fail)
        go_wp2
        go_ret
        exact ⟨ret_int (by rw [hs.out]), ((Qt.of _ _).drewN _)⟩
      · have e1 : decide (k < m) = false := by simp; omega
        have e2 : decide (k < n) = false := by simp; omega
        have l2 : b.length ≤ k := by have := hb.len; omega
        have hs : Hid (Lib.compareBytes a b = 0) := by
          rw [hc.out, drop_end l2, drop_end l1]; exact cmp_nil
        go_wp2
        go_ret
        exact ⟨ret_int (by rw [hs.out]), Qt.of _ _⟩

theorem cmp_zero_iff : ∀ a b : List UInt8, Lib.compareBytes a b = 0 ↔ a = b
  | [], [] => by simp [cmp_nil]
  | [], y :: b => by simp [cmp_nil_cons]
  | x :: a, [] => by simp [cmp_cons_nil]
  | x :: a, y :: b => by
    rw [cmp_cons]
    have ih := cmp_zero_iff a b
    by_cases h1 : x.toNat < y.toNat
    · rw [if_pos h1]; constructor
      · intro h; cases h
      · intro h; injection h with h _; subst h; omega
    · rw [if_neg h1]
      by_cases h2 : y.toNat < x.toNat
      · rw [if_pos h2]; constructor
        · intro h; cases h
        · intro h; injection h with h _; subst h; omega
      · rw [if_neg h2, ih]
        have : x = y := UInt8.toNat_inj.1 (by omega)
        simp [this]

theorem refSame (A B : Option Addr) (n m c d : Nat) (a b : List UInt8) (w : World) (ha : Bs w A n a) (hb : Bs w B m b)
    (hnm : n ≤ 1099511627776) (hmm : m ≤ 1099511627776) :
    Calls Try.prog 20 #[.slice A n c, .slice B m d] w fun e w' => e = .returned (.bool (decide (a = b))) ∧ Qt w w' := by
  go_enter Try.func20, Try.ntmps20
  go_wp2_with fail
  refine (refCompare A B n m c d a b _ ha hb hnm hmm).mono ?_
  rintro e w' ⟨rfl, hq⟩
  go_wp2
  go_ret
  refine ⟨?_, hq⟩
  have := cmp_zero_iff a b
  by_cases h : a = b
  · subst h; simp [go_sem, this.2 rfl]
  · have h' : ¬ Lib.compareBytes a b = 0 := fun e => h (this.1 e)
    simp [go_sem, h, h']

/-! ### octet.Compare, Equal -/

end Go.Proofs.Ytbhfaakhcnkegaa
