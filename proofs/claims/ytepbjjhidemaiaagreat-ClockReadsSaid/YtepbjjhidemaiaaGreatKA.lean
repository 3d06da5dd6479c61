/-
  The project's clock and the reference's digits: contracts.
-/
import Derived.Test.YtepbjjhidemaiaaGreatKa
import Derived.Test.YtepbjjhidemaiaaGreatDp
import Derived.Test.YtepbjjhidemaiaaGreatHdWrapB
import Derived.Test.YtepbjjhidemaiaaGreatBackB
namespace Go.Proofs.YtepbjjhidemaiaaGreat
open Go.RowKit Go.Joins
set_option linter.unusedVariables false
set_option linter.unusedSimpArgs false
set_option maxRecDepth 4000

/-! ### Kb -/
/-- A time as it stands in Go. -/
def tmv (k s : Int) : Value := .agg #[.int .i64 k, .int .i64 s]
theorem bool_dec {p : Prop} [Decidable p] {q : Bool} (h : q = true ↔ p) : q = decide p := by by_cases hp : p <;> cases q <;> simp_all
theorem Blk.two_new (w : World) (a b : Value) (t : TypeId) : Blk (w.alloc (.cells #[a, b] t)) w.heap.size t [a, b] := Blk.new w [a, b] t

set_option maxHeartbeats 800000 in
theorem ckIsKind (k : Int) (w : World) :
    Calls Tryz.prog 28 #[.int .i64 k] w fun e w' => e = .returned (.bool (decide (k = 23 ∨ k = 24))) ∧ w' = w := by
  by_cases h1 : k = 23
  · have e1 : (k == 23) = true := by simpa using h1
    have fin : Hid (Ending.returned (.bool true) = .returned (.bool (decide (k = 23 ∨ k = 24)))) := by simp [Hid, h1]
    clear h1
    go_enter Tryz.func28, Tryz.ntmps28
    go_wp2
    go_ret
    exact ⟨fin.out, rfl⟩
  · have e1 : (k == 23) = false := by simpa using h1
    have fin : Hid (Ending.returned (.bool (k == 24)) = .returned (.bool (decide (k = 23 ∨ k = 24)))) := by have := bool_dec (p := k = 23 ∨ k = 24) (q := k == 24) (by simp [h1]); unfold Hid; rw [this]
    clear h1
    go_enter Tryz.func28, Tryz.ntmps28
    go_wp2
    go_ret
    exact ⟨fin.out, rfl⟩

set_option maxHeartbeats 1600000 in
theorem ckKind (s : Int) (w : World) (hs : I64 s) :
    Calls Tryz.prog 31 #[.int .i64 s] w fun e w' => e = .returned (.int .i64 (kindS s)) ∧ Below w.heap.size w w' := by
  have fin : Hid (∀ q, q = kindS s → Ending.returned (.int .i64 q) = .returned (.int .i64 (kindS s))) := by rintro q rfl; rfl
  rcases kindS_cases s with ⟨hk, hn⟩ | ⟨hk, h0, h1⟩
  · have hC := Lib.hid (fun W => dtAtNo s W hs hn)
    have HK := Lib.hid hk
    clear hk hn hs
    go_enter Tryz.func31, Tryz.ntmps31
    go_wp2_with fail
    refine (hC.out _).mono ?_
    rintro e w2 ⟨rfl, hB2⟩
    unfold cv
    go_wp2
    go_ret
    exact ⟨fin.out _ HK.out.symm, hB2.alloc hB2.size _⟩
  · have hC := Lib.hid (fun W => dtAtYes s W h0 h1)
    clear h0 h1 hs hk
    go_enter Tryz.func31, Tryz.ntmps31
    go_wp2_with fail
    refine (hC.out _).mono ?_
    rintro e w2 ⟨⟨y, m, d, a, b, c, rfl, hr, hse⟩, hB2⟩
    unfold cv
    have HK := Lib.hid (show kindS s = if 1950 ≤ y ∧ y ≤ 2049 then 23 else 24 from hse ▸ kindS_of hr)
    have HB := Lib.hid (hB2.alloc hB2.size (.cells #[.int .i64 y, .int .i64 m, .int .i64 d, .int .i64 a, .int .i64 b, .int .i64 c] 87))
    have hb := Blk.six_new w2 (.int .i64 y) (.int .i64 m) (.int .i64 d) (.int .i64 a) (.int .i64 b) (.int .i64 c) 87
    obtain ⟨c0, c1, c2, c3, c4, c5⟩ := hb.six
    clear hb hr hse hB2 hC
    by_cases g1 : 1950 ≤ y
    · by_cases g2 : y ≤ 2049
      · have HK2 := Lib.hid (HK.out.trans (if_pos ⟨g1, g2⟩))
        have e1 : decide (1950 ≤ y) = true := by simpa using g1
        have e2 : decide (y ≤ 2049) = true := by simpa using g2
        clear g1 g2
        go_wp2
        go_ret
        exact ⟨fin.out _ HK2.out.symm, HB.out⟩
      · have HK2 := Lib.hid (HK.out.trans (if_neg (fun h => g2 h.2)))
        have e1 : decide (1950 ≤ y) = true := by simpa using g1
        have e2 : decide (y ≤ 2049) = false := by simpa using g2
        clear g1 g2
        go_wp2
        go_ret
        exact ⟨fin.out _ HK2.out.symm, HB.out⟩
    · have HK2 := Lib.hid (HK.out.trans (if_neg (fun h => g1 h.1)))
      have e1 : decide (1950 ≤ y) = false := by simpa using g1
      clear g1
      go_wp2
      go_ret
      exact ⟨fin.out _ HK2.out.symm, HB.out⟩

set_option maxHeartbeats 1600000 in
theorem rfKind (s : Int) (w : World) (hs : I64 s) :
    Calls Tryz.prog 20 #[.int .i64 s] w fun e w' => e = .returned (.int .i64 (kindS s)) ∧ Below w.heap.size w w' := by
  have fin : Hid (∀ q, q = kindS s → Ending.returned (.int .i64 q) = .returned (.int .i64 (kindS s))) := by rintro q rfl; rfl
  rcases kindS_cases s with ⟨hk, hn⟩ | ⟨hk, h0, h1⟩
  · have hC := Lib.hid (fun W => rf9AtNo s W hs hn)
    have HK := Lib.hid hk
    clear hk hn hs
    go_enter Tryz.func20, Tryz.ntmps20
    go_wp2_with fail
    refine (hC.out _).mono ?_
    rintro e w2 ⟨rfl, hB2⟩
    unfold cv
    go_wp2
    go_ret
    exact ⟨fin.out _ HK.out.symm, hB2.alloc hB2.size _⟩
  · obtain ⟨y, m, d, a, b, c, hr, hse⟩ := sec_of s h0 h1
    have hC := Lib.hid (fun W => rf9AtYes s y m d a b c W hr hse)
    clear h0 h1 hs hk
    go_enter Tryz.func20, Tryz.ntmps20
    go_wp2_with fail
    refine (hC.out _).mono ?_
    rintro e w2 ⟨rfl, hB2⟩
    unfold cv
    have HK := Lib.hid (show kindS s = if 1950 ≤ y ∧ y ≤ 2049 then 23 else 24 from hse ▸ kindS_of hr)
    have HB := Lib.hid (hB2.alloc hB2.size (.cells #[.int .i64 y, .int .i64 m, .int .i64 d, .int .i64 a, .int .i64 b, .int .i64 c] 76))
    have hb := Blk.six_new w2 (.int .i64 y) (.int .i64 m) (.int .i64 d) (.int .i64 a) (.int .i64 b) (.int .i64 c) 76
    obtain ⟨c0, c1, c2, c3, c4, c5⟩ := hb.six
    clear hb hr hse hB2 hC
    by_cases g1 : 1950 ≤ y
    · by_cases g2 : y ≤ 2049
      · have HK2 := Lib.hid (HK.out.trans (if_pos ⟨g1, g2⟩))
        have e1 : decide (y ≥ 1950) = true := by simpa using g1
        have e1' : decide (1950 ≤ y) = true := by simpa using g1
        have e2 : decide (y < 2050) = true := by simp; omega
        clear g1 g2
        go_wp2
        go_ret
        exact ⟨fin.out _ HK2.out.symm, HB.out⟩
      · have HK2 := Lib.hid (HK.out.trans (if_neg (fun h => g2 h.2)))
        have e1 : decide (y ≥ 1950) = true := by simpa using g1
        have e1' : decide (1950 ≤ y) = true := by simpa using g1
        have e2 : decide (y < 2050) = false := by simp; omega
        clear g1 g2
        go_wp2
        go_ret
        exact ⟨fin.out _ HK2.out.symm, HB.out⟩
    · have HK2 := Lib.hid (HK.out.trans (if_neg (fun h => g1 h.1)))
      have e1 : decide (y ≥ 1950) = false := by simp; omega
      have e1' : decide (1950 ≤ y) = false := by simp; omega
      clear g1
      go_wp2
      go_ret
      exact ⟨fin.out _ HK2.out.symm, HB.out⟩

set_option maxHeartbeats 1600000 in
theorem ckRight (k s : Int) (w : World) (hs : I64 s) :
    Calls Tryz.prog 67 #[tmv k s] w fun e w' => e = .returned (.bool (decide (rightT k s))) ∧ Below w.heap.size w w' := by
  have hC := Lib.hid (fun W => ckKind s W hs)
  have fin : Hid (∀ q : Bool, (q = true ↔ (kindS s ≠ 0 ∧ (k = kindS s ∨ k = 24))) → Ending.returned (.bool q) = .returned (.bool (decide (rightT k s)))) := by
    intro q hq; rw [bool_dec (p := rightT k s) hq]
  unfold tmv
  have hb := Blk.two_new w (.int .i64 k) (.int .i64 s) 26
  have HB := Lib.hid (below_alloc1 w (.cells #[.int .i64 k, .int .i64 s] 26))
  have Hb := Lib.hid hb
  obtain ⟨c0, c1, _, _⟩ := hb.two
  clear hb
  generalize kindS s = K at *
  go_enter Tryz.func67, Tryz.ntmps67
  go_wp2_with fail
  refine (hC.out _).mono ?_
  rintro e w2 ⟨rfl, hB2⟩
  have HB2 := Lib.hid (HB.out.trans (hB2.mono HB.out.size))
  have Hb2 := Lib.hid (Hb.out.below hB2)
  clear hB2 c0 c1
  obtain ⟨c0, c1, _, _⟩ := Hb2.out.two
  by_cases h0 : K = 0
  · have e0 : (K != 0) = false := by simpa using h0
    have F := Lib.hid (fin.out false (by simp [h0]))
    clear h0
    go_wp2
    go_ret
    exact ⟨F.out, HB2.out⟩
  · have e0 : (K != 0) = true := by simpa using h0
    by_cases h1 : k = K
    · have e1 : (k == K) = true := by simpa using h1
      have F := Lib.hid (fin.out true (by simp [h0, h1]))
      clear h0 h1
      go_wp2
      go_ret
      exact ⟨F.out, HB2.out⟩
    · have e1 : (k == K) = false := by simpa using h1
      have F := Lib.hid (fin.out (k == 24) (by simp [h0, h1]))
      clear h0 h1
      go_wp2
      go_ret
      exact ⟨F.out, HB2.out⟩

/-! ### Kc -/
set_option maxHeartbeats 800000 in
theorem ckIsDigit (x : Int) (w : World) :
    Calls Tryz.prog 78 #[.int .u8 x] w fun e w' => e = .returned (.bool (isd x)) ∧ w = w' := by
  by_cases h1 : 48 ≤ x
  · have e1 : decide (48 ≤ x) = true := by simpa using h1
    have fin : Hid (Ending.returned (.bool (decide (x ≤ 57))) = .returned (.bool (isd x))) := by simp [Hid, isd, h1]
    clear h1
    go_enter Tryz.func78, Tryz.ntmps78
    go_wp2
    go_ret
    exact ⟨fin.out, rfl⟩
  · have e1 : decide (48 ≤ x) = false := by simpa using h1
    have fin : Hid (Ending.returned (.bool false) = .returned (.bool (isd x))) := by simp [Hid, isd, h1]
    clear h1
    go_enter Tryz.func78, Tryz.ntmps78
    go_wp2
    go_ret
    exact ⟨fin.out, rfl⟩

/-- What next hands back: 0 where the digits are none. -/
def vz (l : List UInt8) (i : Nat) : Int := if 0 ≤ d2 l i then d2 l i else 0
theorem vz_range (l : List UInt8) (i : Nat) : 0 ≤ vz l i ∧ vz l i ≤ 99 := by
  have := d2_range l i; unfold vz; split <;> omega
def okd (l : List UInt8) (i : Nat) : Bool := decide (0 ≤ d2 l i)

set_option maxHeartbeats 1600000 in
theorem ckPair (A : Option Addr) (n c i : Nat) (l : List UInt8) (w : World) (h : Bs w A n l) (hi : i ≤ 1000) (hn : n ≤ 1099511627776) :
    Calls Tryz.prog 59 #[.slice A n c, .int .i64 (i : Int)] w fun e w' => e = .returned (.tuple #[.int .i64 (vz l i), .bool (okd l i)]) ∧ Qt w w' := by
  have hl := h.len
  have fin : Hid (∀ q r, q = vz l i → r = okd l i → Ending.returned (.tuple #[.int .i64 q, .bool r]) = .returned (.tuple #[.int .i64 (vz l i), .bool (okd l i)])) := by rintro q r rfl rfl; rfl
  have HD := Lib.hid ckIsDigit
  by_cases h0 : n < i + 2
  · have F := Lib.hid (fin.out 0 false (by unfold vz; rw [d2_end (by omega)]; rfl) (by unfold okd; rw [d2_end (by omega)]; rfl))
    have e0 : decide ((i : Int) + 2 > (n : Int)) = true := by simp; omega
    have e0' : decide ((n : Int) < (i : Int) + 2) = true := by simp; omega
    clear h0 hl
    go_enter Tryz.func59, Tryz.ntmps59
    go_wp2
    go_ret2
    exact ⟨F.out, Qt.refl _⟩
  · obtain ⟨b, o, rfl, hc⟩ := h.at_ (k := i) (by omega)
    obtain ⟨b', o', hbo, hc2⟩ := h.at_ (k := i + 1) (by omega)
    cases hbo
    have hb1 := nth_bound l i
    have hb2 := nth_bound l (i + 1)
    have e0 : decide ((i : Int) + 2 > (n : Int)) = false := by simp; omega
    have e0' : decide ((n : Int) < (i : Int) + 2) = false := by simp; omega
    have i1 : (i : Int) < n := by omega
    have i2 : (i : Int) + 1 < n := by omega
    have fin2 : Hid (∀ q r, q = (if (isd (nth l i) && isd (nth l (i + 1))) = true then 10 * (nth l i - 48) + (nth l (i + 1) - 48) else 0) → r = (isd (nth l i) && isd (nth l (i + 1))) →
        Ending.returned (.tuple #[.int .i64 q, .bool r]) = .returned (.tuple #[.int .i64 (vz l i), .bool (okd l i)])) := by
      intro q r hq hr
      refine fin.out q r ?_ ?_
      · rw [hq]; unfold vz d2
        by_cases g : (isd (nth l i) && isd (nth l (i + 1))) = true
        · rw [if_pos g, if_pos g]; simp [isd] at g; rw [if_pos (by omega)]
        · rw [if_neg g, if_neg g]; rfl
      · rw [hr]; unfold okd d2
        by_cases g : (isd (nth l i) && isd (nth l (i + 1))) = true
        · rw [if_pos g, g]; simp [isd] at g; symm; simp; omega
        · rw [if_neg g]; simp at g ⊢; exact g
    generalize nth l i = x at *
    generalize nth l (i + 1) = y at *
    clear h0 hl fin h
    go_enter Tryz.func59, Tryz.ntmps59
    go_wp2_with fail
    refine (HD.out _ _).mono ?_
    rintro e w2 ⟨rfl, rfl⟩
    by_cases d1 : isd x = true
    · go_wp2_with fail
      refine (HD.out _ _).mono ?_
      rintro e w3 ⟨rfl, rfl⟩
      by_cases d2' : isd y = true
      · have r1 : 48 ≤ x ∧ x ≤ 57 := by simpa [isd] using d1
        have r2 : 48 ≤ y ∧ y ≤ 57 := by simpa [isd] using d2'
        have F := Lib.hid (fin2.out (10 * (x - 48) + (y - 48)) true (by rw [d1, d2']; rfl) (by rw [d1, d2']; rfl))
        have W1 : (x - 48) % 256 = x - 48 := by omega
        have W2 : (y - 48) % 256 = y - 48 := by omega
        go_wp2_with fail
        go_quiet (fail)
        go_wp2
        go_ret2
        exact ⟨F.out, Qt.of _ _⟩
      · have d3 : isd y = false := by simpa using d2'
        have F := Lib.hid (fin2.out 0 false (by rw [d1, d3]; rfl) (by rw [d1, d3]; rfl))
        go_wp2
        go_ret2
        exact ⟨F.out, Qt.refl _⟩
    · have d3 : isd x = false := by simpa using d1
      have F := Lib.hid (fin2.out 0 false (by rw [d3]; rfl) (by rw [d3]; rfl))
      go_wp2
      go_ret2
      exact ⟨F.out, Qt.refl _⟩

set_option maxHeartbeats 1600000 in
theorem ckIsLast (A : Option Addr) (n c i : Nat) (x : UInt8) (v : Int) (l : List UInt8) (w : World) (h : Bs w A n l) (hi : i ≤ 1000) (hv : v = (x.toNat : Int)) :
    Calls Tryz.prog 62 #[.slice A n c, .int .i64 (i : Int), .int .u8 v] w fun e w' => e = .returned (.bool (decide (l.length = i + 1 ∧ nth l i = v))) ∧ w = w' := by
  have hl := h.len
  clear hv
  have fin : Hid (∀ q : Bool, (q = true ↔ (l.length = i + 1 ∧ nth l i = v)) → Ending.returned (.bool q) = .returned (.bool (decide (l.length = i + 1 ∧ nth l i = v)))) := by
    intro q hq; rw [bool_dec hq]
  by_cases h0 : n = i + 1
  · obtain ⟨b, o, rfl, hc⟩ := h.at_ (k := i) (by omega)
    have F := Lib.hid (fin.out (nth l i == v) (by simp; omega))
    have e0 : (((i : Int) + 1) == (n : Int)) = true := by simp; omega
    have i1 : (i : Int) < n := by omega
    generalize nth l i = y at *
    clear h0 hl fin h
    go_enter Tryz.func62, Tryz.ntmps62
    go_wp2
    go_ret
    exact ⟨F.out, rfl⟩
  · have F := Lib.hid (fin.out false (by simp; omega))
    have e0 : (((i : Int) + 1) == (n : Int)) = false := by simp; omega
    clear h0 hl fin h
    go_enter Tryz.func62, Tryz.ntmps62
    go_wp2
    go_ret
    exact ⟨F.out, rfl⟩

/-- A reader in memory. -/
def RdrS (w : World) (R : Nat) (A : Option Addr) (n c i : Nat) (f : Bool) : Prop := Blk w R 84 [.slice A n c, .int .i64 (i : Int), .bool f]

set_option maxHeartbeats 1600000 in
theorem ckNext (R : Nat) (A : Option Addr) (n c i : Nat) (f : Bool) (l : List UInt8) (w : World) (hR : RdrS w R A n c i f) (h : Bs w A n l) (hi : i ≤ 1000) (hn : n ≤ 1099511627776) :
    Calls Tryz.prog 41 #[.pointer (some ⟨R, 0, none⟩)] w fun e w' => e = .returned (.int .i64 (vz l i)) ∧ RdrS w' R A n c (i + 2) (f || !okd l i) ∧ Only R w w' := by
  have hP := Lib.hid (fun W (h : Bs W A n l) => ckPair A n c i l W h hi hn)
  have hr := vz_range l i
  unfold RdrS at *
  have H := Lib.hid hR
  have HB := Lib.hid h
  obtain ⟨c0, c1, c2⟩ := hR.three
  have f0 := hR.free 1
  have f1 := hR.free 2
  generalize vz l i = V at *
  generalize okd l i = O at *
  clear hR h
  go_enter Tryz.func41, Tryz.ntmps41
  go_wp2_with fail
  go_quiet ((go_at_call 59; first | exact quietQ (hP.out _ (HB.out.drewN _)) | exact quietQ (hP.out _ HB.out)))
  generalize hW : w.drewN _ = W at *
  have H2 : Hid (Blk W R 84 [.slice A n c, .int .i64 (i : Int), .bool f]) := hW ▸ H.out.drewN _
  have hon : Hid (Only R w W) := hW ▸ Only.of_qt (Qt.of _ _)
  clear hW c0 c1 c2 f0 f1
  obtain ⟨c0, c1, c2⟩ := H2.out.three
  have f0 := H2.out.free 1
  have f1 := H2.out.free 2
  have hi2 : Hid ((i : Int) + 2 = ((i + 2 : Nat) : Int)) := by unfold Hid; omega
  cases f with
  | true =>
    go_wp2
    go_ret
    refine ⟨rfl, ?_, (hon.out.setCell rfl _).setCell rfl _⟩
    rw [← hi2.out]
    exact (H2.out.set 1 _).set 2 _
  | false =>
    go_wp2
    go_ret
    refine ⟨rfl, ?_, (hon.out.setCell rfl _).setCell rfl _⟩
    rw [← hi2.out]
    exact (H2.out.set 1 _).set 2 _

set_option maxHeartbeats 1600000 in
theorem ckDone (R : Nat) (A : Option Addr) (n c i : Nat) (f : Bool) (l : List UInt8) (w : World) (hR : RdrS w R A n c i f) (h : Bs w A n l) (hi : i ≤ 1000) (hn : n ≤ 1099511627776) :
    Calls Tryz.prog 43 #[.pointer (some ⟨R, 0, none⟩)] w fun e w' => e = .returned (.bool (decide (f = false ∧ l.length = i + 1 ∧ nth l i = 90))) ∧ Qt w w' := by
  have hP := Lib.hid (fun W (h : Bs W A n l) => ckIsLast A n c i 90 90 l W h hi rfl)
  have fin : Hid (∀ q : Bool, (q = true ↔ (f = false ∧ l.length = i + 1 ∧ nth l i = 90)) → Ending.returned (.bool q) = .returned (.bool (decide (f = false ∧ l.length = i + 1 ∧ nth l i = 90)))) := by
    intro q hq; rw [bool_dec hq]
  unfold RdrS at *
  have HB := Lib.hid h
  obtain ⟨c0, c1, c2⟩ := hR.three
  clear hR h
  cases f with
  | true =>
    have F := Lib.hid (fin.out false (by simp))
    go_enter Tryz.func43, Tryz.ntmps43
    go_wp2_with fail
    go_quiet (fail)
    go_wp2
    go_ret
    exact ⟨F.out, Qt.of _ _⟩
  | false =>
    have F := Lib.hid (fin.out (decide (l.length = i + 1 ∧ nth l i = 90)) (by simp))
    generalize decide (l.length = i + 1 ∧ nth l i = 90) = D at *
    go_enter Tryz.func43, Tryz.ntmps43
    go_wp2_with fail
    go_quiet ((go_at_call 62; first | exact quietE (hP.out _ (HB.out.drewN _)) | exact quietE (hP.out _ HB.out)))
    go_wp2
    go_ret
    exact ⟨F.out, Qt.of _ _⟩

/-! ### Kd -/
/-- The year that the reader hands back. -/
def yrP (k : Int) (l : List UInt8) : Int := if k = 24 then 100 * vz l 0 + vz l 2 else if vz l 0 < 50 then 2000 + vz l 0 else 1900 + vz l 0
/-- All digits are there. -/
def AllD (k : Int) (l : List UInt8) : Prop :=
  (((((0 ≤ d2 l 0 ∧ (k = 24 → 0 ≤ d2 l 2)) ∧ 0 ≤ d2 l (offK k)) ∧ 0 ≤ d2 l (offK k + 2)) ∧ 0 ≤ d2 l (offK k + 4)) ∧ 0 ≤ d2 l (offK k + 6)) ∧ 0 ≤ d2 l (offK k + 8)
theorem vz_ok {l : List UInt8} {i : Nat} (h : 0 ≤ d2 l i) : vz l i = d2 l i := if_pos h
theorem yrP_range (k : Int) (l : List UInt8) : 0 ≤ yrP k l ∧ yrP k l ≤ 9999 := by
  have h0 := vz_range l 0
  have h2 := vz_range l 2
  unfold yrP
  repeat' split
  all_goals omega
theorem prs_link (k : Int) (l : List UInt8) :
    ((AllD k l ∧ l.length = offK k + 11 ∧ nth l (offK k + 10) = 90) ∧ RgtC (yrP k l) (vz l (offK k)) (vz l (offK k + 2)) (vz l (offK k + 4)) (vz l (offK k + 6)) (vz l (offK k + 8)) ↔ PrsC k l) ∧
    (PrsC k l → sec (yrP k l) (vz l (offK k)) (vz l (offK k + 2)) (vz l (offK k + 4)) (vz l (offK k + 6)) (vz l (offK k + 8)) = secC k l) := by
  have hy : (0 ≤ d2 l 0 ∧ (k = 24 → 0 ≤ d2 l 2)) → yrP k l = yrS k l := by
    rintro ⟨h1, h2⟩
    unfold yrP yrS
    by_cases g : k = 24
    · rw [if_pos g, if_pos g, vz_ok h1, vz_ok (h2 g), if_neg (by have := h2 g; omega)]
    · rw [if_neg g, if_neg g, vz_ok h1, if_neg (show ¬ d2 l 0 < 0 by omega)]
  have hback : PrsC k l → AllD k l := by
    rintro ⟨_, _, hr⟩
    have hn := rgtC_nonneg hr
    refine ⟨⟨⟨⟨⟨?_, hn.2.1⟩, hn.2.2.1⟩, hn.2.2.2.1⟩, hn.2.2.2.2.1⟩, hn.2.2.2.2.2⟩
    have := hn.1
    unfold yrS at this
    by_cases g : k = 24
    · rw [if_pos g] at this
      by_cases g2 : d2 l 0 < 0 ∨ d2 l 2 < 0
      · rw [if_pos g2] at this; omega
      · exact ⟨by omega, fun _ => by omega⟩
    · rw [if_neg g] at this
      by_cases g2 : d2 l 0 < 0
      · rw [if_pos g2] at this; omega
      · exact ⟨by omega, fun h => absurd h g⟩
  constructor
  · constructor
    · rintro ⟨⟨⟨⟨⟨⟨⟨h0, h1⟩, h2⟩, h3⟩, h4⟩, h5⟩, hl, hz⟩, hr⟩
      rw [hy h0, vz_ok h1, vz_ok h2, vz_ok h3, vz_ok h4, vz_ok h5] at hr
      exact ⟨hl, hz, hr⟩
    · intro hp
      have ha := hback hp
      refine ⟨⟨ha, hp.1, hp.2.1⟩, ?_⟩
      obtain ⟨⟨⟨⟨⟨h0, h1⟩, h2⟩, h3⟩, h4⟩, h5⟩ := ha
      rw [hy h0, vz_ok h1, vz_ok h2, vz_ok h3, vz_ok h4, vz_ok h5]
      exact hp.2.2
  · intro hp
    obtain ⟨⟨⟨⟨⟨h0, h1⟩, h2⟩, h3⟩, h4⟩, h5⟩ := hback hp
    rw [hy h0, vz_ok h1, vz_ok h2, vz_ok h3, vz_ok h4, vz_ok h5]
    rfl

/-- While Parse reads. -/
def PS (w : World) (R T : Nat) (A : Option Addr) (n c : Nat) (l : List UInt8) (i : Nat) (f : Bool) (W : World) : Prop :=
  RdrS W R A n c i f ∧ Bs W A n l ∧ Blk W T 26 [.int .i64 0, .int .i64 0] ∧ Below w.heap.size w W
theorem RdrS.noB {W : World} {R : Nat} {A : Option Addr} {n c i : Nat} {f : Bool} (h : RdrS W R A n c i f) : ∀ o (x : UInt8), W.cell? ⟨R, o, none⟩ ≠ some (.int .u8 (x.toNat : Int)) := by
  intro o x
  unfold RdrS at h
  rw [h.cell]
  rcases o with _ | _ | _ | o <;> simp
theorem PS.only {w : World} {R T : Nat} {A : Option Addr} {n c : Nat} {l : List UInt8} {i i' : Nat} {f f' : Bool} {W W' : World} (h : PS w R T A n c l i f W) (hRT : T ≠ R) (hR : w.heap.size ≤ R)
    (hr : RdrS W' R A n c i' f') (ho : Only R W W') : PS w R T A n c l i' f' W' :=
  ⟨hr, h.2.1.only ho h.1.noB, h.2.2.1.only ho hRT, ho.below h.2.2.2 hR h.2.2.2.size⟩
theorem PS.below {w : World} {R T : Nat} {A : Option Addr} {n c : Nat} {l : List UInt8} {i : Nat} {f : Bool} {W W' : World} (h : PS w R T A n c l i f W) (hb : Below W.heap.size W W') : PS w R T A n c l i f W' :=
  ⟨Blk.below h.1 hb, h.2.1.below hb, h.2.2.1.below hb, h.2.2.2.trans (hb.mono h.2.2.2.size)⟩
theorem PS.next {w : World} {R T : Nat} {A : Option Addr} {n c : Nat} {l : List UInt8} {i : Nat} {f : Bool} {W : World} (h : PS w R T A n c l i f W) (hRT : T ≠ R) (hR : w.heap.size ≤ R) (hi : i ≤ 1000) (hn : n ≤ 1099511627776) :
    Calls Tryz.prog 41 #[.pointer (some ⟨R, 0, none⟩)] W fun e w' => e = .returned (.int .i64 (vz l i)) ∧ PS w R T A n c l (i + 2) (f || !okd l i) w' := by
  refine (ckNext R A n c i f l W h.1 h.2.1 hi hn).mono ?_
  rintro e w' ⟨rfl, hr, ho⟩
  exact ⟨rfl, h.only hRT hR hr ho⟩

set_option maxHeartbeats 1600000 in
theorem PS.year {w : World} {R T : Nat} {A : Option Addr} {n c : Nat} {l : List UInt8} {W : World} (k : Int) (h : PS w R T A n c l 0 false W) (hRT : T ≠ R) (hR : w.heap.size ≤ R) (hn : n ≤ 1099511627776) :
    Calls Tryz.prog 40 #[.pointer (some ⟨R, 0, none⟩), .int .i64 k] W fun e w' => e = .returned (.int .i64 (yrP k l)) ∧ ∃ f, PS w R T A n c l (offK k) f w' ∧ (f = false ↔ (0 ≤ d2 l 0 ∧ (k = 24 → 0 ≤ d2 l 2))) := by
  have N1 := Lib.hid (fun W (h : PS w R T A n c l 0 false W) => h.next hRT hR (by omega) hn)
  have N2 := Lib.hid (fun W f (h : PS w R T A n c l 2 f W) => h.next hRT hR (by omega) hn)
  have fin : Hid (∀ q, q = yrP k l → Ending.returned (.int .i64 q) = .returned (.int .i64 (yrP k l))) := by rintro q rfl; rfl
  have ok0 : Hid (∀ f : Bool, (f || !okd l 0) = false ↔ (f = false ∧ 0 ≤ d2 l 0)) := by intro f; simp [okd]
  have ok2 : Hid (∀ f : Bool, (f || !okd l 2) = false ↔ (f = false ∧ 0 ≤ d2 l 2)) := by intro f; simp [okd]
  have r0 := vz_range l 0
  have r2 := vz_range l 2
  by_cases hk : k = 24
  · subst hk
    have FY : Hid (yrP 24 l = 100 * vz l 0 + vz l 2) := rfl
    generalize vz l 0 = V0 at *
    generalize vz l 2 = V2 at *
    go_enter Tryz.func40, Tryz.ntmps40
    go_wp2_with fail
    refine (N1.out _ h).mono ?_
    rintro e w2 ⟨rfl, h2⟩
    have H2 := Lib.hid h2
    clear h2
    go_wp2_with fail
    refine (N2.out _ _ H2.out).mono ?_
    rintro e w3 ⟨rfl, h3⟩
    have H3 := Lib.hid h3
    clear h3
    go_wp2
    go_ret
    refine ⟨fin.out _ FY.out.symm, _, H3.out, ?_⟩
    rw [ok2.out, ok0.out]; simp
  · have e1 : (k == 24) = false := by simpa using hk
    have hO : offK k = 2 := if_neg hk
    have FY : Hid (yrP k l = if vz l 0 < 50 then 2000 + vz l 0 else 1900 + vz l 0) := if_neg hk
    have HO := Lib.hid hO
    have HK := Lib.hid hk
    generalize vz l 0 = V0 at *
    clear hO hk r2
    by_cases g : V0 < 50
    · have FY2 := Lib.hid (FY.out.trans (if_pos g))
      have e2 : decide (V0 + 1900 < 1950) = true := by simp; omega
      go_enter Tryz.func40, Tryz.ntmps40
      go_wp2_with fail
      refine (N1.out _ h).mono ?_
      rintro e w2 ⟨rfl, h2⟩
      have H2 := Lib.hid h2
      clear h2
      go_wp2
      go_ret
      refine ⟨fin.out _ (by rw [FY2.out]; omega), _, by rw [HO.out]; exact H2.out, ?_⟩
      have hk := HK.out
      rw [ok0.out]; simp [hk]
    · have FY2 := Lib.hid (FY.out.trans (if_neg g))
      have e2 : decide (V0 + 1900 < 1950) = false := by simp; omega
      go_enter Tryz.func40, Tryz.ntmps40
      go_wp2_with fail
      refine (N1.out _ h).mono ?_
      rintro e w2 ⟨rfl, h2⟩
      have H2 := Lib.hid h2
      clear h2
      go_wp2
      go_ret
      refine ⟨fin.out _ (by rw [FY2.out]; omega), _, by rw [HO.out]; exact H2.out, ?_⟩
      have hk := HK.out
      rw [ok0.out]; simp [hk]

/-! ### Ke -/
/-- What Parse hands back. -/
def prsE (r : Int × Int × Int) : Ending := .returned (.tuple #[tmv r.1 r.2.1, .int .i64 r.2.2])
theorem PS.put {w : World} {R T : Nat} {A : Option Addr} {n c : Nat} {l : List UInt8} {i : Nat} {f : Bool} {W : World} (h : PS w R T A n c l i f W) (hT : w.heap.size ≤ T) (a b : Int) :
    Blk ((W.setCell ⟨T, 0, none⟩ (.int .i64 a)).setCell ⟨T, 1, none⟩ (.int .i64 b)) T 26 [.int .i64 a, .int .i64 b] ∧ Below w.heap.size w ((W.setCell ⟨T, 0, none⟩ (.int .i64 a)).setCell ⟨T, 1, none⟩ (.int .i64 b)) :=
  ⟨h.2.2.1.put _ _, below_set2 h.2.2.2 h.2.2.2.size hT _ _⟩

set_option maxHeartbeats 3200000 in
theorem ckParse (k : Int) (A : Option Addr) (n c : Nat) (l : List UInt8) (w : World) (h : Bs w A n l) (hn : n ≤ 1099511627776) :
    Calls Tryz.prog 23 #[.int .i64 k, .slice A n c] w fun e w' => e = prsE (prsV k l) ∧ Below w.heap.size w w' := by
  have HI := Lib.hid (fun W => ckIsKind k W)
  have b1 := Blk.two_new w (.int .i64 0) (.int .i64 0) 26
  by_cases hk : k = 23 ∨ k = 24
  rotate_left
  · have F : Hid (prsV k l = (0, 0, 1)) := if_neg hk
    have e1 : decide (k = 23 ∨ k = 24) = false := by simpa using hk
    have hP := b1.put (.int .i64 0) (.int .i64 0)
    have hB := below_set2 (below_alloc1 w (.cells #[.int .i64 0, .int .i64 0] 26)) (by simp) (Nat.le_refl w.heap.size) (.int .i64 0) (.int .i64 0)
    have HB := Lib.hid hB
    obtain ⟨c0, c1, f0, f1⟩ := b1.two
    obtain ⟨d0, d1, _, _⟩ := hP.two
    clear hk b1 hP hB
    go_enter Tryz.func23, Tryz.ntmps23
    go_wp2_with fail
    refine (HI.out _).mono ?_
    rintro e w2 ⟨rfl, rfl⟩
    rw [e1]
    go_wp2
    rw [F.out]
    refine bodyPost_ret (v := .tuple #[.agg #[.int .i64 0, .int .i64 0], .int .i64 1]) (by simp [results, Tryz.results23, go_sem, c0, c1, d0, d1]) rfl ?_
    first | exact ⟨rfl, HB.out⟩ | exact ⟨rfl, below_alloc1 _ _⟩
  obtain ⟨l1, l2⟩ := prs_link k l
  have e1 : decide (k = 23 ∨ k = 24) = true := by simpa using hk
  have fin : Hid (∀ f : Bool, (f = false ↔ AllD k l) → (if RgtC (yrP k l) (vz l (offK k)) (vz l (offK k + 2)) (vz l (offK k + 4)) (vz l (offK k + 6)) (vz l (offK k + 8)) ∧ (f = false ∧ l.length = offK k + 10 + 1 ∧ nth l (offK k + 10) = 90) then
      prsV k l = (k, sec (yrP k l) (vz l (offK k)) (vz l (offK k + 2)) (vz l (offK k + 4)) (vz l (offK k + 6)) (vz l (offK k + 8)), 0) else prsV k l = (0, 0, 6))) := by
    intro f hf
    by_cases g : RgtC (yrP k l) (vz l (offK k)) (vz l (offK k + 2)) (vz l (offK k + 4)) (vz l (offK k + 6)) (vz l (offK k + 8)) ∧ (f = false ∧ l.length = offK k + 10 + 1 ∧ nth l (offK k + 10) = 90)
    · rw [if_pos g]
      have hp : PrsC k l := l1.1 ⟨⟨hf.1 g.2.1, g.2.2.1, g.2.2.2⟩, g.1⟩
      unfold prsV
      rw [if_pos hk, if_pos hp, l2 hp]
    · rw [if_neg g]
      have hp : ¬ PrsC k l := fun hp => g (by have := l1.2 hp; exact ⟨this.2, hf.2 this.1.1, this.1.2.1, this.1.2.2⟩)
      unfold prsV
      rw [if_pos hk, if_neg hp]
  clear l1 l2
  have hO : offK k ≤ 4 := by unfold offK; split <;> omega
  have ry := yrP_range k l
  have r1 := vz_range l (offK k)
  have r2 := vz_range l (offK k + 2)
  have r3 := vz_range l (offK k + 4)
  have r4 := vz_range l (offK k + 6)
  have r5 := vz_range l (offK k + 8)
  have SN := Lib.hid (fun W (hr : ¬ RgtC (yrP k l) (vz l (offK k)) (vz l (offK k + 2)) (vz l (offK k + 4)) (vz l (offK k + 6)) (vz l (offK k + 8))) => dtSecondNo _ _ _ _ _ _ W (by unfold I64; omega) (by unfold I64; omega) (by unfold I64; omega) hr)
  have SY := Lib.hid (fun W (hr : RgtC (yrP k l) (vz l (offK k)) (vz l (offK k + 2)) (vz l (offK k + 4)) (vz l (offK k + 6)) (vz l (offK k + 8))) => dtSecondYes _ _ _ _ _ _ W hr)
  have hT : w.heap.size ≠ w.heap.size + 1 := by omega
  have hw1 : (w.alloc (.cells #[.int .i64 0, .int .i64 0] 26)).heap.size = w.heap.size + 1 := by simp
  have NX := Lib.hid (fun i f W (h : PS w (w.heap.size + 1) w.heap.size A n c l i f W) (hi : i ≤ 1000) => h.next hT (Nat.le_succ _) hi hn)
  have YR := Lib.hid (fun W (h : PS w (w.heap.size + 1) w.heap.size A n c l 0 false W) => h.year k hT (Nat.le_succ _) hn)
  have DN := Lib.hid (fun i f W (h : PS w (w.heap.size + 1) w.heap.size A n c l i f W) (hi : i ≤ 1000) => ckDone (w.heap.size + 1) A n c i f l W h.1 h.2.1 hi hn)
  have P0 : Hid (PS w (w.heap.size + 1) w.heap.size A n c l 0 false ((w.alloc (.cells #[.int .i64 0, .int .i64 0] 26)).alloc (.cells #[.slice A n c, .int .i64 0, .bool false] 84))) := by
    have hx := Blk.three_new (w.alloc (.cells #[.int .i64 0, .int .i64 0] 26)) (.slice A n c) (.int .i64 0) (.bool false) 84
    rw [hw1] at hx
    exact ⟨hx, h.below (below_alloc2 _ _ _), b1.alloc _, below_alloc2 _ _ _⟩
  have PUT := Lib.hid (fun i f W (h : PS w (w.heap.size + 1) w.heap.size A n c l i f W) (a b : Int) => h.put (Nat.le_refl _) a b)
  have FT := Lib.hid (fun i f W (h : PS w (w.heap.size + 1) w.heap.size A n c l i f W) => h.2.2.1.two)
  clear hk b1 h hT ry r1 r2 r3 r4 r5
  unfold cv at SN SY
  go_enter Tryz.func23, Tryz.ntmps23
  go_wp2_with fail
  refine (HI.out _).mono ?_
  rintro e w2 ⟨rfl, rfl⟩
  rw [e1]
  clear e1
  go_wp2_with fail
  generalize ((w.alloc (.cells #[.int .i64 0, .int .i64 0] 26)).alloc (.cells #[.slice A n c, .int .i64 0, .bool false] 84)) = W0 at *
  generalize yrP k l = Y at *
  clear hw1
  refine (YR.out _ P0.out).mono ?_
  rintro e w1 ⟨rfl, f1, p1, q1⟩
  have P1 := Lib.hid p1
  have Q1 := Lib.hid q1
  clear p1 q1 P0
  go_wp2_with fail
  refine (NX.out _ _ _ P1.out (by omega)).mono ?_
  rintro e w2 ⟨rfl, p2⟩
  have P2 := Lib.hid p2
  clear p2 P1
  go_wp2_with fail
  refine (NX.out _ _ _ P2.out (by omega)).mono ?_
  rintro e w3 ⟨rfl, p3⟩
  have P3 := Lib.hid p3
  clear p3 P2
  go_wp2_with fail
  refine (NX.out _ _ _ P3.out (by omega)).mono ?_
  rintro e w4 ⟨rfl, p4⟩
  have P4 := Lib.hid p4
  clear p4 P3
  go_wp2_with fail
  refine (NX.out _ _ _ P4.out (by omega)).mono ?_
  rintro e w5 ⟨rfl, p5⟩
  have P5 := Lib.hid p5
  clear p5 P4
  go_wp2_with fail
  refine (NX.out _ _ _ P5.out (by omega)).mono ?_
  rintro e w6 ⟨rfl, p6⟩
  have P6 := Lib.hid p6
  clear p6 P5
  obtain ⟨F, hF⟩ : ∃ F, F = (((((f1 || !okd l (offK k)) || !okd l (offK k + 2)) || !okd l (offK k + 2 + 2)) || !okd l (offK k + 2 + 2 + 2)) || !okd l (offK k + 2 + 2 + 2 + 2)) := ⟨_, rfl⟩
  have FA : Hid (F = false ↔ AllD k l) := by
    have hx := Q1.out
    unfold Hid AllD
    rw [hF, ← hx]
    simp [okd]
  rw [← hF] at P6
  have fin2 := Lib.hid (fin.out F FA.out)
  clear hF FA fin Q1
  generalize vz l (offK k) = M at *
  rw [show offK k + 2 + 2 = offK k + 4 from rfl, show offK k + 4 + 2 = offK k + 6 from rfl, show offK k + 6 + 2 = offK k + 8 from rfl, show offK k + 8 + 2 = offK k + 10 from rfl] at *
  generalize vz l (offK k + 2) = D at *
  generalize vz l (offK k + 4) = a at *
  generalize vz l (offK k + 6) = b at *
  generalize vz l (offK k + 8) = s at *
  have hi0 : offK k + 10 ≤ 14 := by omega
  generalize offK k + 10 = i0 at *
  have hb := Blk.six_new w6 (.int .i64 Y) (.int .i64 M) (.int .i64 D) (.int .i64 a) (.int .i64 b) (.int .i64 s) 87
  obtain ⟨c0, c1, c2, c3, c4, c5⟩ := hb.six
  have P7 := Lib.hid (P6.out.below (below_alloc1 w6 (.cells #[.int .i64 Y, .int .i64 M, .int .i64 D, .int .i64 a, .int .i64 b, .int .i64 s] 87)))
  clear hb P6
  go_wp2_with fail
  generalize w6.alloc (.cells #[.int .i64 Y, .int .i64 M, .int .i64 D, .int .i64 a, .int .i64 b, .int .i64 s] 87) = w7 at *
  by_cases hr : RgtC Y M D a b s
  rotate_left
  · refine (SN.out _ hr).mono ?_
    rintro e w8 ⟨rfl, hB8⟩
    have E0 : Hid (prsV k l = (0, 0, 6)) := by have := fin2.out; rw [if_neg (fun h => hr h.1)] at this; exact this
    have P8 := Lib.hid (P7.out.below hB8)
    obtain ⟨z0, z1, g0, g1⟩ := FT.out _ _ _ P8.out
    obtain ⟨pb, pB⟩ := PUT.out _ _ _ P8.out 0 0
    have PB := Lib.hid pB
    obtain ⟨d0, d1, _, _⟩ := pb.two
    clear c0 c1 c2 c3 c4 c5 hB8 P7 fin2 hr pB pb SN SY NX YR DN PUT FT
    go_wp2
    rw [E0.out]
    refine bodyPost_ret (v := .tuple #[.agg #[.int .i64 0, .int .i64 0], .int .i64 6]) (by simp [results, Tryz.results23, go_sem, z0, z1, d0, d1]) rfl ?_
    exact ⟨rfl, PB.out⟩
  refine (SY.out _ hr).mono ?_
  rintro e w8 ⟨rfl, hB8⟩
  have P8 := Lib.hid (P7.out.below hB8)
  have fin3 := fin2.out
  simp only [hr, true_and] at fin3
  have E0 := Lib.hid fin3
  generalize sec Y M D a b s = V at *
  clear c0 c1 c2 c3 c4 c5 hB8 P7 fin2 hr fin3 SN SY NX YR
  go_wp2_with fail
  refine (DN.out _ _ _ P8.out (by omega)).mono ?_
  rintro e w9 ⟨rfl, hq⟩
  have P9 := Lib.hid (P8.out.below hq.below)
  obtain ⟨z0, z1, g0, g1⟩ := FT.out _ _ _ P9.out
  clear hq P8
  by_cases hf : F = false ∧ l.length = i0 + 1 ∧ nth l i0 = 90
  · have E1 : Hid (prsV k l = (k, V, 0)) := by have := E0.out; rw [if_pos hf] at this; exact this
    have e2 : decide (F = false ∧ l.length = i0 + 1 ∧ nth l i0 = 90) = true := by simpa using hf
    obtain ⟨pb, pB⟩ := PUT.out _ _ _ P9.out k V
    have PB := Lib.hid pB
    obtain ⟨d0, d1, _, _⟩ := pb.two
    rw [e2]
    clear E0 hf pB pb DN PUT FT e2
    go_wp2
    rw [E1.out]
    refine bodyPost_ret (v := .tuple #[.agg #[.int .i64 k, .int .i64 V], .int .i64 0]) (by simp [results, Tryz.results23, go_sem, d0, d1]) rfl ?_
    exact ⟨rfl, PB.out⟩
  · have E1 : Hid (prsV k l = (0, 0, 6)) := by have := E0.out; rw [if_neg hf] at this; exact this
    have e2 : decide (F = false ∧ l.length = i0 + 1 ∧ nth l i0 = 90) = false := by simpa using hf
    obtain ⟨pb, pB⟩ := PUT.out _ _ _ P9.out 0 0
    have PB := Lib.hid pB
    obtain ⟨d0, d1, _, _⟩ := pb.two
    rw [e2]
    clear E0 hf pB pb DN PUT FT e2
    go_wp2
    rw [E1.out]
    refine bodyPost_ret (v := .tuple #[.agg #[.int .i64 0, .int .i64 0], .int .i64 6]) (by simp [results, Tryz.results23, go_sem, d0, d1]) rfl ?_
    exact ⟨rfl, PB.out⟩

/-! ### Kf -/
def twL (zs : List Int) : List UInt8 := (zs.map tw).flatten
theorem twL_take {zs : List Int} {k : Nat} {z : Int} (h : zs[k]? = some z) : twL (zs.take (k + 1)) = twL (zs.take k) ++ tw z := by
  have hk : k < zs.length := by
    rcases Nat.lt_or_ge k zs.length with q | q
    · exact q
    · rw [List.getElem?_eq_none q] at h; cases h
  have hz : zs[k] = z := by rw [List.getElem?_eq_getElem hk] at h; exact Option.some.inj h
  unfold twL
  rw [List.take_succ_eq_append_getElem hk, hz]
  simp
theorem twL_len (zs : List Int) : (twL zs).length = 2 * zs.length := by
  unfold twL
  induction zs with
  | nil => rfl
  | cons z zs ih => simp only [List.map_cons, List.flatten_cons, List.length_append, ih, List.length_cons]; simp [tw]; omega
/-- One growth behind another. -/
theorem grown_trans {a b c : World} {r r' : Option Nat} (h : a.grownBy b r) (k : b.grownBy c r') (hr : r' = r ∨ ∃ x, r' = some x ∧ a.heap.size ≤ x) : a.grownBy c r :=
  ⟨k.os.trans h.os, k.tape.trans h.tape, k.output.trans h.output, Nat.le_trans h.size k.size, fun i hi hni =>
    (k.block i (Nat.lt_of_lt_of_le hi h.size) (by
      rcases hr with rfl | ⟨x, rfl, hx⟩
      · exact hni
      · intro e; cases e; omega)).trans (h.block i hi hni)⟩
theorem grown_below {a b : World} (h : Below a.heap.size a b) (r : Option Nat) : a.grownBy b r := ⟨h.os, h.tape, h.output, h.size, fun i hi _ => h.block i hi⟩
theorem below_grown {a b : World} (h : a.grownBy b none) : Below a.heap.size a b := ⟨h.os, h.tape, h.output, h.size, fun i hi => h.block i hi (by simp)⟩

set_option maxHeartbeats 3200000 in
theorem ckPairs (B g n : Nat) (v : Value) (l0 : List UInt8) (zs : List Int) (w : World) (hob : Ob w B 5 v l0) (hB : B ≤ w.heap.size) (hg : v.ownBlock ≠ some g) (hN : Blk w g 3 (zs.map fun z => .int .i64 z))
    (hz : zs.length = n) (hn : n ≤ 10) (hl : l0.length ≤ 1000) (hr : ∀ z ∈ zs, 0 ≤ z ∧ z < 100) :
    Calls Tryz.prog 68 #[v, .slice (some ⟨g, 0, none⟩) n n] w fun e w' => ∃ v', e = .returned v' ∧ Ob w' B 5 v' (l0 ++ twL zs) ∧ w.grownBy w' v.ownBlock := by
  obtain ⟨i0, hi, hz0, hz1, hz2⟩ := info_parts u8_info
  have HR := Lib.hid hr
  have HN := Lib.hid hN
  have HG := Lib.hid hg
  have HB := Lib.hid hB
  have start : Hid (∃ k : Nat, k ≤ n ∧ Value.int .i64 0 = .int .i64 (k : Int) ∧ Ob w B 5 v (l0 ++ twL (zs.take k)) ∧ w.grownBy w v.ownBlock ∧ (v.ownBlock = v.ownBlock ∨ ∃ x, v.ownBlock = some x ∧ w.heap.size ≤ x)) :=
    ⟨0, Nat.zero_le _, rfl, by simpa [twL] using hob, World.grownBy.refl w _, .inl rfl⟩
  clear hr hg hB hob hN
  go_enter Tryz.func68, Tryz.ntmps68
  go_wp2
  go_loopw [0, 9] (fun u i wr => ∃ k : Nat, k ≤ n ∧ i = .int .i64 (k : Int) ∧ Ob wr B 5 u (l0 ++ twL (zs.take k)) ∧ w.grownBy wr v.ownBlock ∧ (u.ownBlock = v.ownBlock ∨ ∃ x, u.ownBlock = some x ∧ w.heap.size ≤ x)) (fun _ i _ => n - (intOf i).toNat)
  case atStart => exact (by obtain ⟨k, h1, h2, h3, h4, _⟩ := start.out; exact ⟨k, h1, h2, h3, h4, .inl rfl⟩)
  case round =>
    obtain ⟨k, hk, rfl, ho, hgr, how⟩ := hrel
    have HO := Lib.hid ho
    have HGR := Lib.hid hgr
    have HOW := Lib.hid how
    clear ho hgr how start
    by_cases hlt : k < n
    · obtain ⟨z, hzk⟩ : ∃ z, zs[k]? = some z := ⟨_, List.getElem?_eq_getElem (by omega)⟩
      have hzr := HR.out z (List.mem_of_getElem? hzk)
      have hcell : wr.cell? ⟨g, k, none⟩ = some (.int .i64 z) := by
        have hb := (HGR.out.block g HN.out.lt (fun e => HG.out e.symm)).trans HN.out
        have hb' : Blk wr g 3 (zs.map fun z => .int .i64 z) := hb
        rw [hb'.cell, List.getElem?_map, hzk]; rfl
      have e1 : (k : Int) < n := by omega
      have q1 : z.tdiv 10 = z / 10 := Int.tdiv_eq_ediv_of_nonneg (by omega)
      have q2 : z.tmod 10 = z % 10 := Int.tmod_eq_emod_of_nonneg (by omega)
      have q3 : z / 10 % 256 = z / 10 := by omega
      have q4 : z % 10 % 256 = z % 10 := by omega
      have q5 : (48 + z / 10) % 256 = 48 + z / 10 := by omega
      have q6 : (48 + z % 10) % 256 = 48 + z % 10 := by omega
      have HT : Hid (l0 ++ (twL (zs.take k) ++ tw z) = l0 ++ twL (zs.take (k + 1))) := by unfold Hid; rw [twL_take hzk]
      have HL : Hid ((l0 ++ twL (zs.take k)).length ≤ 1100) := by
        unfold Hid; rw [List.length_append, twL_len, List.length_take]; omega
      have hob2 := HO.out.alloc (.cells #[.int .u8 (48 + z / 10), .int .u8 (48 + z % 10)] 5)
      have HB1 := Lib.hid (below_alloc1 wr (.cells #[.int .u8 (48 + z / 10), .int .u8 (48 + z % 10)] 5))
      have hbs : Bs (wr.alloc (.cells #[.int .u8 (48 + z / 10), .int .u8 (48 + z % 10)] 5)) (some ⟨wr.heap.size, 0, none⟩) 2 (tw z) := Bs.new2 wr _ _ _ _ _ (by rw [UInt8.toNat_ofNat']; omega) (by rw [UInt8.toNat_ofNat']; omega)
      have HS : Hid (B ≤ (wr.alloc (.cells #[.int .u8 (48 + z / 10), .int .u8 (48 + z % 10)] 5)).heap.size) := Nat.le_trans HB.out (Nat.le_trans HGR.out.size HB1.out.size)
      clear hzk
      go_wp2_with (at_builtin; refine wpList_appendB rfl _ _ 22 rfl B 5 i0 (.int .u8 0) Tryz.underlying22 hi hz0 hz1 hz2 rfl _ (l0 ++ twL (zs.take k)) rfl hob2 _ _ _ (tw z) rfl hbs ?ab1 ?ab2 ?_)
      case ab1 => have := HL.out; omega
      case ab2 => exact HS.out
      intro v' w1 hob3 hg3 _ how3
      (try rw [List.append_assoc] at hob3)
      rw [HT.out] at hob3
      have HO3 := Lib.hid hob3
      have HG3 : Hid (w.grownBy w1 v.ownBlock) := by
        refine grown_trans HGR.out (grown_trans (grown_below HB1.out _) hg3 (.inl rfl)) HOW.out
      have HW3 : Hid (v'.ownBlock = v.ownBlock ∨ ∃ x, v'.ownBlock = some x ∧ w.heap.size ≤ x) := by
        rcases how3 with e | e
        · rw [e]; exact HOW.out
        · exact .inr ⟨_, e, by have h1 := HGR.out.size; have h2 := HB1.out.size; (try simp only [World.size_alloc] at *); omega⟩
      clear hob3 hg3 how3 hob2 hbs
      go_wp2
      go_roundw
      case rel => exact ⟨k + 1, by omega, by go_num, HO3.out, HG3.out, HW3.out⟩
      case measure => simp [intOf]; omega
    · have hkn : k = n := by omega
      have e1 : ¬ (k : Int) < n := by omega
      have HT : Hid (zs.take k = zs) := List.take_of_length_le (by omega)
      rw [HT.out] at HO
      go_wp2
      go_ret
      exact ⟨_, rfl, HO.out, HGR.out⟩

/-- A row of bytes of the call's own, and no error; nothing older has changed. -/
def RowOk (w : World) (l : List UInt8) (e : Ending) (w' : World) : Prop :=
  ∃ A n c, e = .returned (.tuple #[.slice A n c, .int .i64 0]) ∧ Ob w' w.heap.size 5 (.slice A n c) l ∧ Below w.heap.size w w'

set_option maxHeartbeats 1600000 in
theorem ckContentsNo (k s : Int) (w : World) (hs : I64 s) (h : ¬ rightT k s) :
    Calls Tryz.prog 46 #[tmv k s] w fun e w' => e = .returned (.tuple #[.slice none 0 0, .int .i64 1]) ∧ Below w.heap.size w w' := by
  have hC := Lib.hid (fun W => ckRight k s W hs)
  have hF : decide (rightT k s) = false := by simpa using h
  unfold tmv at *
  have hb := Blk.two_new w (.int .i64 k) (.int .i64 s) 26
  have HB := Lib.hid (below_alloc1 w (.cells #[.int .i64 k, .int .i64 s] 26))
  obtain ⟨c0, c1, _, _⟩ := hb.two
  clear hb h
  go_enter Tryz.func46, Tryz.ntmps46
  go_wp2_with fail
  refine (hC.out _).mono ?_
  rintro e w2 ⟨rfl, hB2⟩
  rw [hF]
  have HB2 := Lib.hid (HB.out.trans (hB2.mono HB.out.size))
  clear hB2
  go_wp2
  go_ret2
  exact ⟨rfl, HB2.out⟩

set_option maxHeartbeats 6400000 in
theorem ckContents (k s y m d a b c : Int) (w : World) (hs : I64 s) (h : rightT k s) (hr : RgtC y m d a b c) (hse : sec y m d a b c = s) :
    Calls Tryz.prog 46 #[tmv k s] w (RowOk w (contC k y m d a b c)) := by
  obtain ⟨i0, hi, hz0, hz1, hz2⟩ := info_parts u8_info
  have hC := Lib.hid (fun W => ckRight k s W hs)
  have hA : Hid (∀ W, Calls Tryz.prog 44 #[.int .i64 s] W fun e w' => e = .returned (.tuple #[.agg #[.int .i64 y, .int .i64 m, .int .i64 d, .int .i64 a, .int .i64 b, .int .i64 c], .int .i64 0]) ∧ Below W.heap.size W w') := by
    intro W
    refine (dtAtYes s W h.range.1 h.range.2).mono ?_
    rintro e w' ⟨⟨y', m', d', a', b', c', rfl, hr', hs'⟩, hb⟩
    obtain ⟨rfl, rfl, rfl, rfl, rfl, rfl⟩ := sec_inj hr' hr (by rw [hs', hse])
    exact ⟨rfl, hb⟩
  have hF : decide (rightT k s) = true := by simpa using h
  have hk := h.kind
  have hm := hr.1.month
  have hd := dys_le y m
  obtain ⟨⟨g1, g2, g3, g4⟩, g5, g6, g7⟩ := id hr
  have q1 : y.tdiv 100 = y / 100 := Int.tdiv_eq_ediv_of_nonneg (by omega)
  have q2 : y.tmod 100 = y % 100 := Int.tmod_eq_emod_of_nonneg (by omega)
  have P1 := Lib.hid (fun W (hB : w.heap.size ≤ W.heap.size) => ckPairs w.heap.size W.heap.size 1 (.slice none 0 0) [] [y / 100] (W.alloc (.cells #[.int .i64 (y / 100)] 3)) (Ob.nil _ _ _) (Nat.le_trans hB (below_alloc1 W _).size) (by simp [Value.ownBlock]) (Blk.new W [.int .i64 (y / 100)] _) rfl (by omega) (by simp) (by intro z hz; simp at hz; subst hz; omega))
  have P2 := Lib.hid (fun W v l0 (ho : Ob W w.heap.size 5 v l0) (hB : w.heap.size ≤ W.heap.size) (hl : l0.length ≤ 1000) => ckPairs w.heap.size W.heap.size 6 v l0 [y % 100, m, d, a, b, c] (W.alloc (.cells #[.int .i64 (y % 100), .int .i64 m, .int .i64 d, .int .i64 a, .int .i64 b, .int .i64 c] 3)) (ho.alloc _) (Nat.le_trans hB (below_alloc1 W _).size)
    (fun e => by have := (ho.lt _ e).2; omega) (Blk.new W [.int .i64 (y % 100), .int .i64 m, .int .i64 d, .int .i64 a, .int .i64 b, .int .i64 c] _) rfl (by omega) hl (by intro z hz; simp at hz; rcases hz with rfl | rfl | rfl | rfl | rfl | rfl <;> omega))
  have FC : Hid (contC k y m d a b c = if k = 24 then twL [y / 100] ++ (twL [y % 100, m, d, a, b, c] ++ [90]) else twL [y % 100, m, d, a, b, c] ++ [90]) := by
    unfold Hid contC; by_cases q : k = 24 <;> simp [q, twL]
  have L1 : Hid (([] ++ twL [y / 100]).length ≤ 1000) := by unfold Hid; simp [twL_len]
  have L2 : Hid (∀ l0 : List UInt8, l0.length ≤ 1000 → (l0 ++ twL [y % 100, m, d, a, b, c]).length ≤ 1100) := by intro l0 h0; rw [List.length_append, twL_len]; simp; omega
  have y1b : 0 ≤ y / 100 ∧ y / 100 < 100 := by omega
  have y2b : 0 ≤ y % 100 ∧ y % 100 < 100 := by omega
  generalize contC k y m d a b c = R at *
  generalize y / 100 = y1 at *
  generalize y % 100 = y2 at *
  generalize twL [y1] = T1 at *
  generalize twL [y2, m, d, a, b, c] = T2 at *
  have hb := Blk.two_new w (.int .i64 k) (.int .i64 s) 26
  have HB := Lib.hid (below_alloc1 w (.cells #[.int .i64 k, .int .i64 s] 26))
  have Hb := Lib.hid hb
  obtain ⟨c0, c1, _, _⟩ := hb.two
  unfold tmv at *
  clear hb h hr hse hm hd g1 g2 g3 g4 g5 g6 g7
  go_enter Tryz.func46, Tryz.ntmps46
  go_wp2_with fail
  refine (hC.out _).mono ?_
  rintro e w2 ⟨rfl, hB2⟩
  rw [hF]
  have HB2 := Lib.hid (HB.out.trans (hB2.mono HB.out.size))
  have Hb2 := Lib.hid (Hb.out.below hB2)
  clear hB2 c0 c1 Hb HB
  obtain ⟨c0, c1, _, _⟩ := Hb2.out.two
  go_wp2_with fail
  refine (hA.out _).mono ?_
  rintro e w3 ⟨rfl, hB3⟩
  have hB4 := (hB3.alloc hB3.size (.cells #[.int .i64 y, .int .i64 m, .int .i64 d, .int .i64 a, .int .i64 b, .int .i64 c] 87))
  have HB4 := Lib.hid (HB2.out.trans (hB4.mono HB2.out.size))
  have Hb4 := Lib.hid (Hb2.out.below hB4)
  have hd4 := Blk.six_new w3 (.int .i64 y) (.int .i64 m) (.int .i64 d) (.int .i64 a) (.int .i64 b) (.int .i64 c) 87
  have Hd4 := Lib.hid hd4
  clear hB3 hB4 c0 c1 Hb2 HB2 hC hF
  obtain ⟨c0, c1, _, _⟩ := Hb4.out.two
  obtain ⟨d0, d1, d2, d3, d4, d5⟩ := hd4.six
  clear hd4
  by_cases hk24 : k = 24
  · have e1 : (k == 24) = true := by simpa using hk24
    have FC2 := FC.out
    rw [if_pos hk24] at FC2
    have FC3 := Lib.hid FC2
    clear FC2 FC hk hk24
    go_upto_region 6 with (fail)
    generalize w3.alloc (.cells #[.int .i64 y, .int .i64 m, .int .i64 d, .int .i64 a, .int .i64 b, .int .i64 c] 87) = W4 at *
    go_wp2_with fail
    refine (P1.out _ HB4.out.size).mono ?_
    rintro e w5 ⟨v5, rfl, ho5, hg5⟩
    have HO5 := Lib.hid ho5
    have hb5 : Below W4.heap.size W4 w5 := (below_alloc1 W4 (.cells #[.int .i64 y1] 3)).trans ((below_grown hg5).mono (below_alloc1 W4 (.cells #[.int .i64 y1] 3)).size)
    have HB5 := Lib.hid (HB4.out.trans (hb5.mono HB4.out.size))
    have Hd5 := Lib.hid (Hd4.out.below hb5)
    clear ho5 hg5 hb5 d0 d1 d2 d3 d4 d5 c0 c1 Hb4 HB4 Hd4
    obtain ⟨d0, d1, d2, d3, d4, d5⟩ := Hd5.out.six
    generalize w5 = W5 at *
    go_wp2_with fail
    refine (P2.out _ v5 ([] ++ T1) HO5.out HB5.out.size L1.out).mono ?_
    rintro e w6 ⟨v6, rfl, ho6, hg6⟩
    have hbx := below_alloc1 W5 (.cells #[.int .i64 y2, .int .i64 m, .int .i64 d, .int .i64 a, .int .i64 b, .int .i64 c] 3)
    have HB6 := Lib.hid (HO5.out.grew (w := w) HB5.out (Nat.le_refl _) (grown_trans (grown_below hbx _) hg6 (.inl rfl)))
    have hob7 := ho6.alloc (.cells #[.int .u8 90] 5)
    have hbs := Bs.new1 w6 90 90 5 rfl
    have HB7 := Lib.hid (HB6.out.alloc HB6.out.size (.cells #[.int .u8 90] 5))
    have HL7 := Lib.hid (L2.out _ L1.out)
    clear ho6 hg6 hbx HO5 HB5 HB6 P1 P2 hA d0 d1 d2 d3 d4 d5 Hd5
    go_wp2_with (at_builtin; refine wpList_appendB rfl _ _ 22 rfl w.heap.size 5 i0 (.int .u8 0) Tryz.underlying22 hi hz0 hz1 hz2 rfl _ (([] ++ T1) ++ T2) rfl hob7 _ _ _ [90] rfl hbs ?ab1 ?ab2 ?_)
    case ab1 => have := HL7.out; omega
    case ab2 => exact HB7.out.size
    intro v' w8 hob8 hg8 _ how8
    have HB8 := Lib.hid (hob7.grew (w := w) HB7.out (Nat.le_refl _) hg8)
    obtain ⟨A8, c8, rfl, hc8, hs8⟩ := hob8.slice
    have HO8 := Lib.hid hob8
    clear hob8 hg8 how8 hob7 hbs hc8 hs8
    go_wp2
    go_ret2
    rw [FC3.out]
    exact ⟨_, _, _, rfl, HO8.out, HB8.out⟩
  · have e1 : (k == 24) = false := by simpa using hk24
    have FC2 := FC.out
    rw [if_neg hk24] at FC2
    have FC3 := Lib.hid FC2
    clear FC2 FC hk hk24
    go_upto_region 7 with (fail)
    generalize w3.alloc (.cells #[.int .i64 y, .int .i64 m, .int .i64 d, .int .i64 a, .int .i64 b, .int .i64 c] 87) = W5 at *
    have HO5 : Hid (Ob W5 w.heap.size 5 (.slice none 0 0) []) := Ob.nil _ _ _
    have HB5 := Lib.hid HB4.out
    have Hd5 := Lib.hid Hd4.out
    clear Hd4 HB4 Hb4
    go_wp2_with fail
    refine (P2.out _ (.slice none 0 0) [] HO5.out HB5.out.size (by simp)).mono ?_
    rintro e w6 ⟨v6, rfl, ho6, hg6⟩
    have hbx := below_alloc1 W5 (.cells #[.int .i64 y2, .int .i64 m, .int .i64 d, .int .i64 a, .int .i64 b, .int .i64 c] 3)
    have HB6 := Lib.hid (HO5.out.grew (w := w) HB5.out (Nat.le_refl _) (grown_trans (grown_below hbx _) hg6 (.inl rfl)))
    have hob7 := ho6.alloc (.cells #[.int .u8 90] 5)
    have hbs := Bs.new1 w6 90 90 5 rfl
    have HB7 := Lib.hid (HB6.out.alloc HB6.out.size (.cells #[.int .u8 90] 5))
    have HL7 := Lib.hid (L2.out [] (by simp))
    clear ho6 hg6 hbx HO5 HB5 HB6 P1 P2 hA d0 d1 d2 d3 d4 d5 Hd5
    go_wp2_with (at_builtin; refine wpList_appendB rfl _ _ 22 rfl w.heap.size 5 i0 (.int .u8 0) Tryz.underlying22 hi hz0 hz1 hz2 rfl _ ([] ++ T2) rfl hob7 _ _ _ [90] rfl hbs ?ab1 ?ab2 ?_)
    case ab1 => have := HL7.out; omega
    case ab2 => exact HB7.out.size
    intro v' w8 hob8 hg8 _ how8
    have HB8 := Lib.hid (hob7.grew (w := w) HB7.out (Nat.le_refl _) hg8)
    obtain ⟨A8, c8, rfl, hc8, hs8⟩ := hob8.slice
    have HO8 := Lib.hid hob8
    clear hob8 hg8 how8 hob7 hbs hc8 hs8
    go_wp2
    go_ret2
    rw [FC3.out]
    exact ⟨_, _, _, rfl, HO8.out, HB8.out⟩

/-! ### Kg -/
/-- The universal tag of a number. -/
def tgU (n : Int) : Tg := ⟨0, n, n == 16 || n == 17⟩
theorem Bss.new1 {w : World} {A1 : Option Addr} {n1 c1 : Nat} {l1 : List UInt8} (t : TypeId) (h1 : Bs w A1 n1 l1) (k1 : n1 ≤ c1) :
    Bss (w.alloc (.cells #[.slice A1 n1 c1] t)) (some ⟨w.heap.size, 0, none⟩) 1 [l1] := by
  have hb := heap_alloc_new w (.cells #[.slice A1 n1 c1] t)
  refine ⟨rfl, fun i l hl => ?_⟩
  match i, hl with
  | 0, hl => cases hl; exact ⟨_, _, A1, n1, c1, rfl, by rw [blk_cell hb]; rfl, h1.below (below_alloc1 _ _), k1⟩
theorem short1 {b : List UInt8} {N : Nat} (h : b.length ≤ N) : Short N [b] := by
  intro k
  rcases k with _ | k
  · simpa [rowL] using h
  · simp [rowL]
/-- Wrap of one row. -/
theorem wrap1 (z : Int) (A : Option Addr) (n c : Nat) (b : List UInt8) (w : World) (hz : (tgU z).rightB = true) (h : Bs w A n b) (hc : n ≤ c) (hb : b.length ≤ 16777216) :
    Calls Tryz.prog 47 #[(tgU z).v, .slice (some ⟨w.heap.size, 0, none⟩) 1 1] (w.alloc (.cells #[.slice A n c] 22)) (NewBs2 (w.alloc (.cells #[.slice A n c] 22)) (wrapB (tgU z) b)) := by
  have hW := hdWrap (tgU z) _ 1 1 [b] _ hz (Bss.new1 22 h hc) (by omega) (by simpa using hb) (short1 (by omega))
  simp only [List.flatten_cons, List.flatten_nil, List.append_nil] at hW
  exact hW
theorem tgU_right {k : Int} (h : k = 23 ∨ k = 24) : (tgU k).rightB = true := by rcases h with rfl | rfl <;> decide

set_option maxHeartbeats 1600000 in
theorem ckWriteNo (k s : Int) (w : World) (hs : I64 s) (h : ¬ rightT k s) :
    Calls Tryz.prog 25 #[tmv k s] w fun e w' => e = .returned (.tuple #[.slice none 0 0, .int .i64 1]) ∧ Below w.heap.size w w' := by
  have hC := Lib.hid (fun W => ckContentsNo k s W hs h)
  unfold tmv at *
  have hb := Blk.two_new w (.int .i64 k) (.int .i64 s) 26
  have HB := Lib.hid (below_alloc1 w (.cells #[.int .i64 k, .int .i64 s] 26))
  obtain ⟨c0, c1, _, _⟩ := hb.two
  clear hb h
  go_enter Tryz.func25, Tryz.ntmps25
  go_wp2_with fail
  refine (hC.out _).mono ?_
  rintro e w2 ⟨rfl, hB2⟩
  have HB2 := Lib.hid (HB.out.trans (hB2.mono HB.out.size))
  clear hB2
  go_wp2
  go_ret2
  exact ⟨rfl, HB2.out⟩

set_option maxHeartbeats 3200000 in
theorem ckWrite (k s y m d a b c : Int) (w : World) (hs : I64 s) (h : rightT k s) (hr : RgtC y m d a b c) (hse : sec y m d a b c = s) :
    Calls Tryz.prog 25 #[tmv k s] w (NewBs2 w (wrapB (tgU k) (contC k y m d a b c))) := by
  have hC := Lib.hid (fun W => ckContents k s y m d a b c W hs h hr hse)
  have hO := Lib.hid (fun W => hdOf k W)
  have hl := contC_len k y m d a b c
  have hl2 : (contC k y m d a b c).length ≤ 15 := by rw [hl]; split <;> omega
  have hW := Lib.hid (fun A n c' W h1 h2 => wrap1 k A n c' (contC k y m d a b c) W (tgU_right h.kind) h1 h2 (by omega))
  unfold tmv at *
  generalize contC k y m d a b c = R at *
  have hb := Blk.two_new w (.int .i64 k) (.int .i64 s) 26
  have HB := Lib.hid (below_alloc1 w (.cells #[.int .i64 k, .int .i64 s] 26))
  have Hb := Lib.hid hb
  obtain ⟨c0, c1, _, _⟩ := hb.two
  clear hb h hl hl2 hr hse
  go_enter Tryz.func25, Tryz.ntmps25
  go_wp2_with fail
  refine (hC.out _).mono ?_
  rintro e w2 ⟨A2, n2, c2, rfl, ho2, hB2⟩
  have HB2 := Lib.hid (HB.out.trans (hB2.mono HB.out.size))
  have Hb2 := Lib.hid (Hb.out.below hB2)
  have HS2 := Lib.hid ho2.bs
  clear hB2 ho2 c0 c1 Hb HB hC
  obtain ⟨c0, c1, _, _⟩ := Hb2.out.two
  go_wp2_with fail
  refine (hO.out _).mono ?_
  rintro e w3 ⟨rfl, hB3⟩
  have HB3 := Lib.hid (HB2.out.trans (hB3.mono HB2.out.size))
  have HS3 := Lib.hid (HS2.out.1.below hB3)
  clear hB3 c0 c1 Hb2 HB2 hO
  have hW2 := hW.out A2 n2 c2 w3 HS3.out HS2.out.2
  unfold tgU Tg.v at hW2
  unfold Tg.v
  have HW2 := Lib.hid hW2
  clear hW hW2 HS3 HS2
  go_wp2_with fail
  refine HW2.out.mono ?_
  rintro e w4 ⟨A4, n4, c4, rfl, ho4, hB4⟩
  have hbx := (below_alloc1 w3 (.cells #[.slice A2 n2 c2] 22)).trans (hB4.mono (below_alloc1 w3 (.cells #[.slice A2 n2 c2] 22)).size)
  have HB4 := Lib.hid (HB3.out.trans (hbx.mono HB3.out.size))
  have HO4 := Lib.hid (ho4.mono (base' := w.heap.size) (Nat.le_trans HB3.out.size (below_alloc1 w3 _).size))
  clear ho4 hB4 hbx HW2
  go_wp2
  go_ret2
  exact ⟨_, _, _, rfl, HO4.out, HB4.out⟩

set_option maxHeartbeats 1600000 in
theorem lwaOf (k s : Int) (w : World) :
    Calls Tryz.prog 11 #[tmv k s] w fun e w' => e = .returned (tmv k s) ∧ Below w.heap.size w w' := by
  unfold tmv
  have hb0 := Blk.two_new w (.int .i64 k) (.int .i64 s) 26
  have hb := hb0.alloc (.cells #[.int .i64 0, .int .i64 0] 32)
  have hd := Blk.two_new (w.alloc (.cells #[.int .i64 k, .int .i64 s] 26)) (.int .i64 0) (.int .i64 0) 32
  rw [show (w.alloc (.cells #[.int .i64 k, .int .i64 s] 26)).heap.size = w.heap.size + 1 by simp] at hd
  have HB := Lib.hid (below_alloc2 w (.cells #[.int .i64 k, .int .i64 s] 26) (.cells #[.int .i64 0, .int .i64 0] 32))
  obtain ⟨c0, c1, _, _⟩ := hb.two
  obtain ⟨d0, d1, g0, g1⟩ := hd.two
  have hP := hd.put (.int .i64 k) (.int .i64 s)
  have HPB := Lib.hid (below_set2 HB.out HB.out.size (show w.heap.size ≤ w.heap.size + 1 by omega) (.int .i64 k) (.int .i64 s))
  obtain ⟨p0, p1, _, _⟩ := hP.two
  clear hb0 hb hd hP
  go_enter Tryz.func11, Tryz.ntmps11
  go_wp2
  refine bodyPost_ret (v := .agg #[.int .i64 k, .int .i64 s]) (by simp [results, Tryz.results11, go_sem, p0, p1]) rfl ?_
  exact ⟨rfl, below_alloc2 _ _ _⟩

/-! ### Kh -/
/-- The number of the next m digits, on top of z; -1: some are none. -/
def dgs (l : List UInt8) (i : Nat) : Nat → Int → Int
  | 0, z => z
  | m + 1, z => if isd (nth l i) then dgs l (i + 1) m (10 * z + nth l i - 48) else -1
theorem dgs_two (l : List UInt8) (i : Nat) : dgs l i 2 0 = d2 l i := by
  unfold d2
  by_cases h1 : isd (nth l i) = true
  · by_cases h2 : isd (nth l (i + 1)) = true
    · simp [dgs, h1, h2]; omega
    · simp [dgs, h1, h2]
  · simp [dgs, h1]
theorem dgs_four (l : List UInt8) (i : Nat) : dgs l i 4 0 = if d2 l i < 0 ∨ d2 l (i + 2) < 0 then -1 else 100 * d2 l i + d2 l (i + 2) := by
  have hb : ∀ j, isd (nth l j) = true → 48 ≤ nth l j ∧ nth l j ≤ 57 := by intro j h; simpa [isd] using h
  by_cases h1 : isd (nth l i) = true
  · by_cases h2 : isd (nth l (i + 1)) = true
    · have a1 := hb _ h1
      have a2 := hb _ h2
      have e1 : d2 l i = 10 * (nth l i - 48) + (nth l (i + 1) - 48) := by simp [d2, h1, h2]
      by_cases h3 : isd (nth l (i + 2)) = true
      · by_cases h4 : isd (nth l (i + 2 + 1)) = true
        · have a3 := hb _ h3
          have a4 := hb _ h4
          have e2 : d2 l (i + 2) = 10 * (nth l (i + 2) - 48) + (nth l (i + 2 + 1) - 48) := by simp [d2, h3, h4]
          rw [e1, e2, if_neg (by omega)]
          simp [dgs, h1, h2, h3, h4]
          simp only [show i + 1 + 1 = i + 2 from rfl]
          omega
        · have e2 : d2 l (i + 2) = -1 := by simp [d2, h4]
          rw [if_pos (by omega)]
          simp [dgs, h1, h2, h3, h4]
      · have e2 : d2 l (i + 2) = -1 := by simp [d2, h3]
        rw [if_pos (by omega)]
        simp [dgs, h1, h2, h3]
    · have e1 : d2 l i = -1 := by simp [d2, h2]
      rw [if_pos (by omega)]
      simp [dgs, h1, h2]
  · have e1 : d2 l i = -1 := by simp [d2, h1]
    rw [if_pos (by omega)]
    simp [dgs, h1]

set_option maxHeartbeats 3200000 in
theorem rfDigits (A : Option Addr) (n c i m : Nat) (x y : Int) (l : List UInt8) (w : World) (h : Bs w A n l) (hi : i ≤ 1000) (hm : m ≤ 4) (hx : x = i) (hy : y = m) (hn : n ≤ 1099511627776) :
    Calls Tryz.prog 36 #[.slice A n c, .int .i64 x, .int .i64 y] w fun e w' => e = .returned (.int .i64 (dgs l i m 0)) ∧ w = w' := by
  subst hx hy
  have hl := Lib.hid h.len
  have fin : Hid (∀ q, q = dgs l i m 0 → Ending.returned (.int .i64 q) = .returned (.int .i64 (dgs l i m 0))) := by rintro q rfl; rfl
  go_enter Tryz.func36, Tryz.ntmps36
  go_wp2
  go_loopw [7, 8] (fun u v wr => ∃ (k f : Nat) (z : Int), k + f = m ∧ v = .int .i64 ((i : Int) + k) ∧ u = .int .i64 z ∧ 0 ≤ z ∧ (z < 10 ^ k) ∧ wr = w ∧ Hid (dgs l i m 0 = dgs l (i + k) f z)) (fun _ v _ => (i + m) - (intOf v).toNat)
  case atStart => exact ⟨0, m, 0, by omega, by simp, rfl, by omega, by decide, rfl, rfl⟩
  case round =>
    obtain ⟨k, f, z, hkf, rfl, rfl, hz0, hz1, rfl, hun⟩ := hrel
    have hzb : z < 10000 := by
      have : k = 0 ∨ k = 1 ∨ k = 2 ∨ k = 3 ∨ k = 4 := by omega
      rcases this with rfl | rfl | rfl | rfl | rfl <;> simp at hz1 <;> omega
    rcases f with _ | f
    · have e1 : ¬ ((i : Int) + k < (i : Int) + m) := by omega
      have hU : Hid (z = dgs l i m 0) := by unfold Hid; rw [hun.out]; rfl
      clear hz1 hun
      go_wp2
      go_ret
      exact ⟨fin.out _ hU.out, rfl⟩
    · have e1 : (i : Int) + k < (i : Int) + m := by omega
      by_cases h0 : n ≤ i + k
      · have hU : Hid (-1 = dgs l i m 0) := by unfold Hid; rw [hun.out]; unfold dgs; rw [nth_end (by rw [hl.out]; exact h0)]; rfl
        have e2 : (n : Int) ≤ (i : Int) + k := by omega
        clear hz1 hun h0
        go_wp2
        go_ret
        exact ⟨fin.out _ hU.out, rfl⟩
      · obtain ⟨b, o, rfl, hc⟩ := h.at_ (k := i + k) (by omega)
        have hb := nth_bound l (i + k)
        have e2 : ¬ (n : Int) ≤ (i : Int) + k := by omega
        have e3 : (i : Int) + k < n := by omega
        have hun2 : Hid (dgs l i m 0 = if isd (nth l (i + k)) then dgs l (i + (k + 1)) f (10 * z + nth l (i + k) - 48) else -1) := by
          unfold Hid; rw [hun.out]; rfl
        have hzz : Hid (48 ≤ nth l (i + k) → nth l (i + k) ≤ 57 → 0 ≤ 10 * z + nth l (i + k) - 48 ∧ 10 * z + nth l (i + k) - 48 < 10 ^ (k + 1)) := by
          intro g1 g2
          have : (10 : Int) ^ (k + 1) = 10 ^ k * 10 := Int.pow_succ ..
          omega
        clear hun
        generalize nth l (i + k) = d at *
        by_cases d1 : d < 48
        · have hU : Hid (-1 = dgs l i m 0) := by unfold Hid; rw [hun2.out, if_neg (by simp [isd]; omega)]
          clear hz1 hun2 hzz h0
          go_wp2
          go_ret
          exact ⟨fin.out _ hU.out, rfl⟩
        · by_cases d2' : 57 < d
          · have hU : Hid (-1 = dgs l i m 0) := by unfold Hid; rw [hun2.out, if_neg (by simp [isd]; omega)]
            clear hz1 hun2 hzz h0
            go_wp2
            go_ret
            exact ⟨fin.out _ hU.out, rfl⟩
          · have hU : Hid (dgs l i m 0 = dgs l (i + (k + 1)) f (10 * z + d - 48)) := by unfold Hid; rw [hun2.out, if_pos (by simp [isd]; omega)]
            have hz2 := Lib.hid (hzz.out (by omega) (by omega))
            clear hz1 hun2 hzz h0
            go_wp2
            go_roundw
            case rel => exact ⟨k + 1, f, _, by omega, by simp; omega, rfl, hz2.out.1, hz2.out.2, trivial, hU⟩
            case measure => simp [intOf]; omega

theorem rf_year (k : Int) (l : List UInt8) (hk : k = 23 ∨ k = 24) :
    yrS k l = if k = 24 then dgs l 0 4 0 else if dgs l 0 2 0 < 0 then -1 else if dgs l 0 2 0 + 1900 < 1950 then dgs l 0 2 0 + 1900 + 100 else dgs l 0 2 0 + 1900 := by
  rw [dgs_two, dgs_four]
  simp only [Nat.zero_add]
  unfold yrS
  repeat' split
  all_goals omega
theorem dgs_two_range (l : List UInt8) (i : Nat) : -1 ≤ dgs l i 2 0 ∧ dgs l i 2 0 ≤ 99 := by rw [dgs_two]; exact d2_range l i
theorem yrS_range (k : Int) (l : List UInt8) : -1 ≤ yrS k l ∧ yrS k l ≤ 9999 := by
  have h0 := d2_range l 0
  have h2 := d2_range l 2
  unfold yrS
  repeat' split
  all_goals omega

/-- While the reference's Parse fills its clock. -/
def RC (w : World) (A : Option Addr) (n : Nat) (l : List UInt8) (cs : List Value) (W : World) : Prop :=
  Bs W A n l ∧ Blk W w.heap.size 32 [.int .i64 0, .int .i64 0] ∧ Blk W (w.heap.size + 1) 76 cs ∧ Below w.heap.size w W
theorem RC.set {w : World} {A : Option Addr} {n : Nat} {l : List UInt8} {cs : List Value} {W : World} (h : RC w A n l cs W) (hcs : ∀ (i : Nat) (x : UInt8), cs[i]? ≠ some (.int .u8 (x.toNat : Int))) (i : Nat) (v : Value) :
    RC w A n l (cs.set i v) (W.setCell ⟨w.heap.size + 1, i, none⟩ v) := by
  obtain ⟨h1, h2, h3, h4⟩ := h
  have ho : Only (w.heap.size + 1) W (W.setCell ⟨w.heap.size + 1, i, none⟩ v) := (Only.refl _ _).setCell rfl _
  refine ⟨h1.only ho ?_, h2.only ho (by omega), h3.set i v, ho.below h4 (by omega) h4.size⟩
  intro o x
  rw [h3.cell]; exact hcs o x
theorem six_noB (a b c d e f : Int) : ∀ (i : Nat) (x : UInt8), ([.int .i64 a, .int .i64 b, .int .i64 c, .int .i64 d, .int .i64 e, .int .i64 f] : List Value)[i]? ≠ some (.int .u8 (x.toNat : Int)) := by
  intro i x
  rcases i with _ | _ | _ | _ | _ | _ | i <;> simp
theorem RC.below {w : World} {A : Option Addr} {n : Nat} {l : List UInt8} {cs : List Value} {W W' : World} (h : RC w A n l cs W) (hb : Below W.heap.size W W') : RC w A n l cs W' :=
  ⟨h.1.below hb, h.2.1.below hb, h.2.2.1.below hb, h.2.2.2.trans (hb.mono h.2.2.2.size)⟩
theorem RC.put {w : World} {A : Option Addr} {n : Nat} {l : List UInt8} {cs : List Value} {W : World} (h : RC w A n l cs W) (a b : Int) :
    Blk ((W.setCell ⟨w.heap.size, 0, none⟩ (.int .i64 a)).setCell ⟨w.heap.size, 1, none⟩ (.int .i64 b)) w.heap.size 32 [.int .i64 a, .int .i64 b] ∧ Below w.heap.size w ((W.setCell ⟨w.heap.size, 0, none⟩ (.int .i64 a)).setCell ⟨w.heap.size, 1, none⟩ (.int .i64 b)) :=
  ⟨h.2.1.put _ _, below_set2 h.2.2.2 h.2.2.2.size (Nat.le_refl _) _ _⟩
end Go.Proofs.YtepbjjhidemaiaaGreat
