/-
  What needs no program: seconds, kinds of seconds, times' contents, and the time of any contents.
-/
import Derived.Test.YtepbjjhidemaiaaGreatDg
import Derived.Test.YtepbjjhidemaiaaGreatDi
namespace Go.Proofs.YtepbjjhidemaiaaGreat
open Go.RowKit
set_option linter.unusedVariables false
set_option linter.unusedSimpArgs false
set_option maxRecDepth 4000

/-! ### dates -/

theorem date_of (n : Int) (h0 : -719528 ≤ n) (h1 : n ≤ 2932896) : ∃ y m d, Rgt y m d ∧ num y m d = n := by
  have hy : ∃ y : Int, 0 ≤ y ∧ y ≤ 9999 ∧ ahd y ≤ n + 719528 ∧ n + 719528 < ahd (y + 1) := by
    have key : ∀ k : Nat, k ≤ 9999 → n + 719528 < ahd ((k : Int) + 1) → ∃ y : Int, 0 ≤ y ∧ y ≤ 9999 ∧ ahd y ≤ n + 719528 ∧ n + 719528 < ahd (y + 1) := by
      intro k
      induction k with
      | zero => intro _ h; exact ⟨0, by omega, by omega, by rw [ahd_zero]; omega, by simpa using h⟩
      | succ k ih =>
        intro hk h
        rcases Int.lt_or_le (n + 719528) (ahd ((k : Int) + 1)) with h2 | h2
        · exact ih (by omega) h2
        · exact ⟨((k + 1 : Nat) : Int), by omega, by omega, by rw [show ((k + 1 : Nat) : Int) = (k : Int) + 1 by omega]; exact h2, h⟩
    exact key 9999 (by omega) (by rw [show (((9999 : Nat) : Int) + 1) = 10000 by omega]; rw [show ahd 10000 = 3652425 by decide]; omega)
  obtain ⟨y, y0, y1, a1, a2⟩ := hy
  have hm : ∃ m : Int, 1 ≤ m ∧ m ≤ 12 ∧ mon y m ≤ n + 719528 - ahd y ∧ n + 719528 - ahd y < mon y (m + 1) := by
    rw [ahd_succ] at a2
    have key : ∀ k : Nat, k ≤ 11 → n + 719528 - ahd y < mon y ((k : Int) + 2) → ∃ m : Int, 1 ≤ m ∧ m ≤ 12 ∧ mon y m ≤ n + 719528 - ahd y ∧ n + 719528 - ahd y < mon y (m + 1) := by
      intro k
      induction k with
      | zero => intro _ h; exact ⟨1, by omega, by omega, by rw [mon_one]; omega, by simpa using h⟩
      | succ k ih =>
        intro hk h
        rcases Int.lt_or_le (n + 719528 - ahd y) (mon y ((k : Int) + 2)) with h2 | h2
        · exact ih (by omega) h2
        · exact ⟨(k : Int) + 2, by omega, by omega, h2, by rw [show ((k : Int) + 2 + 1) = (((k + 1 : Nat) : Int) + 2) by omega]; exact h⟩
    exact key 11 (by omega) (by rw [show (((11 : Nat) : Int) + 2) = 13 by omega, mon_end]; omega)
  obtain ⟨m, m1, m2, b1, b2⟩ := hm
  rw [mon_succ m1 m2] at b2
  have := rgt_of (n := n) (y := y) (m := m) (left := n + 719528 - ahd y - mon y m) y0 y1 m1 m2 (by omega) (by omega) (by omega)
  exact ⟨_, _, _, this.1, this.2⟩

/-! ### seconds -/

theorem sec_range {y m d a b c : Int} (h : RgtC y m d a b c) : -62167219200 ≤ sec y m d a b c ∧ sec y m d a b c ≤ 253402300799 := by
  have := num_range h.1
  obtain ⟨_, h2, h3, h4⟩ := h
  unfold sec; omega
theorem sec_inj {y m d a b c y' m' d' a' b' c' : Int} (h : RgtC y m d a b c) (h' : RgtC y' m' d' a' b' c') (e : sec y m d a b c = sec y' m' d' a' b' c') :
    y = y' ∧ m = m' ∧ d = d' ∧ a = a' ∧ b = b' ∧ c = c' := by
  obtain ⟨h1, h2, h3, h4⟩ := h
  obtain ⟨k1, k2, k3, k4⟩ := h'
  unfold sec at e
  have hn : num y m d = num y' m' d' := by omega
  obtain ⟨rfl, rfl, rfl⟩ := num_inj h1 k1 hn
  omega
theorem sec_of (s : Int) (h0 : -62167219200 ≤ s) (h1 : s ≤ 253402300799) : ∃ y m d a b c, RgtC y m d a b c ∧ sec y m d a b c = s := by
  obtain ⟨y, m, d, hr, hn⟩ := date_of (s / 86400) (by omega) (by omega)
  refine ⟨y, m, d, s % 86400 / 3600, s % 3600 / 60, s % 60, ⟨hr, by omega, by omega, by omega⟩, ?_⟩
  unfold sec; omega
/-- The kind of a second; 0: it has none. -/
def kindS (s : Int) : Int := if s < -62167219200 ∨ 253402300799 < s then 0 else if -631152000 ≤ s ∧ s < 2524608000 then 23 else 24
theorem num_year {y m d : Int} (h : Rgt y m d) : -719528 + ahd y ≤ num y m d ∧ num y m d < -719528 + ahd (y + 1) := by
  have a := h.month
  obtain ⟨b1, b2, b3, b4⟩ := h
  have h1 := mon_succ (y := y) a.1 a.2
  have h2 := (mon_ge (y := y) (a := m + 1) (by omega) (by omega)).2
  have h3 := (mon_ge (y := y) (a := m) (by omega) (by omega)).1
  rw [ahd_succ]; unfold num; omega
theorem sec_utc {y m d a b c : Int} (h : RgtC y m d a b c) : (1950 ≤ y ∧ y ≤ 2049) ↔ (-631152000 ≤ sec y m d a b c ∧ sec y m d a b c < 2524608000) := by
  have hn := num_year h.1
  obtain ⟨h1, h2, h3, h4⟩ := h
  have e1 : ahd 1950 = 712223 := by decide
  have e2 : ahd 2050 = 748748 := by decide
  unfold sec
  constructor
  · rintro ⟨g1, g2⟩
    have a1 := ahd_mono g1
    have a2 := ahd_mono (a := y + 1) (b := 2050) (by omega)
    omega
  · rintro ⟨g1, g2⟩
    constructor
    · rcases Int.lt_or_le y 1950 with q | q
      · have a1 := ahd_mono (a := y + 1) (b := 1950) (by omega); omega
      · exact q
    · rcases Int.lt_or_le 2049 y with q | q
      · have a1 := ahd_mono (a := 2050) (b := y) (by omega); omega
      · exact q
theorem kindS_of {y m d a b c : Int} (h : RgtC y m d a b c) : kindS (sec y m d a b c) = if 1950 ≤ y ∧ y ≤ 2049 then 23 else 24 := by
  have hr := sec_range h
  have hu := sec_utc h
  unfold kindS
  rw [if_neg (by omega)]
  by_cases g : 1950 ≤ y ∧ y ≤ 2049
  · rw [if_pos g, if_pos (hu.1 g)]
  · rw [if_neg g, if_neg (fun x => g (hu.2 x))]
theorem kindS_cases (s : Int) : (kindS s = 0 ∧ (s < -62167219200 ∨ 253402300799 < s)) ∨ ((kindS s = 23 ∨ kindS s = 24) ∧ -62167219200 ≤ s ∧ s ≤ 253402300799) := by
  unfold kindS
  by_cases g : s < -62167219200 ∨ 253402300799 < s
  · rw [if_pos g]; exact .inl ⟨rfl, g⟩
  · rw [if_neg g]
    refine .inr ⟨?_, by omega, by omega⟩
    split
    · exact .inl rfl
    · exact .inr rfl
/-- A time that is right. -/
def rightT (k s : Int) : Prop := kindS s ≠ 0 ∧ (k = kindS s ∨ k = 24)
instance (k s : Int) : Decidable (rightT k s) := by unfold rightT; infer_instance
theorem rightT.kind {k s : Int} (h : rightT k s) : k = 23 ∨ k = 24 := by
  obtain ⟨h1, h2 | h2⟩ := h
  · have := kindS_cases s; omega
  · exact .inr h2
theorem rightT.range {k s : Int} (h : rightT k s) : -62167219200 ≤ s ∧ s ≤ 253402300799 := by
  have := kindS_cases s
  obtain ⟨h1, _⟩ := h
  omega

/-! ### two digits -/

def isd (x : Int) : Bool := decide (48 ≤ x) && decide (x ≤ 57)
/-- The number of two digits at a place; -1: they are none. -/
def d2 (l : List UInt8) (i : Nat) : Int := if isd (nth l i) && isd (nth l (i + 1)) then 10 * (nth l i - 48) + (nth l (i + 1) - 48) else -1
theorem d2_range (l : List UInt8) (i : Nat) : -1 ≤ d2 l i ∧ d2 l i ≤ 99 := by
  unfold d2
  by_cases g : (isd (nth l i) && isd (nth l (i + 1))) = true
  · rw [if_pos g]; simp [isd] at g; omega
  · rw [if_neg g]; omega
theorem nth_end {l : List UInt8} {i : Nat} (h : l.length ≤ i) : nth l i = 0 := by simp [nth, List.getD, List.getElem?_eq_none h]
theorem d2_end {l : List UInt8} {i : Nat} (h : l.length < i + 2) : d2 l i = -1 := by
  unfold d2
  rw [nth_end (l := l) (i := i + 1) (by omega)]
  simp [isd]
theorem nth_tw0 (z : Int) (h0 : 0 ≤ z) (h1 : z < 100) : ((UInt8.ofNat (48 + z / 10).toNat).toNat : Int) = 48 + z / 10 := by
  rw [UInt8.toNat_ofNat']; omega
theorem nth_tw1 (z : Int) (h0 : 0 ≤ z) (h1 : z < 100) : ((UInt8.ofNat (48 + z % 10).toNat).toNat : Int) = 48 + z % 10 := by
  rw [UInt8.toNat_ofNat']; omega
theorem d2_tw {l : List UInt8} {i : Nat} {z : Int} (h0 : 0 ≤ z) (h1 : z < 100) (ha : l[i]? = some (UInt8.ofNat (48 + z / 10).toNat)) (hb : l[i + 1]? = some (UInt8.ofNat (48 + z % 10).toNat)) : d2 l i = z := by
  have e1 : nth l i = 48 + z / 10 := by unfold nth List.getD; rw [ha]; exact nth_tw0 z h0 h1
  have e2 : nth l (i + 1) = 48 + z % 10 := by unfold nth List.getD; rw [hb]; exact nth_tw1 z h0 h1
  unfold d2
  rw [e1, e2, if_pos (by simp [isd]; omega)]
  omega
theorem tw_d2 {l : List UInt8} {i : Nat} (h : 0 ≤ d2 l i) : tw (d2 l i) = [l.getD i 0, l.getD (i + 1) 0] := by
  unfold d2 at h ⊢
  by_cases g : (isd (nth l i) && isd (nth l (i + 1))) = true
  · rw [if_pos g]
    simp [isd] at g
    unfold tw
    have e1 : (10 * (nth l i - 48) + (nth l (i + 1) - 48)) / 10 = nth l i - 48 := by omega
    have e2 : (10 * (nth l i - 48) + (nth l (i + 1) - 48)) % 10 = nth l (i + 1) - 48 := by omega
    rw [e1, e2]
    have key : ∀ k, 48 ≤ nth l k → UInt8.ofNat (48 + (nth l k - 48)).toNat = l.getD k 0 := by
      intro k hk
      have : (48 + (nth l k - 48)).toNat = (l.getD k 0).toNat := by unfold nth at *; omega
      rw [this]; simp
    rw [key _ g.1.1, key _ g.2.1]
  · rw [if_neg g] at h; omega

/-! ### contents -/

/-- A time's contents. -/
def contC (k y m d a b c : Int) : List UInt8 := (if k = 24 then tw (y / 100) else []) ++ (tw (y % 100) ++ (tw m ++ (tw d ++ (tw a ++ (tw b ++ (tw c ++ [90]))))))
theorem contC_len (k y m d a b c : Int) : (contC k y m d a b c).length = if k = 24 then 15 else 13 := by
  unfold contC; by_cases g : k = 24 <;> simp [g, tw]
/-- The year's digits. -/
def yrS (k : Int) (l : List UInt8) : Int :=
  if k = 24 then (if d2 l 0 < 0 ∨ d2 l 2 < 0 then -1 else 100 * d2 l 0 + d2 l 2) else if d2 l 0 < 0 then -1 else if d2 l 0 < 50 then 2000 + d2 l 0 else 1900 + d2 l 0
def offK (k : Int) : Nat := if k = 24 then 4 else 2
/-- What contents must be. -/
def PrsC (k : Int) (l : List UInt8) : Prop :=
  l.length = offK k + 11 ∧ nth l (offK k + 10) = 90 ∧ RgtC (yrS k l) (d2 l (offK k)) (d2 l (offK k + 2)) (d2 l (offK k + 4)) (d2 l (offK k + 6)) (d2 l (offK k + 8))
instance (k : Int) (l : List UInt8) : Decidable (PrsC k l) := by unfold PrsC; infer_instance
def secC (k : Int) (l : List UInt8) : Int := sec (yrS k l) (d2 l (offK k)) (d2 l (offK k + 2)) (d2 l (offK k + 4)) (d2 l (offK k + 6)) (d2 l (offK k + 8))
/-- Kind, second and error of contents. -/
def prsV (k : Int) (l : List UInt8) : Int × Int × Int := if k = 23 ∨ k = 24 then (if PrsC k l then (k, secC k l, 0) else (0, 0, 6)) else (0, 0, 1)

theorem prs_cont {k y m d a b c : Int} (h : RgtC y m d a b c) (hk : k = 24 ∨ (k = 23 ∧ 1950 ≤ y ∧ y ≤ 2049)) : prsV k (contC k y m d a b c) = (k, sec y m d a b c, 0) := by
  obtain ⟨h1, h2, h3, h4⟩ := id h
  have hm := h1.month
  have hd := dys_le y m
  obtain ⟨g1, g2, g3, g4⟩ := id h1
  rcases hk with rfl | ⟨rfl, u1, u2⟩
  · have e0 : d2 (contC 24 y m d a b c) 0 = y / 100 := d2_tw (by omega) (by omega) (by simp [contC, tw]) (by simp [contC, tw])
    have e1 : d2 (contC 24 y m d a b c) 2 = y % 100 := d2_tw (by omega) (by omega) (by simp [contC, tw]) (by simp [contC, tw])
    have e2 : d2 (contC 24 y m d a b c) 4 = m := d2_tw (by omega) (by omega) (by simp [contC, tw]) (by simp [contC, tw])
    have e3 : d2 (contC 24 y m d a b c) (4 + 2) = d := d2_tw (by omega) (by omega) (by simp [contC, tw]) (by simp [contC, tw])
    have e4 : d2 (contC 24 y m d a b c) (4 + 4) = a := d2_tw (by omega) (by omega) (by simp [contC, tw]) (by simp [contC, tw])
    have e5 : d2 (contC 24 y m d a b c) (4 + 6) = b := d2_tw (by omega) (by omega) (by simp [contC, tw]) (by simp [contC, tw])
    have e6 : d2 (contC 24 y m d a b c) (4 + 8) = c := d2_tw (by omega) (by omega) (by simp [contC, tw]) (by simp [contC, tw])
    have ey : yrS 24 (contC 24 y m d a b c) = y := by unfold yrS; rw [if_pos rfl, e0, e1, if_neg (by omega)]; omega
    have el : nth (contC 24 y m d a b c) (4 + 10) = 90 := by simp [contC, tw, nth]
    have hP : PrsC 24 (contC 24 y m d a b c) := by
      unfold PrsC
      rw [show offK 24 = 4 from rfl, contC_len, if_pos rfl, el, ey, e2, e3, e4, e5, e6]
      exact ⟨rfl, rfl, h⟩
    unfold prsV
    rw [if_pos (.inr rfl), if_pos hP]
    unfold secC
    rw [show offK 24 = 4 from rfl, ey, e2, e3, e4, e5, e6]
  · have e1 : d2 (contC 23 y m d a b c) 0 = y % 100 := d2_tw (by omega) (by omega) (by simp [contC, tw]) (by simp [contC, tw])
    have e2 : d2 (contC 23 y m d a b c) 2 = m := d2_tw (by omega) (by omega) (by simp [contC, tw]) (by simp [contC, tw])
    have e3 : d2 (contC 23 y m d a b c) (2 + 2) = d := d2_tw (by omega) (by omega) (by simp [contC, tw]) (by simp [contC, tw])
    have e4 : d2 (contC 23 y m d a b c) (2 + 4) = a := d2_tw (by omega) (by omega) (by simp [contC, tw]) (by simp [contC, tw])
    have e5 : d2 (contC 23 y m d a b c) (2 + 6) = b := d2_tw (by omega) (by omega) (by simp [contC, tw]) (by simp [contC, tw])
    have e6 : d2 (contC 23 y m d a b c) (2 + 8) = c := d2_tw (by omega) (by omega) (by simp [contC, tw]) (by simp [contC, tw])
    have ey : yrS 23 (contC 23 y m d a b c) = y := by
      unfold yrS; rw [if_neg (by decide), e1, if_neg (by omega)]
      by_cases g : y % 100 < 50
      · rw [if_pos g]; omega
      · rw [if_neg g]; omega
    have el : nth (contC 23 y m d a b c) (2 + 10) = 90 := by simp [contC, tw, nth]
    have hP : PrsC 23 (contC 23 y m d a b c) := by
      unfold PrsC
      rw [show offK 23 = 2 from rfl, contC_len, if_neg (by decide), el, ey, e2, e3, e4, e5, e6]
      exact ⟨rfl, rfl, h⟩
    unfold prsV
    rw [if_pos (.inl rfl), if_pos hP]
    unfold secC
    rw [show offK 23 = 2 from rfl, ey, e2, e3, e4, e5, e6]

theorem rgtC_nonneg {y m d a b c : Int} (h : RgtC y m d a b c) : 0 ≤ y ∧ 0 ≤ m ∧ 0 ≤ d ∧ 0 ≤ a ∧ 0 ≤ b ∧ 0 ≤ c := by
  have hm := h.1.month
  obtain ⟨⟨h1, _, h3, _⟩, h4, h5, h6⟩ := h
  omega
theorem getD_90 {l : List UInt8} {i : Nat} (h : nth l i = 90) : l.getD i 0 = 90 := by
  unfold nth at h
  apply UInt8.toNat_inj.1
  have : (90 : UInt8).toNat = 90 := rfl
  omega
theorem cont_prs {k : Int} {l : List UInt8} (hk : k = 23 ∨ k = 24) (h : PrsC k l) :
    contC k (yrS k l) (d2 l (offK k)) (d2 l (offK k + 2)) (d2 l (offK k + 4)) (d2 l (offK k + 6)) (d2 l (offK k + 8)) = l ∧ (k = 24 ∨ (k = 23 ∧ 1950 ≤ yrS k l ∧ yrS k l ≤ 2049)) := by
  obtain ⟨hl, h9, hR⟩ := h
  have hn := rgtC_nonneg hR
  have r0 := d2_range l 0
  have r2 := d2_range l 2
  rcases hk with rfl | rfl
  · rw [show offK 23 = 2 from rfl] at *
    have hy : 0 ≤ d2 l 0 ∧ yrS 23 l % 100 = d2 l 0 ∧ 1950 ≤ yrS 23 l ∧ yrS 23 l ≤ 2049 := by
      have := hn.1
      unfold yrS at this ⊢
      rw [if_neg (by decide)] at this ⊢
      by_cases g : d2 l 0 < 0
      · rw [if_pos g] at this; omega
      · rw [if_neg g] at this ⊢
        by_cases g2 : d2 l 0 < 50
        · rw [if_pos g2]; omega
        · rw [if_neg g2]; omega
    refine ⟨?_, .inr ⟨rfl, hy.2.2⟩⟩
    unfold contC
    rw [if_neg (by decide), hy.2.1, tw_d2 hy.1, tw_d2 hn.2.1, tw_d2 hn.2.2.1, tw_d2 hn.2.2.2.1, tw_d2 hn.2.2.2.2.1, tw_d2 hn.2.2.2.2.2]
    have e9 := getD_90 h9
    clear h9 hR hn r0 r2 hy
    match l, hl with
    | [x0, x1, x2, x3, x4, x5, x6, x7, x8, x9, x10, x11, x12], _ => simp at e9 ⊢; exact e9.symm
  · rw [show offK 24 = 4 from rfl] at *
    have hy : 0 ≤ d2 l 0 ∧ 0 ≤ d2 l 2 ∧ yrS 24 l / 100 = d2 l 0 ∧ yrS 24 l % 100 = d2 l 2 := by
      have := hn.1
      unfold yrS at this ⊢
      rw [if_pos rfl] at this ⊢
      by_cases g : d2 l 0 < 0 ∨ d2 l 2 < 0
      · rw [if_pos g] at this; omega
      · rw [if_neg g] at this ⊢; omega
    refine ⟨?_, .inl rfl⟩
    unfold contC
    rw [if_pos rfl, hy.2.2.1, hy.2.2.2, tw_d2 hy.1, tw_d2 hy.2.1, tw_d2 hn.2.1, tw_d2 hn.2.2.1, tw_d2 hn.2.2.2.1, tw_d2 hn.2.2.2.2.1, tw_d2 hn.2.2.2.2.2]
    have e9 := getD_90 h9
    clear h9 hR hn r0 r2 hy
    match l, hl with
    | [x0, x1, x2, x3, x4, x5, x6, x7, x8, x9, x10, x11, x12, x13, x14], _ => simp at e9 ⊢; exact e9.symm

/-! ### order -/

theorem cmpB_tw {z z' : Int} (h0 : 0 ≤ z) (h1 : z < 100) (h0' : 0 ≤ z') (h1' : z' < 100) (p q : List UInt8) :
    Lib.compareBytes (tw z ++ p) (tw z' ++ q) = if z < z' then -1 else if z' < z then 1 else Lib.compareBytes p q := by
  have a0 := nth_tw0 z h0 h1
  have a1 := nth_tw1 z h0 h1
  have b0 := nth_tw0 z' h0' h1'
  have b1 := nth_tw1 z' h0' h1'
  have hc : ∀ (x y : UInt8) (a b : List UInt8), Lib.compareBytes (x :: a) (y :: b) = if x.toNat < y.toNat then -1 else if y.toNat < x.toNat then 1 else Lib.compareBytes a b := by
    intro x y a b; simp [Lib.compareBytes, UInt8.lt_iff_toNat_lt]
  simp only [tw, List.cons_append, List.nil_append]
  rw [hc, hc]
  generalize (UInt8.ofNat (48 + z / 10).toNat).toNat = A at *
  generalize (UInt8.ofNat (48 + z % 10).toNat).toNat = B at *
  generalize (UInt8.ofNat (48 + z' / 10).toNat).toNat = A' at *
  generalize (UInt8.ofNat (48 + z' % 10).toNat).toNat = B' at *
  repeat' split
  all_goals first | rfl | (exfalso; omega)
/-- Of two numbers. -/
def cmpZ2 (a b : Int) : Int := if a < b then -1 else if b < a then 1 else 0
theorem cont_cmp {k y m d a b c y' m' d' a' b' c' : Int} (h : RgtC y m d a b c) (h' : RgtC y' m' d' a' b' c') (hk : k = 24 ∨ (k ≠ 24 ∧ (y / 100 = y' / 100))) :
    Lib.compareBytes (contC k y m d a b c) (contC k y' m' d' a' b' c') = cmpZ2 (sec y m d a b c) (sec y' m' d' a' b' c') := by
  have key : ∀ A A' q q' : Int, (0 ≤ A ∧ A < 100) → (0 ≤ A' ∧ A' < 100) → A = y / 100 → A' = y' / 100 → q = y % 100 → q' = y' % 100 →
      (if A < A' then -1 else if A' < A then 1 else if q < q' then -1 else if q' < q then 1 else if m < m' then -1 else if m' < m then 1 else if d < d' then -1 else if d' < d then 1
        else if a < a' then -1 else if a' < a then 1 else if b < b' then -1 else if b' < b then 1 else if c < c' then -1 else if c' < c then 1 else (0 : Int)) = cmpZ2 (sec y m d a b c) (sec y' m' d' a' b' c') := by
    intro A A' q q' hA hA' eA eA' eq eq'
    have hlt : Lt3 y m d y' m' d' → num y m d < num y' m' d' := num_lt h.1 h'.1
    have hgt : Lt3 y' m' d' y m d → num y' m' d' < num y m d := num_lt h'.1 h.1
    have heq : y = y' ∧ m = m' ∧ d = d' → num y m d = num y' m' d' := by rintro ⟨rfl, rfl, rfl⟩; rfl
    unfold Lt3 at hlt hgt
    obtain ⟨_, h2, h3, h4⟩ := h
    obtain ⟨_, k2, k3, k4⟩ := h'
    unfold cmpZ2 sec
    generalize num y m d = N at *
    generalize num y' m' d' = N' at *
    by_cases t1 : y < y'
    · have := hlt (.inl t1)
      by_cases t2 : A < A'
      · rw [if_pos t2, if_pos (by omega)]
      · rw [if_neg t2, if_neg (by omega), if_pos (by omega), if_pos (by omega)]
    by_cases t1' : y' < y
    · have := hgt (.inl t1')
      by_cases t2 : A' < A
      · rw [if_neg (by omega), if_pos t2, if_neg (by omega), if_pos (by omega)]
      · rw [if_neg (by omega), if_neg t2, if_neg (by omega), if_pos (by omega), if_neg (by omega), if_pos (by omega)]
    have ey : y = y' := by omega
    rw [if_neg (by omega), if_neg (by omega), if_neg (by omega), if_neg (by omega)]
    by_cases t3 : m < m'
    · have := hlt (.inr ⟨ey, .inl t3⟩)
      rw [if_pos t3, if_pos (by omega)]
    by_cases t3' : m' < m
    · have := hgt (.inr ⟨ey.symm, .inl t3'⟩)
      rw [if_neg t3, if_pos t3', if_neg (by omega), if_pos (by omega)]
    have em : m = m' := by omega
    rw [if_neg t3, if_neg t3']
    by_cases t4 : d < d'
    · have := hlt (.inr ⟨ey, .inr ⟨em, t4⟩⟩)
      rw [if_pos t4, if_pos (by omega)]
    by_cases t4' : d' < d
    · have := hgt (.inr ⟨ey.symm, .inr ⟨em.symm, t4'⟩⟩)
      rw [if_neg t4, if_pos t4', if_neg (by omega), if_pos (by omega)]
    have := heq ⟨ey, em, by omega⟩
    rw [if_neg t4, if_neg t4']
    clear hlt hgt heq t1 t1' t3 t3' t4 t4' eA eA' eq eq' hA hA'
    repeat' split
    all_goals first | rfl | (exfalso; omega)
  have hm := h.1.month
  have hm' := h'.1.month
  have hd := dys_le y m
  have hd' := dys_le y' m'
  obtain ⟨⟨g1, g2, g3, g4⟩, g5, g6, g7⟩ := id h
  obtain ⟨⟨j1, j2, j3, j4⟩, j5, j6, j7⟩ := id h'
  rw [← key (y / 100) (y' / 100) (y % 100) (y' % 100) (by omega) (by omega) rfl rfl rfl rfl]
  unfold contC
  have hr : Lib.compareBytes [90] [90] = 0 := by decide
  rcases hk with rfl | ⟨hk, he⟩
  · rw [if_pos rfl, if_pos rfl]
    rw [cmpB_tw (by omega) (by omega) (by omega) (by omega), cmpB_tw (by omega) (by omega) (by omega) (by omega), cmpB_tw (by omega) (by omega) (by omega) (by omega), cmpB_tw (by omega) (by omega) (by omega) (by omega),
      cmpB_tw (by omega) (by omega) (by omega) (by omega), cmpB_tw (by omega) (by omega) (by omega) (by omega), cmpB_tw (by omega) (by omega) (by omega) (by omega), hr]
  · rw [if_neg hk, if_neg hk, List.nil_append, List.nil_append]
    rw [cmpB_tw (by omega) (by omega) (by omega) (by omega), cmpB_tw (by omega) (by omega) (by omega) (by omega), cmpB_tw (by omega) (by omega) (by omega) (by omega), cmpB_tw (by omega) (by omega) (by omega) (by omega),
      cmpB_tw (by omega) (by omega) (by omega) (by omega), cmpB_tw (by omega) (by omega) (by omega) (by omega), hr]
    rw [if_neg (show ¬ y / 100 < y' / 100 by omega), if_neg (show ¬ y' / 100 < y / 100 by omega)]
end Go.Proofs.YtepbjjhidemaiaaGreat
