/-
  What needs no program: bit strings and their bits, flags and their strings.
-/
import Derived.Test.YtjcddbcokiaehaaVal
namespace Go.Proofs.Ytjcddbcokiaehaa
open Go.RowKit
set_option linter.unusedVariables false
set_option linter.unusedSimpArgs false
set_option maxRecDepth 4000

/-! ### the bits of a byte -/

/-- Bit t of a byte, the greatest first. -/
def bitN (n t : Nat) : Nat := n / 2 ^ (7 - t) % 2
def bt8 (z : Int) (t : Nat) : Int := z / 2 ^ (7 - t) % 2
theorem bt8_cast (n t : Nat) : bt8 (n : Int) t = (bitN n t : Int) := by
  unfold bt8 bitN; push_cast; rfl
theorem bitN_le (n t : Nat) : bitN n t ≤ 1 := by unfold bitN; omega
theorem bt8_01 (z : Int) (t : Nat) : bt8 z t = 0 ∨ bt8 z t = 1 := by unfold bt8; omega

/-- The byte of eight bits. -/
def pk (a b c d e f g h : Bool) : Nat := 128 * a.toNat + 64 * b.toNat + 32 * c.toNat + 16 * d.toNat + 8 * e.toNat + 4 * f.toNat + 2 * g.toNat + h.toNat
theorem pk_lt (a b c d e f g h : Bool) : pk a b c d e f g h < 256 := by
  unfold pk
  have h1 := Bool.toNat_le a; have h2 := Bool.toNat_le b; have h3 := Bool.toNat_le c; have h4 := Bool.toNat_le d
  have h5 := Bool.toNat_le e; have h6 := Bool.toNat_le f; have h7 := Bool.toNat_le g; have h8 := Bool.toNat_le h
  omega
def packN (f : Nat → Bool) : Nat := pk (f 0) (f 1) (f 2) (f 3) (f 4) (f 5) (f 6) (f 7)
theorem packN_lt (f : Nat → Bool) : packN f < 256 := pk_lt _ _ _ _ _ _ _ _
theorem packN_congr {f g : Nat → Bool} (h : ∀ t, t < 8 → f t = g t) : packN f = packN g := by
  unfold packN
  rw [h 0 (by omega), h 1 (by omega), h 2 (by omega), h 3 (by omega), h 4 (by omega), h 5 (by omega), h 6 (by omega), h 7 (by omega)]

theorem t8 {t : Nat} (h : t < 8) : t = 0 ∨ t = 1 ∨ t = 2 ∨ t = 3 ∨ t = 4 ∨ t = 5 ∨ t = 6 ∨ t = 7 := by omega
theorem toNat_one (b : Bool) : (b.toNat == 1) = b := by cases b <;> rfl
theorem pk_bit (f : Nat → Bool) {t : Nat} (ht : t < 8) : bitN (packN f) t = (f t).toNat := by
  have h1 := Bool.toNat_le (f 0); have h2 := Bool.toNat_le (f 1); have h3 := Bool.toNat_le (f 2); have h4 := Bool.toNat_le (f 3)
  have h5 := Bool.toNat_le (f 4); have h6 := Bool.toNat_le (f 5); have h7 := Bool.toNat_le (f 6); have h8 := Bool.toNat_le (f 7)
  unfold bitN packN pk
  rcases t8 ht with rfl | rfl | rfl | rfl | rfl | rfl | rfl | rfl <;> simp only [Nat.reduceSub, Nat.reducePow] <;> omega
theorem pk_self {n : Nat} (hn : n < 256) : packN (fun t => bitN n t == 1) = n := by
  have key : ∀ n, n < 256 → packN (fun t => bitN n t == 1) = n := by decide +kernel
  exact key n hn
/-- The last u bits are 0. -/
theorem low_zero {n u : Nat} (hn : n < 256) (hu : u < 8) : n % 2 ^ u = 0 ↔ ∀ t, t < 8 → 8 - u ≤ t → bitN n t = 0 := by
  have key : ∀ n, n < 256 → ∀ u, u < 8 → (n % 2 ^ u = 0 ↔ ∀ t, t < 8 → 8 - u ≤ t → bitN n t = 0) := by decide +kernel
  exact key n hn u hu

/-! ### all bits of bytes -/

def nthN (l : List UInt8) (k : Nat) : Nat := (l.getD k 0).toNat
theorem nth_nthN (l : List UInt8) (k : Nat) : nth l k = (nthN l k : Int) := rfl
theorem nthN_lt (l : List UInt8) (k : Nat) : nthN l k < 256 := UInt8.toNat_lt _

def bts (z : Int) : List Int := (List.range 8).map (bt8 z)
def allB (l : List UInt8) : List Int := l.flatMap fun x => bts (x.toNat : Int)
theorem bts_len (z : Int) : (bts z).length = 8 := by simp [bts]
theorem allB_cons (x : UInt8) (l : List UInt8) : allB (x :: l) = bts (x.toNat : Int) ++ allB l := rfl
theorem allB_append (a b : List UInt8) : allB (a ++ b) = allB a ++ allB b := by simp [allB]
theorem allB_len (l : List UInt8) : (allB l).length = 8 * l.length := by
  induction l with
  | nil => rfl
  | cons x l ih => rw [allB_cons, List.length_append, ih, bts_len, List.length_cons]; omega
/-- Bit i of bytes. -/
def bitS (l : List UInt8) (i : Nat) : Bool := bitN (nthN l (i / 8)) (i % 8) == 1
theorem allB_get : ∀ (l : List UInt8) (i : Nat), i < 8 * l.length → (allB l)[i]? = some ((bitS l i).toNat : Int)
  | [], i, h => by simp at h
  | x :: l, i, h => by
    rw [allB_cons]
    have hb : ∀ (n t : Nat), bitN n t = (bitN n t == 1).toNat := by
      intro n t
      have := bitN_le n t
      rcases Nat.eq_zero_or_pos (bitN n t) with h0 | h0
      · rw [h0]; rfl
      · rw [show bitN n t = 1 by omega]; rfl
    by_cases hi : i < 8
    · rw [List.getElem?_append_left (by rw [bts_len]; exact hi)]
      have e1 : i / 8 = 0 := by omega
      have e2 : i % 8 = i := by omega
      unfold bts bitS
      rw [List.getElem?_map, List.getElem?_range hi, e1, e2, Option.map_some, bt8_cast, hb]
      rfl
    · rw [List.getElem?_append_right (by rw [bts_len]; omega), bts_len, allB_get l (i - 8) (by simp at h; omega)]
      unfold bitS nthN
      rw [show i / 8 = (i - 8) / 8 + 1 by omega, show i % 8 = (i - 8) % 8 by omega, List.getD_cons_succ]

/-! ### bit strings -/

/-- The last byte. -/
def lastN (l : List UInt8) : Nat := nthN l (l.length - 1)
/-- Whether it is a bit string. -/
def rightS (u : Int) (l : List UInt8) : Bool := if l.length = 0 then u == 0 else (decide (0 ≤ u) && decide (u < 8)) && (lastN l % 2 ^ u.toNat == 0)
/-- How many bits. -/
def lenS (u : Int) (l : List UInt8) : Nat := 8 * l.length - u.toNat
theorem rightS_nil {u : Int} {l : List UInt8} (h : l.length = 0) : rightS u l = (u == 0) := by unfold rightS; rw [if_pos h]
theorem rightS_cons {u : Int} {l : List UInt8} (h : l.length ≠ 0) : rightS u l = ((decide (0 ≤ u) && decide (u < 8)) && (lastN l % 2 ^ u.toNat == 0)) := by unfold rightS; rw [if_neg h]
theorem right_u {u : Int} {l : List UInt8} (h : rightS u l = true) : 0 ≤ u ∧ u < 8 ∧ (l.length = 0 → u = 0) ∧ lastN l % 2 ^ u.toNat = 0 := by
  by_cases h0 : l.length = 0
  · rw [rightS_nil h0] at h
    have : u = 0 := by simpa using h
    subst this
    exact ⟨by omega, by omega, fun _ => rfl, by simp [Nat.mod_one]⟩
  · rw [rightS_cons h0] at h
    simp at h
    exact ⟨h.1.1, h.1.2, fun e => absurd e h0, h.2⟩
/-- Unused bits are 0. -/
theorem right_low {u : Int} {l : List UInt8} (h : rightS u l = true) {i : Nat} (h1 : lenS u l ≤ i) (h2 : i < 8 * l.length) : bitS l i = false := by
  obtain ⟨h0, h8, _, hl⟩ := right_u h
  have hz := (low_zero (nthN_lt l (l.length - 1)) (u := u.toNat) (by omega)).1 hl (i % 8)
  unfold lenS at h1
  unfold bitS
  rw [show i / 8 = l.length - 1 by omega, hz (by omega) (by omega)]
  rfl
/-- Bits of a right string. -/
def bitsS (u : Int) (l : List UInt8) : List Int := (allB l).take (lenS u l)
theorem bitsS_len {u : Int} {l : List UInt8} : (bitsS u l).length = lenS u l := by
  unfold bitsS; rw [List.length_take, allB_len]; unfold lenS; omega
theorem bitsS_get {u : Int} {l : List UInt8} {i : Nat} (h : i < lenS u l) : zth (bitsS u l) i = ((bitS l i).toNat : Int) := by
  unfold zth bitsS
  rw [List.getD_eq_getElem?_getD, List.getElem?_take_of_lt h, allB_get l i (by unfold lenS at h; omega)]
  rfl

/-! ### flags -/

def flagsN (l : List UInt8) (n : Nat) : List Nat := (List.range n).filter (bitS l)
def flagsS (l : List UInt8) (n : Nat) : List Int := (flagsN l n).map Int.ofNat
theorem flagsS_succ_t {l : List UInt8} {n : Nat} (h : bitS l n = true) : flagsS l (n + 1) = flagsS l n ++ [(n : Int)] := by
  unfold flagsS flagsN; rw [List.range_succ, List.filter_append]; simp [h]
theorem flagsS_succ_f {l : List UInt8} {n : Nat} (h : bitS l n = false) : flagsS l (n + 1) = flagsS l n := by
  unfold flagsS flagsN; rw [List.range_succ, List.filter_append]; simp [h]
theorem flagsS_len (l : List UInt8) (n : Nat) : (flagsS l n).length ≤ n := by
  unfold flagsS flagsN
  rw [List.length_map]
  exact Nat.le_trans (List.length_filter_le _ _) (by simp)
/-- No string of flags: too long, or its last bit is 0. -/
def notFl (l : List UInt8) (n : Nat) : Bool := decide (32 < n) || (decide (0 < n) && !bitS l (n - 1))
/-- The flags of a string, and an error's number. -/
def flgS (u : Int) (l : List UInt8) : List Int × Int :=
  if rightS u l = false then ([], 1) else if notFl l (lenS u l) = true then ([], 6) else (flagsS l (lenS u l), 0)

/-- Ascending from m on, below 32. -/
def isFl : Int → List Int → Bool
  | _, [] => true
  | m, z :: r => (decide (m ≤ z) && decide (z < 32)) && isFl (z + 1) r
theorem isFl_mem : ∀ {l : List Int} {m : Int}, isFl m l = true → ∀ z ∈ l, m ≤ z ∧ z < 32
  | [], _, _, z, hz => by simp at hz
  | x :: l, m, h, z, hz => by
    simp only [isFl, Bool.and_eq_true, decide_eq_true_eq] at h
    rcases List.mem_cons.1 hz with rfl | hz
    · exact h.1
    · have := isFl_mem h.2 z hz; omega
theorem isFl_asc : ∀ {l : List Int} {m : Int}, isFl m l = true → l.Pairwise (· < ·)
  | [], _, _ => List.Pairwise.nil
  | x :: l, m, h => by
    simp only [isFl, Bool.and_eq_true, decide_eq_true_eq] at h
    exact List.pairwise_cons.2 ⟨fun z hz => by have := isFl_mem h.2 z hz; omega, isFl_asc h.2⟩
theorem isFl_of : ∀ {l : List Int} {m : Int}, l.Pairwise (· < ·) → (∀ z ∈ l, m ≤ z ∧ z < 32) → isFl m l = true
  | [], _, _, _ => rfl
  | x :: l, m, h, hb => by
    have hx := hb x (by simp)
    obtain ⟨h1, h2⟩ := List.pairwise_cons.1 h
    simp only [isFl, Bool.and_eq_true, decide_eq_true_eq]
    exact ⟨hx, isFl_of h2 fun z hz => ⟨by have := h1 z hz; omega, (hb z (by simp [hz])).2⟩⟩
/-- The least flag that may come next. -/
def nextF (l : List Int) (k : Nat) : Int := if k = 0 then 0 else zth l (k - 1) + 1
theorem isFl_take_succ : ∀ {l : List Int} {k : Nat} {m : Int}, k < l.length → isFl m (l.take (k + 1)) = (isFl m (l.take k) && (decide ((if k = 0 then m else zth l (k - 1) + 1) ≤ zth l k) && decide (zth l k < 32)))
  | [], k, m, h => by simp at h
  | x :: l, 0, m, h => by simp [isFl, zth]
  | x :: l, k + 1, m, h => by
    have := isFl_take_succ (l := l) (k := k) (m := x + 1) (by simpa using h)
    have e : zth (x :: l) (k + 1) = zth l k := by simp [zth]
    have e2 : (if k + 1 = 0 then m else zth (x :: l) (k + 1 - 1) + 1) = (if k = 0 then x + 1 else zth l (k - 1) + 1) := by
      rw [if_neg (show ¬ k + 1 = 0 by omega), Nat.add_sub_cancel]
      cases k with
      | zero => simp [zth]
      | succ j => simp [zth]
    rw [List.take_succ_cons, List.take_succ_cons, isFl, isFl, this, ← Bool.and_assoc, e, e2]
theorem isFl_split {l : List Int} {k : Nat} (h : isFl 0 l = true) : isFl 0 (l.take k) = true := by
  refine isFl_of ((isFl_asc h).sublist (List.take_sublist _ _)) fun z hz => isFl_mem h z (List.mem_of_mem_take hz)
theorem isFl_wrong {l : List Int} {k : Nat} (h : isFl 0 (l.take k) = false) : isFl 0 l = false := by
  cases hl : isFl 0 l
  · rfl
  · rw [isFl_split hl] at h; cases h

/-- The bytes of flags. -/
def ofB (l : List Int) (nb : Nat) : List UInt8 := (List.range nb).map fun j => UInt8.ofNat (packN fun t => decide (((8 * j + t : Nat) : Int) ∈ l))
/-- The string of flags. -/
def ofS (l : List Int) : Int × List UInt8 := if l.length = 0 then (0, []) else (7 - zth l (l.length - 1) % 8, ofB l ((zth l (l.length - 1)).toNat / 8 + 1))
theorem ofB_len (l : List Int) (nb : Nat) : (ofB l nb).length = nb := by simp [ofB]
theorem ofB_nth {l : List Int} {nb j : Nat} (h : j < nb) : nthN (ofB l nb) j = packN fun t => decide (((8 * j + t : Nat) : Int) ∈ l) := by
  unfold nthN ofB
  rw [List.getD_eq_getElem?_getD, List.getElem?_map, List.getElem?_range h, Option.map_some, Option.getD_some]
  have := packN_lt fun t => decide (((8 * j + t : Nat) : Int) ∈ l)
  rw [UInt8.toNat_ofNat']; omega
theorem ofB_bit {l : List Int} {nb i : Nat} (h : i < 8 * nb) : bitS (ofB l nb) i = decide ((i : Int) ∈ l) := by
  unfold bitS
  rw [ofB_nth (by omega), pk_bit _ (by omega), toNat_one, show 8 * (i / 8) + i % 8 = i by omega]

theorem asc_ext : ∀ {a b : List Int}, a.Pairwise (· < ·) → b.Pairwise (· < ·) → (∀ x, x ∈ a ↔ x ∈ b) → a = b
  | [], [], _, _, _ => rfl
  | [], y :: b, _, _, h => by have := (h y).2 (by simp); simp at this
  | x :: a, [], _, _, h => by have := (h x).1 (by simp); simp at this
  | x :: a, y :: b, ha, hb, h => by
    obtain ⟨a1, a2⟩ := List.pairwise_cons.1 ha
    obtain ⟨b1, b2⟩ := List.pairwise_cons.1 hb
    have hxy : x = y := by
      have h1 := (h x).1 (by simp)
      have h2 := (h y).2 (by simp)
      rcases List.mem_cons.1 h1 with e | h1
      · exact e
      · rcases List.mem_cons.1 h2 with e | h2
        · exact e.symm
        · have := a1 _ h2; have := b1 _ h1; omega
    subst hxy
    rw [asc_ext a2 b2 fun z => ?_]
    constructor
    · intro hz
      have := (h z).1 (by simp [hz])
      rcases List.mem_cons.1 this with e | this
      · subst e; have := a1 _ hz; omega
      · exact this
    · intro hz
      have := (h z).2 (by simp [hz])
      rcases List.mem_cons.1 this with e | this
      · subst e; have := b1 _ hz; omega
      · exact this

theorem flagsS_mem {l : List UInt8} {n : Nat} {z : Int} : z ∈ flagsS l n ↔ 0 ≤ z ∧ z < n ∧ bitS l z.toNat = true := by
  unfold flagsS flagsN
  rw [List.mem_map]
  constructor
  · rintro ⟨i, hi, rfl⟩
    rw [List.mem_filter, List.mem_range] at hi
    have e : (Int.ofNat i).toNat = i := rfl
    refine ⟨by simp, by simpa using hi.1, by rw [e]; exact hi.2⟩
  · rintro ⟨h0, h1, h2⟩
    refine ⟨z.toNat, ?_, by simp; omega⟩
    rw [List.mem_filter, List.mem_range]
    exact ⟨by omega, h2⟩
theorem flagsS_asc (l : List UInt8) (n : Nat) : (flagsS l n).Pairwise (· < ·) := by
  unfold flagsS flagsN
  rw [List.pairwise_map]
  exact (List.pairwise_lt_range.filter _).imp fun h => by simpa using h

theorem zth_last_mem {l : List Int} (h : l.length ≠ 0) : zth l (l.length - 1) ∈ l := by
  unfold zth
  rw [List.getD_eq_getElem?_getD, List.getElem?_eq_getElem (by omega)]
  exact List.getElem_mem _
theorem asc_last {l : List Int} (h : l.Pairwise (· < ·)) : ∀ z ∈ l, z ≤ zth l (l.length - 1) := by
  intro z hz
  obtain ⟨i, hi, rfl⟩ := List.getElem_of_mem hz
  have hl : zth l (l.length - 1) = l[l.length - 1]'(by omega) := by
    unfold zth; rw [List.getD_eq_getElem?_getD, List.getElem?_eq_getElem (by omega)]; rfl
  rw [hl]
  rcases Nat.lt_or_ge i (l.length - 1) with h1 | h1
  · have := List.pairwise_iff_getElem.1 h i (l.length - 1) hi (by omega) h1
    omega
  · have : i = l.length - 1 := by omega
    subst this
    exact Int.le_refl _

/-- There. -/
theorem of_right {l : List Int} (h : isFl 0 l = true) : rightS (ofS l).1 (ofS l).2 = true ∧ flgS (ofS l).1 (ofS l).2 = (l, 0) := by
  by_cases h0 : l.length = 0
  · have : l = [] := List.eq_nil_of_length_eq_zero h0
    subst this
    exact ⟨rfl, rfl⟩
  · have hb := isFl_mem h
    have hasc := isFl_asc h
    have hm := zth_last_mem h0
    have hle := asc_last hasc
    have hg := hb _ hm
    unfold ofS
    rw [if_neg h0]
    generalize zth l (l.length - 1) = g at *
    obtain ⟨n, rfl⟩ : ∃ n : Nat, g = n := ⟨g.toNat, by omega⟩
    simp only [Int.toNat_natCast]
    have hR : rightS (7 - (n : Int) % 8) (ofB l (n / 8 + 1)) = true := by
      rw [rightS_cons (by rw [ofB_len]; omega)]
      simp only [Bool.and_eq_true, decide_eq_true_eq, beq_iff_eq]
      refine ⟨by omega, ?_⟩
      unfold lastN
      rw [ofB_len]
      refine (low_zero (nthN_lt _ _) (by omega)).2 fun t ht h1 => ?_
      rw [ofB_nth (by omega), pk_bit _ ht]
      have : ¬ ((8 * (n / 8 + 1 - 1) + t : Nat) : Int) ∈ l := fun hc => by have := hle _ hc; omega
      rw [decide_eq_false this]; rfl
    have hL : lenS (7 - (n : Int) % 8) (ofB l (n / 8 + 1)) = n + 1 := by unfold lenS; rw [ofB_len]; omega
    refine ⟨hR, ?_⟩
    unfold flgS
    rw [if_neg (by rw [hR]; simp), hL]
    have hlast : bitS (ofB l (n / 8 + 1)) n = true := by rw [ofB_bit (by omega)]; exact decide_eq_true hm
    rw [if_neg (by simp [notFl, hlast]; omega)]
    refine Prod.ext ?_ rfl
    show flagsS _ _ = l
    refine asc_ext (flagsS_asc _ _) hasc fun z => ?_
    rw [flagsS_mem]
    constructor
    · rintro ⟨z0, z1, z2⟩
      rw [ofB_bit (by omega)] at z2
      have := of_decide_eq_true z2
      rw [Int.toNat_of_nonneg z0] at this
      exact this
    · intro hz
      have h1 := hb z hz
      have h2 := hle z hz
      refine ⟨h1.1, by omega, ?_⟩
      rw [ofB_bit (by omega), Int.toNat_of_nonneg h1.1]
      exact decide_eq_true hz

/-- And back. -/
theorem flg_back {u : Int} {l : List UInt8} (hr : rightS u l = true) (hn : notFl l (lenS u l) = false) : isFl 0 (flagsS l (lenS u l)) = true ∧ ofS (flagsS l (lenS u l)) = (u, l) := by
  obtain ⟨h0, h8, hz, _⟩ := right_u hr
  have hlow := fun i => @right_low u l hr i
  simp only [notFl, Bool.or_eq_false_iff, decide_eq_false_iff_not, Bool.and_eq_false_iff, Bool.not_eq_false'] at hn
  obtain ⟨n32, hlast⟩ := hn
  refine ⟨isFl_of (flagsS_asc _ _) fun z hz => ?_, ?_⟩
  · have := flagsS_mem.1 hz; omega
  · have hd : lenS u l = 8 * l.length - u.toNat := rfl
    by_cases hl : l.length = 0
    · have hu := hz hl
      have : l = [] := List.eq_nil_of_length_eq_zero hl
      subst this hu
      rfl
    · have hpos : 0 < lenS u l := by omega
      have hb : bitS l (lenS u l - 1) = true := by
        rcases hlast with h | h
        · exact absurd hpos h
        · exact h
      obtain ⟨n, hnn⟩ : ∃ n, lenS u l = n + 1 := ⟨lenS u l - 1, by omega⟩
      rw [hnn] at hb hlow hd ⊢
      rw [Nat.add_sub_cancel] at hb
      have hfl := flagsS_succ_t hb
      have hne : (flagsS l (n + 1)).length ≠ 0 := by rw [hfl]; simp
      have hg : zth (flagsS l (n + 1)) ((flagsS l (n + 1)).length - 1) = n := by
        rw [hfl]; unfold zth; simp
      unfold ofS
      rw [if_neg hne, hg, Int.toNat_natCast]
      refine Prod.ext (by show 7 - (n : Int) % 8 = u; omega) ?_
      show ofB _ (n / 8 + 1) = l
      have hnb : n / 8 + 1 = l.length := by omega
      rw [hnb]
      apply List.ext_getElem
      · rw [ofB_len]
      · intro j h1 h2
        have e1 : nthN (ofB (flagsS l (n + 1)) l.length) j = ((ofB (flagsS l (n + 1)) l.length)[j]).toNat := by
          unfold nthN; rw [List.getD_eq_getElem?_getD, List.getElem?_eq_getElem h1]; rfl
        have e2 : nthN l j = (l[j]).toNat := by unfold nthN; rw [List.getD_eq_getElem?_getD, List.getElem?_eq_getElem h2]; rfl
        refine UInt8.toNat_inj.1 ?_
        rw [← e1, ← e2, ofB_nth h2]
        rw [← pk_self (nthN_lt l j)]
        refine packN_congr fun t ht => ?_
        have hbt : (bitN (nthN l j) t == 1) = bitS l (8 * j + t) := by
          unfold bitS; rw [show (8 * j + t) / 8 = j by omega, show (8 * j + t) % 8 = t by omega]
        rw [hbt]
        by_cases hin : 8 * j + t < n + 1
        · cases hv : bitS l (8 * j + t)
          · refine decide_eq_false fun hc => ?_
            have := (flagsS_mem.1 hc).2.2
            rw [Int.toNat_natCast, hv] at this
            cases this
          · exact decide_eq_true (flagsS_mem.2 ⟨by omega, by omega, by rw [Int.toNat_natCast]; exact hv⟩)
        · rw [hlow _ (by omega) (by omega)]
          exact decide_eq_false fun hc => by have := (flagsS_mem.1 hc).2.1; omega

/-- Contents. -/
def contS (u : Int) (l : List UInt8) : List UInt8 := UInt8.ofNat u.toNat :: l
/-- The string of contents. -/
def prsS (b : List UInt8) : Option (Int × List UInt8) := match b with
  | [] => none
  | x :: r => if rightS (x.toNat : Int) r = true then some ((x.toNat : Int), r) else none
theorem prs_cont5 {u : Int} {l : List UInt8} (h : rightS u l = true) : prsS (contS u l) = some (u, l) := by
  obtain ⟨h0, h8, _⟩ := right_u h
  have e : ((UInt8.ofNat u.toNat).toNat : Int) = u := by rw [UInt8.toNat_ofNat']; omega
  unfold contS prsS
  simp only
  rw [e, if_pos h]
theorem cont_prs5 {b : List UInt8} {u : Int} {l : List UInt8} (h : prsS b = some (u, l)) : rightS u l = true ∧ contS u l = b := by
  unfold prsS at h
  split at h
  · cases h
  · rename_i x r
    split at h
    · rename_i hr
      cases h
      refine ⟨hr, ?_⟩
      unfold contS
      rw [Int.toNat_natCast]
      simp
    · cases h

end Go.Proofs.Ytjcddbcokiaehaa
