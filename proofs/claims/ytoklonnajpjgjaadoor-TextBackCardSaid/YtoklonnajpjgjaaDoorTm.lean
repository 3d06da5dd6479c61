/-
  What the reference reads as UTF-8, against the library's way; the contract of the reference's Utf8.
-/
import Derived.Test.YtoklonnajpjgjaaDoorTl
namespace Go.Proofs.YtoklonnajpjgjaaDoor
open Go.RowKit Go.Shelf
set_option linter.unusedVariables false
set_option linter.unusedSimpArgs false
set_option maxRecDepth 4000

def leadN (c : Int) : Int := if c ≥ 240 then c - 240 else if c ≥ 224 then c - 224 else if c ≥ 192 then c - 192 else c
def leadM (c : Int) : Nat := if c ≥ 240 then 3 else if c ≥ 224 then 2 else if c ≥ 192 then 1 else 0
theorem leadM_le (c : Int) : leadM c ≤ 3 := by unfold leadM; (repeat' split) <;> omega
/-- The number when j further bytes have come. -/
def foldW (l : List UInt8) (n : Int) : Nat → Int
  | 0 => n
  | j + 1 => 64 * foldW l n j + nth l (j + 1) % 64
def looseN (l : List UInt8) : Int := foldW l (leadN (nth l 0)) (min (leadM (nth l 0)) (l.length - 1))
def looseS (l : List UInt8) : Nat := leadM (nth l 0) + 1
def looseL (l : List UInt8) : Option (List Int) :=
  if h : l = [] then some [] else if looseN l > 1114111 then none else (looseL (l.drop (looseS l))).map (looseN l :: ·)
termination_by l.length
decreasing_by
  have : 0 < l.length := List.length_pos_iff.2 h
  rw [List.length_drop]; unfold looseS; omega
theorem looseL_nil : looseL [] = some [] := by rw [looseL]; simp
theorem looseL_big (l : List UInt8) (h : l ≠ []) (hb : looseN l > 1114111) : looseL l = none := by rw [looseL]; simp [h, hb]
theorem looseL_step (l : List UInt8) (h : l ≠ []) (hb : ¬ looseN l > 1114111) : looseL l = (looseL (l.drop (looseS l))).map (looseN l :: ·) := by rw [looseL]; simp only [h, hb, if_false, dif_neg, not_false_eq_true]
theorem foldW_bound (l : List UInt8) (n : Int) (h0 : 0 ≤ n) (h1 : n ≤ 255) : ∀ j, j ≤ 3 → 0 ≤ foldW l n j ∧ foldW l n j ≤ 100000000
  | 0, _ => ⟨h0, by simp only [foldW]; omega⟩
  | 1, _ => by have := nth_bound l 1; simp only [foldW]; omega
  | 2, _ => by have := nth_bound l 1; have := nth_bound l 2; simp only [foldW]; omega
  | 3, _ => by have := nth_bound l 1; have := nth_bound l 2; have := nth_bound l 3; simp only [foldW]; omega
  | j + 4, h => by omega
theorem leadN_bound (l : List UInt8) : 0 ≤ leadN (nth l 0) ∧ leadN (nth l 0) ≤ 255 := by
  have := nth_bound l 0
  unfold leadN; (repeat' split) <;> omega

set_option maxHeartbeats 1000000 in
theorem loose_dec (l : List UInt8) (h : l ≠ []) (hr : (decT 12 l).1 ≠ -1) : looseN l = (decT 12 l).1 ∧ looseS l = (decT 12 l).2 := by
  have hl : 0 < l.length := List.length_pos_iff.2 h
  have hd : decT 12 l = if (Lib.decodeL l).1 = 65533 ∧ (Lib.decodeL l).2 = 1 then (-1, 1) else (((Lib.decodeL l).1 : Int), (Lib.decodeL l).2) := by simp [decT]
  have hv : ¬ ((Lib.decodeL l).1 = 65533 ∧ (Lib.decodeL l).2 = 1) := by
    intro hc; rw [hd, if_pos hc] at hr; exact hr rfl
  rw [hd, if_neg hv]
  rw [Lib.decodeL_N] at hv ⊢
  have k0 := (l.getD 0 0).toNat_lt
  unfold looseN looseS
  have n0 : nth l 0 = ((l.getD 0 0).toNat : Int) := rfl
  have n1 : nth l 1 = ((l.getD 1 0).toNat : Int) := rfl
  have n2 : nth l 2 = ((l.getD 2 0).toNat : Int) := rfl
  have n3 : nth l 3 = ((l.getD 3 0).toNat : Int) := rfl
  rcases Lib.decodeN_shape l.length (l.getD 0 0).toNat (l.getD 1 0).toNat (l.getD 2 0).toNat (l.getD 3 0).toNat with ⟨c, e⟩ | ⟨c1, c2, c3, cv, e⟩ | ⟨c1, c2, c3, c4, cv, cs, e⟩ | ⟨c1, c2, c3, c4, c5, cv, cw, e⟩ | e
  · rw [e]
    have m : leadM (nth l 0) = 0 := by unfold leadM; rw [n0]; (repeat' split) <;> omega
    have q : leadN (nth l 0) = nth l 0 := by unfold leadN; rw [n0]; (repeat' split) <;> omega
    rw [m, q, Nat.zero_min]
    exact ⟨by simp only [foldW]; exact n0, rfl⟩
  · rw [e]
    have m : leadM (nth l 0) = 1 := by unfold leadM; rw [n0]; (repeat' split) <;> omega
    have q : leadN (nth l 0) = nth l 0 - 192 := by unfold leadN; rw [n0]; (repeat' split) <;> omega
    rw [m, q, Nat.min_eq_left (by omega)]
    exact ⟨by simp only [foldW]; rw [n0, n1]; simp only [Int.natCast_add, Int.natCast_mul, Int.natCast_emod]; omega, rfl⟩
  · rw [e]
    have m : leadM (nth l 0) = 2 := by unfold leadM; rw [n0]; (repeat' split) <;> omega
    have q : leadN (nth l 0) = nth l 0 - 224 := by unfold leadN; rw [n0]; (repeat' split) <;> omega
    rw [m, q, Nat.min_eq_left (by omega)]
    exact ⟨by simp only [foldW]; rw [n0, n1, n2]; simp only [Int.natCast_add, Int.natCast_mul, Int.natCast_emod]; omega, rfl⟩
  · rw [e]
    have m : leadM (nth l 0) = 3 := by unfold leadM; rw [n0]; (repeat' split) <;> omega
    have q : leadN (nth l 0) = nth l 0 - 240 := by unfold leadN; rw [n0]; (repeat' split) <;> omega
    rw [m, q, Nat.min_eq_left (by omega)]
    exact ⟨by simp only [foldW]; rw [n0, n1, n2, n3]; simp only [Int.natCast_add, Int.natCast_mul, Int.natCast_emod]; omega, rfl⟩
  · rw [e] at hv; exact absurd ⟨rfl, rfl⟩ hv
/-- What is right is read so. -/
theorem loose_right (l : List UInt8) (h : (runesT 12 l).all (hasT 12) = true) : looseL l = some (runesT 12 l) := by
  induction l using runesT.induct (k := 12) with
  | case1 => rw [runesT_nil, looseL_nil]
  | case2 l hl ih =>
    rw [runesT_step 12 l hl] at h ⊢
    simp only [List.all_cons, Bool.and_eq_true] at h
    have hne : (decT 12 l).1 ≠ -1 := by intro e; rw [e, hasT_neg] at h; exact absurd h.1 (by simp)
    obtain ⟨e1, e2⟩ := loose_dec l hl hne
    have hb := decT_rune 12 l
    rw [looseL_step l hl (by rw [e1]; omega), e1, e2, ih h.2]
    rfl
/-- What is read so, and is said so, is right. -/
theorem right_loose {l : List UInt8} {L : List Int} (hv : L.all (hasT 12) = true) (he : L.flatMap Lib.encodeRune = l) : rightT 12 l = true ∧ runesT 12 l = L := by
  rw [hasT12] at hv
  have := runes_enc12 L hv
  rw [he] at this
  refine ⟨?_, this⟩
  unfold rightT
  rw [this, hasT12, hv]; rfl
theorem right_loose_not {l : List UInt8} {L : List Int} (hL : looseL l = some L) (hr : rightT 12 l = true) : runesT 12 l = L ∧ L.all (hasT 12) = true ∧ L.flatMap Lib.encodeRune = l := by
  unfold rightT at hr
  simp only [Bool.and_eq_true] at hr
  have h1 := loose_right l hr.2
  rw [hL] at h1
  have h2 : L = runesT 12 l := Option.some.inj h1
  refine ⟨h2.symm, by rw [h2]; exact hr.2, ?_⟩
  rw [h2, ← encT12]; exact enc_runes 12 l hr.2

theorem Bs.new3 (w : World) (a b c : UInt8) (x y z : Int) (e : TypeId) (hx : x = (a.toNat : Int)) (hy : y = (b.toNat : Int)) (hz : z = (c.toNat : Int)) : Bs (w.alloc (.cells #[.int .u8 x, .int .u8 y, .int .u8 z] e)) (some ⟨w.heap.size, 0, none⟩) 3 [a, b, c] := by
  subst hx hy hz; exact Bs.newL w [a, b, c] e
theorem Bs.new4 (w : World) (a b c d : UInt8) (x y z t : Int) (e : TypeId) (hx : x = (a.toNat : Int)) (hy : y = (b.toNat : Int)) (hz : z = (c.toNat : Int)) (ht : t = (d.toNat : Int)) : Bs (w.alloc (.cells #[.int .u8 x, .int .u8 y, .int .u8 z, .int .u8 t] e)) (some ⟨w.heap.size, 0, none⟩) 4 [a, b, c, d] := by
  subst hx hy hz ht; exact Bs.newL w [a, b, c, d] e
theorem toB' {z : Int} (h0 : 0 ≤ z) (h1 : z < 256) : z = ((z.toNat.toUInt8).toNat : Int) := (toB z h0 h1).symm

theorem flat_snoc (L : List Int) {k : Nat} (h : k < L.length) : (L.take (k + 1)).flatMap Lib.encodeRune = (L.take k).flatMap Lib.encodeRune ++ Lib.encodeRune (zth L k) := by
  rw [List.take_add_one, List.flatMap_append, List.getElem?_eq_getElem h]; simp [zth, List.getD, List.getElem?_eq_getElem h]
theorem flat_len (L : List Int) : (L.flatMap Lib.encodeRune).length ≤ 4 * L.length := by
  induction L with
  | nil => simp
  | cons x t ih =>
    have := Lib.encodeRuneZ_length x
    simp only [List.flatMap_cons, List.length_append, List.length_cons, Lib.encodeRune, List.length_map] at *
    omega

set_option maxHeartbeats 3200000 in
theorem ref6Utf8 (A : Option Addr) (m c : Nat) (L : List Int) (w : World) (h : Zs w A m L) (hm : m ≤ 1099511) (hv : L.all Lib.validRune = true) :
    Calls Tryd.prog 19 #[.slice A m c] w fun e w' => ∃ v, e = .returned v ∧ Ob w' w.heap.size 5 v (L.flatMap Lib.encodeRune) ∧ Below w.heap.size w w' := by
  obtain ⟨i0, hi, hz0, hz1, hz2⟩ := info_parts u8_info
  have hHl := Lib.hid h.len
  have hHv := Lib.hid hv
  clear hv
  go_enter Tryd.func19, Tryd.ntmps19
  go_wp2
  go_loopw [3, 4] (fun v i wr => ∃ k : Nat, k ≤ m ∧ i = .int .i64 (k : Int) ∧ Ob wr w.heap.size 5 v ((L.take k).flatMap Lib.encodeRune) ∧ Below w.heap.size w wr) (fun v i _ => m - (intOf i).toNat)
  case atStart => exact ⟨0, Nat.zero_le _, rfl, Ob.nil _ _ _, Below.refl _ _⟩
  case round =>
    obtain ⟨k, hk, rfl, hob, hB⟩ := hrel
    have hsz := hB.size
    by_cases hlt : k < m
    · have i1 : (k : Int) < m := by omega
      have d1 : decide (k < m) = true := by simp; omega
      have hzr := h.below hB
      obtain ⟨b, o, rfl, c0⟩ := hzr.at_ hlt
      have hkl : k < L.length := by have := hHl.out; omega
      have hx : Lib.validRune (zth L k) = true := List.all_eq_true.1 hHv.out _ (by simp [zth, List.getD, List.getElem?_eq_getElem hkl])
      have hsn := Lib.hid (flat_snoc L hkl)
      have hfl := flat_len (L.take k)
      rw [List.length_take] at hfl
      have hlen : ((L.take k).flatMap Lib.encodeRune).length ≤ 100000000 := by omega
      rw [valid_iff] at hx
      have hx : (0 ≤ zth L k ∧ zth L k < 55296) ∨ (57343 < zth L k ∧ zth L k ≤ 1114111) := by simpa using hx
      generalize zth L k = n at *
      generalize (L.take k).flatMap Lib.encodeRune = pre at *
      have n0 : 0 ≤ n := by omega
      have hHx := Lib.hid hx
      clear hx hfl hzr
      have t1 : n.tdiv 64 = n / 64 := Int.tdiv_eq_ediv_of_nonneg n0
      have t2 : n.tmod 64 = n % 64 := Int.tmod_eq_emod_of_nonneg n0
      have t3 : n.tdiv 4096 = n / 4096 := Int.tdiv_eq_ediv_of_nonneg n0
      have t4 : n.tdiv 262144 = n / 262144 := Int.tdiv_eq_ediv_of_nonneg n0
      have t5 : (n / 64).tmod 64 = n / 64 % 64 := Int.tmod_eq_emod_of_nonneg (by omega)
      have t6 : (n / 4096).tmod 64 = n / 4096 % 64 := Int.tmod_eq_emod_of_nonneg (by omega)
      by_cases c1 : n < 128
      · clear t1 t2 t3 t4 t5 t6
        have hen := Lib.hid (show Lib.encodeRune n = [n.toNat.toUInt8] by unfold Lib.encodeRune; rw [Lib.encodeRuneZ_one n0 (by omega)]; rfl)
        go_wp2_with (at_builtin; refine wpList_appendB rfl _ _ 22 rfl w.heap.size 5 i0 (.int .u8 0) Tryd.underlying22 hi hz0 hz1 hz2 rfl _ pre rfl (hob.alloc _) _ _ _ [n.toNat.toUInt8] rfl (Bs.new1 _ _ _ _ ?ab3) ?ab1 ?ab2 ?_)
        case ab1 => omega
        case ab2 => first | omega | (simp; omega)
        case ab3 => have hq := toB' (z := n) (by omega) (by have := hHx.out; omega); first | exact hq | (rw [← hq]; omega) | omega
        intro v' w2 hown hg _ _
        have hB2 : Below w.heap.size w w2 := (hob.alloc _).grew (hB.alloc hsz _) (Nat.le_refl _) hg
        clear hob c0 hg
        go_wp2
        go_roundw
        case rel => exact ⟨k + 1, by omega, by go_num, by rw [hsn.out, hen.out]; exact hown, hB2⟩
        case measure => simp [intOf]; omega
      · by_cases c2 : n < 2048
        · clear t3 t4 t5 t6
          have hen := Lib.hid (show Lib.encodeRune n = [(192 + n / 64).toNat.toUInt8, (128 + n % 64).toNat.toUInt8] by unfold Lib.encodeRune; rw [Lib.encodeRuneZ_two (by omega) (by omega)]; rfl)
          go_wp2_with (at_builtin; refine wpList_appendB rfl _ _ 22 rfl w.heap.size 5 i0 (.int .u8 0) Tryd.underlying22 hi hz0 hz1 hz2 rfl _ pre rfl (hob.alloc _) _ _ _ [(192 + n / 64).toNat.toUInt8, (128 + n % 64).toNat.toUInt8] rfl (Bs.new2 _ _ _ _ _ _ ?ab3 ?ab4) ?ab1 ?ab2 ?_)
          case ab1 => omega
          case ab2 => first | omega | (simp; omega)
          case ab3 => have hq := toB' (z := 192 + n / 64) (by omega) (by have := hHx.out; omega); first | exact hq | (rw [← hq]; omega) | omega
          case ab4 => have hq := toB' (z := 128 + n % 64) (by omega) (by have := hHx.out; omega); first | exact hq | (rw [← hq]; omega) | omega
          intro v' w2 hown hg _ _
          have hB2 : Below w.heap.size w w2 := (hob.alloc _).grew (hB.alloc hsz _) (Nat.le_refl _) hg
          clear hob c0 hg
          go_wp2
          go_roundw
          case rel => exact ⟨k + 1, by omega, by go_num, by rw [hsn.out, hen.out]; exact hown, hB2⟩
          case measure => simp [intOf]; omega
        · by_cases c3 : n < 65536
          · clear t4 t6
            have hen := Lib.hid (show Lib.encodeRune n = [(224 + n / 4096).toNat.toUInt8, (128 + n / 64 % 64).toNat.toUInt8, (128 + n % 64).toNat.toUInt8] by unfold Lib.encodeRune; rw [Lib.encodeRuneZ_three (by have := hHx.out; omega)]; rfl)
            go_wp2_with (at_builtin; refine wpList_appendB rfl _ _ 22 rfl w.heap.size 5 i0 (.int .u8 0) Tryd.underlying22 hi hz0 hz1 hz2 rfl _ pre rfl (hob.alloc _) _ _ _ [(224 + n / 4096).toNat.toUInt8, (128 + n / 64 % 64).toNat.toUInt8, (128 + n % 64).toNat.toUInt8] rfl (Bs.new3 _ _ _ _ _ _ _ _ ?ab3 ?ab4 ?ab5) ?ab1 ?ab2 ?_)
            case ab1 => omega
            case ab2 => first | omega | (simp; omega)
            case ab3 => have hq := toB' (z := 224 + n / 4096) (by omega) (by have := hHx.out; omega); first | exact hq | (rw [← hq]; omega) | omega
            case ab4 => have hq := toB' (z := 128 + n / 64 % 64) (by omega) (by have := hHx.out; omega); first | exact hq | (rw [← hq]; omega) | omega
            case ab5 => have hq := toB' (z := 128 + n % 64) (by omega) (by have := hHx.out; omega); first | exact hq | (rw [← hq]; omega) | omega
            intro v' w2 hown hg _ _
            have hB2 : Below w.heap.size w w2 := (hob.alloc _).grew (hB.alloc hsz _) (Nat.le_refl _) hg
            clear hob c0 hg
            go_wp2
            go_roundw
            case rel => exact ⟨k + 1, by omega, by go_num, by rw [hsn.out, hen.out]; exact hown, hB2⟩
            case measure => simp [intOf]; omega
          · have c4 : n ≤ 1114111 := by have := hHx.out; omega
            have hen := Lib.hid (show Lib.encodeRune n = [(240 + n / 262144).toNat.toUInt8, (128 + n / 4096 % 64).toNat.toUInt8, (128 + n / 64 % 64).toNat.toUInt8, (128 + n % 64).toNat.toUInt8] by unfold Lib.encodeRune; rw [Lib.encodeRuneZ_four (by omega) (by have := hHx.out; omega)]; rfl)
            go_wp2_with (at_builtin; refine wpList_appendB rfl _ _ 22 rfl w.heap.size 5 i0 (.int .u8 0) Tryd.underlying22 hi hz0 hz1 hz2 rfl _ pre rfl (hob.alloc _) _ _ _ [(240 + n / 262144).toNat.toUInt8, (128 + n / 4096 % 64).toNat.toUInt8, (128 + n / 64 % 64).toNat.toUInt8, (128 + n % 64).toNat.toUInt8] rfl (Bs.new4 _ _ _ _ _ _ _ _ _ _ ?ab3 ?ab4 ?ab5 ?ab6) ?ab1 ?ab2 ?_)
            case ab1 => omega
            case ab2 => first | omega | (simp; omega)
            case ab3 => have hq := toB' (z := 240 + n / 262144) (by omega) (by have := hHx.out; omega); first | exact hq | (rw [← hq]; omega) | omega
            case ab4 => have hq := toB' (z := 128 + n / 4096 % 64) (by omega) (by have := hHx.out; omega); first | exact hq | (rw [← hq]; omega) | omega
            case ab5 => have hq := toB' (z := 128 + n / 64 % 64) (by omega) (by have := hHx.out; omega); first | exact hq | (rw [← hq]; omega) | omega
            case ab6 => have hq := toB' (z := 128 + n % 64) (by omega) (by have := hHx.out; omega); first | exact hq | (rw [← hq]; omega) | omega
            intro v' w2 hown hg _ _
            have hB2 : Below w.heap.size w w2 := (hob.alloc _).grew (hB.alloc hsz _) (Nat.le_refl _) hg
            clear hob c0 hg
            go_wp2
            go_roundw
            case rel => exact ⟨k + 1, by omega, by go_num, by rw [hsn.out, hen.out]; exact hown, hB2⟩
            case measure => simp [intOf]; omega
    · obtain rfl : k = m := by omega
      have ht : L.take k = L := List.take_of_length_le (by have := hHl.out; omega)
      rw [ht] at hob
      clear ht
      go_wp2
      go_ret
      exact ⟨_, rfl, hob, hB⟩
end Go.Proofs.YtoklonnajpjgjaaDoor
