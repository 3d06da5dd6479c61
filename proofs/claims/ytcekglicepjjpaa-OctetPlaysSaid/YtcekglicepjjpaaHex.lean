/-
  The contracts of octet's hex functions, and of quittanceref01's.
-/
import Derived.Test.YtcekglicepjjpaaCur
namespace Go.Proofs.Ytcekglicepjjpaa
open Go.RowKit
set_option linter.unusedVariables false
set_option linter.unusedSimpArgs false

/-- The value of a hexadecimal digit; none: it is no digit. -/
def dig (x : UInt8) : Option Nat := if 48 ≤ x.toNat ∧ x.toNat ≤ 57 then some (x.toNat - 48) else if 97 ≤ x.toNat ∧ x.toNat ≤ 102 then some (x.toNat - 87) else none
theorem dig_lt {x : UInt8} {d : Nat} (h : dig x = some d) : d < 16 := by
  unfold dig at h
  split at h
  · cases h; omega
  · split at h
    · cases h; omega
    · cases h

theorem octDigit (x : UInt8) (d : Nat) (w : World) (h : dig x = some d) :
    Calls Try.prog 39 #[.int .u8 (x.toNat : Int)] w fun e w' => e = .returned (.tuple #[.int .u8 (d : Int), .bool true]) ∧ w = w' := by
  have hx := UInt8.toNat_lt x
  unfold dig at h
  split at h
  · rename_i hd
    cases h
    generalize x.toNat = n at *
    obtain ⟨h1, h2⟩ := hd
    have e : Hid ((n : Int) - 48 = ((n - 48 : Nat) : Int)) := by simp only [Hid]; omega
    go_enter Try.func39, Try.ntmps39
    go_wp2
    go_ret2
    refine ⟨?_, rfl⟩
    rw [← e.out]; rfl
  · rename_i hd
    split at h
    · rename_i he
      cases h
      generalize x.toNat = n at *
      obtain ⟨h1, h2⟩ := he
      have e : Hid ((n : Int) - 97 + 10 = ((n - 87 : Nat) : Int)) := by simp only [Hid]; omega
      have f1 : ¬ n ≤ 57 := by omega
      have f2 : 48 ≤ n := by omega
      clear hd
      go_enter Try.func39, Try.ntmps39
      go_wp2
      go_ret2
      refine ⟨?_, rfl⟩
      rw [← e.out]; rfl
    · cases h

theorem octDigitNo (x : UInt8) (w : World) (h : dig x = none) :
    Calls Try.prog 39 #[.int .u8 (x.toNat : Int)] w fun e w' => e = .returned (.tuple #[.int .u8 0, .bool false]) ∧ w = w' := by
  have hx := UInt8.toNat_lt x
  unfold dig at h
  split at h
  · cases h
  · rename_i hd
    split at h
    · cases h
    · rename_i he
      generalize x.toNat = n at *
      clear h
      by_cases a1 : 48 ≤ n
      · have a2 : ¬ n ≤ 57 := by omega
        by_cases a3 : 97 ≤ n
        · have a4 : ¬ n ≤ 102 := by omega
          clear hd he
          go_enter Try.func39, Try.ntmps39
          go_wp2
          go_ret2
          exact ⟨rfl, rfl⟩
        · clear hd he
          go_enter Try.func39, Try.ntmps39
          go_wp2
          go_ret2
          exact ⟨rfl, rfl⟩
      · have a3 : ¬ 97 ≤ n := by omega
        clear hd he
        go_enter Try.func39, Try.ntmps39
        go_wp2
        go_ret2
        exact ⟨rfl, rfl⟩


/-- The bytes whose hex text is l; none: it is no hex text. -/
def unhexL : List UInt8 → Option (List UInt8)
  | [] => some []
  | [_] => none
  | a :: b :: r => match dig a, dig b, unhexL r with
    | some x, some y, some t => some (UInt8.ofNat (16 * x + y) :: t)
    | _, _, _ => none

theorem unhexL_odd : ∀ l : List UInt8, l.length % 2 = 1 → unhexL l = none
  | [], h => by simp at h
  | [_], _ => rfl
  | a :: b :: r, h => by
    have := unhexL_odd r (by simp at h; omega)
    unfold unhexL
    rw [this]
    cases dig a <;> cases dig b <;> rfl
theorem unhexL_step {a b : UInt8} {r : List UInt8} {x y : Nat} (ha : dig a = some x) (hb : dig b = some y) :
    unhexL (a :: b :: r) = (unhexL r).map (UInt8.ofNat (16 * x + y) :: ·) := by
  rw [unhexL, ha, hb]; cases unhexL r <;> rfl
theorem unhexL_bad {a b : UInt8} {r : List UInt8} (h : dig a = none ∨ dig b = none) : unhexL (a :: b :: r) = none := by
  rw [unhexL]
  rcases h with h | h <;> rw [h]
  cases dig a <;> rfl

theorem or_bits (x y : Nat) (hx : x < 16) (hy : y < 16) : bits BinOp.or IntKind.u8 ((x : Int) * 16) (y : Int) = ((UInt8.ofNat (16 * x + y)).toNat : Int) := by
  have h : ∀ x : Fin 16, ∀ y : Fin 16, bits BinOp.or IntKind.u8 ((x.val : Int) * 16) (y.val : Int) = ((UInt8.ofNat (16 * x.val + y.val)).toNat : Int) := by decide
  exact h ⟨x, hx⟩ ⟨y, hy⟩

/-- What a function hands back that makes bytes or refuses: 'ok' stands behind the bytes, 'no' behind nothing. -/
def MadeBs (w : World) (r : Option (List UInt8)) (ok no : Value) (e : Ending) (w' : World) : Prop :=
  match r with
  | some l => ∃ A n c, e = .returned (.tuple #[.slice A n c, ok]) ∧ Ob w' w.heap.size 5 (.slice A n c) l ∧ Below w.heap.size w w'
  | none => e = .returned (.tuple #[.slice none 0 0, no]) ∧ Below w.heap.size w w'

set_option maxHeartbeats 1600000 in
theorem octUnhex (s : ByteArray) (l : List UInt8) (w : World) (hl : s.data.toList = l) (hs : l.length ≤ 1099511627776) :
    Calls Try.prog 24 #[.string s] w (MadeBs w (unhexL l) (.int .i64 0) (.int .i64 6)) := by
  obtain ⟨i0, hi, hz0, hz1, hz2⟩ := info_parts u8_info
  have hsz : s.size = l.length := by rw [← hl]; rfl
  have hszle : s.size ≤ 1099511627776 := by omega
  have HL := Lib.hid hl; clear hl
  have HS := Lib.hid hsz; clear hsz
  by_cases hodd : s.size % 2 = 1
  · have hr : Hid (unhexL l = none) := unhexL_odd l (by have := HS.out; omega)
    have HO := Lib.hid hodd
    have e1 : (((s.size : Int) % 2) != 0) = true := by rw [bne_iff_ne]; omega
    clear hodd
    go_enter Try.func24, Try.ntmps24
    go_wp2
    go_ret2
    simp only [MadeBs, hr.out]
    exact ⟨rfl, Below.refl _ _⟩
  · have HO := Lib.hid hodd
    have e1 : (((s.size : Int) % 2) != 0) = false := by simp; omega
    clear hodd
    have hmk := run_makeB (P := Try.prog) 22 5 i0 Try.underlying22 hi hz0 hz1 hz2 ((s.size : Int) / 2) (by omega) (by omega)
    go_enter Try.func24, Try.ntmps24
    go_wp2
    go_loopw [4, 5] (fun v i wr => ∃ (k : Nat) (pre : List UInt8), 2 * k ≤ s.size ∧ i = .int .i64 ((2 * k : Nat) : Int) ∧ Ob wr w.heap.size 5 v pre ∧ Hid (pre.length = k) ∧ Below w.heap.size w wr ∧
        Hid (unhexL l = (unhexL (l.drop (2 * k))).map (pre ++ ·))) (fun _ i _ => s.size - (intOf i).toNat)
    case atStart => exact ⟨0, [], by omega, rfl, Ob.made _ _ _ _ (Nat.le_refl _) (by omega), rfl, (Below.refl _ _).alloc (Nat.le_refl _) _, by simp [Hid]⟩
    case round =>
      obtain ⟨k, pre, hk, rfl, hob, hpl, hbel, hun⟩ := hrel
      by_cases hlt : 2 * k < s.size
      · have hk2 : 2 * k + 1 < s.size := by have := HO.out; omega
        have g1 : (2 : Int) * k < s.size := by omega
        have g2 : (2 : Int) * k + 1 < s.size := by omega
        have hcons : Hid (l.drop (2 * k) = s[2 * k] :: s[2 * k + 1] :: l.drop (2 * (k + 1))) := by
          have h1 := HL.out
          subst h1
          show _ = _
          rw [List.drop_eq_getElem_cons (by simpa using hlt), List.drop_eq_getElem_cons (by simpa using hk2)]
          rfl
        generalize hxa : s[2 * k] = xa at hcons
        generalize hxb : s[2 * k + 1] = xb at hcons
        rcases hda : dig xa with _ | x
        · have HF : Hid (unhexL l = none) := by show _ = _; rw [hun.out, hcons.out, unhexL_bad (.inl hda)]; rfl
          have HA := Lib.hid hda; clear hda
          rcases hdb : dig xb with _ | y
          · have HB := Lib.hid hdb; clear hdb
            go_wp2_with fail
            refine (octDigitNo _ _ HA.out).mono ?_
            rintro e w' ⟨rfl, rfl⟩
            go_wp2_with fail
            refine (octDigitNo _ _ HB.out).mono ?_
            rintro e w' ⟨rfl, rfl⟩
            go_wp2
            go_ret2
            simp only [MadeBs, HF.out]
            exact ⟨rfl, hbel⟩
          · have HB := Lib.hid hdb; clear hdb
            go_wp2_with fail
            refine (octDigitNo _ _ HA.out).mono ?_
            rintro e w' ⟨rfl, rfl⟩
            go_wp2_with fail
            refine (octDigit _ y _ HB.out).mono ?_
            rintro e w' ⟨rfl, rfl⟩
            go_wp2
            go_ret2
            simp only [MadeBs, HF.out]
            exact ⟨rfl, hbel⟩
        · have HA := Lib.hid hda; clear hda
          rcases hdb : dig xb with _ | y
          · have HF : Hid (unhexL l = none) := by show _ = _; rw [hun.out, hcons.out, unhexL_bad (.inr hdb)]; rfl
            have HB := Lib.hid hdb; clear hdb
            go_wp2_with fail
            refine (octDigit _ x _ HA.out).mono ?_
            rintro e w' ⟨rfl, rfl⟩
            go_wp2_with fail
            refine (octDigitNo _ _ HB.out).mono ?_
            rintro e w' ⟨rfl, rfl⟩
            go_wp2
            go_ret2
            simp only [MadeBs, HF.out]
            exact ⟨rfl, hbel⟩
          · have HB := Lib.hid hdb; clear hdb
            have HF : Hid (unhexL l = (unhexL (l.drop (2 * (k + 1)))).map ((pre ++ [UInt8.ofNat (16 * x + y)]) ++ ·)) := by
              show _ = _; rw [hun.out, hcons.out, unhexL_step HA.out HB.out]; simp [Function.comp_def]
            go_wp2_with fail
            refine (octDigit _ x _ HA.out).mono ?_
            rintro e w' ⟨rfl, rfl⟩
            go_wp2_with fail
            refine (octDigit _ y _ HB.out).mono ?_
            rintro e w' ⟨rfl, rfl⟩
            have hx := dig_lt HA.out
            have hy := dig_lt HB.out
            have hbit := or_bits x y hx hy
            generalize UInt8.ofNat (16 * x + y) = z at *
            have hl2 := hpl.out
            go_wp2_with (at_builtin; (refine wpList_appendB rfl _ _ 22 rfl w.heap.size 5 i0 (.int .u8 0) Try.underlying22 hi hz0 hz1 hz2 rfl _ pre rfl (hob.alloc _) _ _ _ [z] rfl (Bs.newL wr [z] 5) ?ab1 ?ab2 ?_))
            case ab1 => (try simp); omega
            case ab2 => have := hbel.size; simp; omega
            intro v' w1 hob1 hg1 _ _
            have hbel1 := (hob.alloc _).grew (hbel.alloc hbel.size _) (Nat.le_refl _) hg1
            go_wp2
            go_roundw
            case rel => exact ⟨k + 1, pre ++ [z], by omega, by go_num, hob1, by simp [Hid]; omega, hbel1, HF⟩
            case measure => simp [intOf]; omega
      · have HF : Hid (unhexL l = some pre) := by
          show _ = _
          rw [hun.out, List.drop_eq_nil_of_le (by have := HS.out; omega)]; simp [unhexL]
        obtain ⟨A, c, rfl, hc, hbs⟩ := hob.slice
        go_wp2
        go_ret2
        simp only [MadeBs, HF.out]
        exact ⟨A, _, c, rfl, hob, hbel⟩


/-- The hexadecimal digit of a number below 16. -/
def hexd (n : Nat) : UInt8 := [48, 49, 50, 51, 52, 53, 54, 55, 56, 57, 97, 98, 99, 100, 101, 102].getD n 0
def hexL : List UInt8 → List UInt8
  | [] => []
  | x :: r => hexd (x.toNat / 16) :: hexd (x.toNat % 16) :: hexL r

theorem hexL_cons {l : List UInt8} {k : Nat} (h : k < l.length) : Hid (hexL (l.drop k) = hexd ((l.getD k 0).toNat / 16) :: hexd ((l.getD k 0).toNat % 16) :: hexL (l.drop (k + 1))) := by
  show _ = _
  rw [drop_cons h]; rfl
theorem and15 (n : Nat) (h : n < 256) : bits BinOp.and IntKind.u8 (n : Int) 15 = ((n % 16 : Nat) : Int) := by
  have h' : ∀ n : Fin 256, bits BinOp.and IntKind.u8 (n.val : Int) 15 = ((n.val % 16 : Nat) : Int) := by decide +kernel
  exact h' ⟨n, h⟩
/-- digits[i]. -/
theorem digs (i : Nat) (h : i < (⟨#[48, 49, 50, 51, 52, 53, 54, 55, 56, 57, 97, 98, 99, 100, 101, 102]⟩ : ByteArray).size) :
    ((⟨#[48, 49, 50, 51, 52, 53, 54, 55, 56, 57, 97, 98, 99, 100, 101, 102]⟩ : ByteArray)[i]'h) = hexd i := by
  have h' : i < 16 := h
  have h16 : i = 0 ∨ i = 1 ∨ i = 2 ∨ i = 3 ∨ i = 4 ∨ i = 5 ∨ i = 6 ∨ i = 7 ∨ i = 8 ∨ i = 9 ∨ i = 10 ∨ i = 11 ∨ i = 12 ∨ i = 13 ∨ i = 14 ∨ i = 15 := by omega
  rcases h16 with rfl | rfl | rfl | rfl | rfl | rfl | rfl | rfl | rfl | rfl | rfl | rfl | rfl | rfl | rfl | rfl <;> rfl

set_option maxHeartbeats 1600000 in
theorem octHex (A : Option Addr) (n c : Nat) (l : List UInt8) (w : World) (h : Bs w A n l) (hn : n ≤ 1099511627776) :
    Calls Try.prog 23 #[.slice A n c] w fun e w' => e = .returned (.string ⟨(hexL l).toArray⟩) ∧ Below w.heap.size w w' := by
  obtain ⟨i0, hi, hz0, hz1, hz2⟩ := info_parts u8_info
  have hmk := run_makeB (P := Try.prog) 22 5 i0 Try.underlying22 hi hz0 hz1 hz2 (2 * (n : Int)) (by omega) (by omega)
  go_enter Try.func23, Try.ntmps23
  go_wp2
  go_loopw [3, 12] (fun v i wr => ∃ (k : Nat) (pre : List UInt8), k ≤ n ∧ i = .int .i64 (k : Int) ∧ Ob wr w.heap.size 5 v pre ∧ Hid (pre.length = 2 * k) ∧ Below w.heap.size w wr ∧
        Hid (hexL l = pre ++ hexL (l.drop k))) (fun _ i _ => n - (intOf i).toNat)
  case atStart => exact ⟨0, [], by omega, rfl, Ob.made _ _ _ _ (Nat.le_refl _) (by omega), rfl, (Below.refl _ _).alloc (Nat.le_refl _) _, by simp [Hid]⟩
  case round =>
    obtain ⟨k, pre, hk, rfl, hob, hpl, hbel, hun⟩ := hrel
    by_cases hlt : k < n
    · obtain ⟨b, o, rfl, hc⟩ := (h.below hbel).at_ hlt
      have hx := UInt8.toNat_lt (l.getD k 0)
      have hcons := hexL_cons (h.len ▸ hlt : k < l.length)
      unfold nth at hc
      generalize (l.getD k 0).toNat = x at *
      have hx' : x < 256 := hx
      clear hx
      have ha := and15 x hx'
      rw [show x / 16 = ((x : Int) / 16).toNat by omega, show x % 16 = ((x : Int) % 16).toNat by omega] at hcons
      go_wp2
      have hl2 := hpl.out
      go_region_held3 (fun w' => True) (trivial)
        ((refine step_appendB (by rfl) _ _ 22 (by rfl) w.heap.size 5 i0 _ Try.underlying22 hi hz0 hz1 hz2 rfl _ pre (by rfl) ((hob.alloc _).drew) _ _ _ _ (by rfl) ((Bs.new2 wr _ _ _ _ 5 (congrArg (fun b : UInt8 => (b.toNat : Int)) (digs _ _)) (congrArg (fun b : UInt8 => (b.toNat : Int)) (digs _ _))).drew) (by simp; omega) (by have := hbel.size; simp; omega) ?_; intro v' w1 hob1 hg1 _ _))
      all_goals
        go_wp2
        go_roundw
        case rel => exact ⟨k + 1, _, by omega, by go_num, hob1, by simp [Hid]; omega, ((hob.alloc _).drew).grew ((hbel.alloc hbel.size _).drew) (Nat.le_refl _) hg1, by show _ = _; rw [hun.out, hcons.out]; simp⟩
        case measure => simp [intOf]; omega
    · have HF : Hid (hexL l = pre) := by
        show _ = _
        rw [hun.out, drop_end (by have := h.len; omega)]; simp [hexL]
      obtain ⟨A', c', rfl, hc', hbs⟩ := hob.slice
      have hcv := hbs.convert (P := Try.prog) c' 22 9 5 Try.underlying22 Try.underlying5 Try.underlying9
      go_wp2
      go_ret
      exact ⟨by rw [HF.out]; rfl, hbel⟩

set_option maxHeartbeats 1600000 in
theorem refHex (A : Option Addr) (n c : Nat) (l : List UInt8) (w : World) (h : Bs w A n l) (hn : n ≤ 1099511627776) :
    Calls Try.prog 26 #[.slice A n c] w fun e w' => e = .returned (.string ⟨(hexL l).toArray⟩) ∧ Below w.heap.size w w' := by
  obtain ⟨i0, hi, hz0, hz1, hz2⟩ := info_parts u8_info
  go_enter Try.func26, Try.ntmps26
  go_wp2
  go_loopw [3, 4] (fun v i wr => ∃ (k : Nat) (pre : List UInt8), k ≤ n ∧ i = .int .i64 (k : Int) ∧ Ob wr w.heap.size 5 v pre ∧ Hid (pre.length = 2 * k) ∧ Below w.heap.size w wr ∧
        Hid (hexL l = pre ++ hexL (l.drop k))) (fun _ i _ => n - (intOf i).toNat)
  case atStart => exact ⟨0, [], by omega, rfl, Ob.nil _ _ _, rfl, Below.refl _ _, by simp [Hid]⟩
  case round =>
    obtain ⟨k, pre, hk, rfl, hob, hpl, hbel, hun⟩ := hrel
    by_cases hlt : k < n
    · obtain ⟨b, o, rfl, hc⟩ := (h.below hbel).at_ hlt
      have hx := UInt8.toNat_lt (l.getD k 0)
      have hcons := hexL_cons (h.len ▸ hlt : k < l.length)
      obtain ⟨b', o', e', hc0⟩ := h.at_ hlt
      have hblk : b < w.heap.size := by cases e'; exact World.block_lt_of_cell? w _ hc0
      have hnb : Hid (some b ≠ u3.ownBlock) := by
        intro e
        have := (hob.lt b e.symm).1
        omega
      clear e' hc0 b' o'
      have hblk2 : Hid (b < wr.heap.size) := by have := hbel.size; unfold Hid; omega
      unfold nth at hc
      generalize (l.getD k 0).toNat = x at *
      have hx' : x < 256 := hx
      clear hx
      rw [show x / 16 = ((x : Int) / 16).toNat by omega, show x % 16 = ((x : Int) % 16).toNat by omega] at hcons
      have i1 : (k : Int) < n := by omega
      have hl2 := hpl.out
      have q1 : (x : Int).tdiv 16 = (x : Int) / 16 := Int.tdiv_eq_ediv_of_nonneg (by omega)
      have q2 : (x : Int).tmod 16 = (x : Int) % 16 := Int.tmod_eq_emod_of_nonneg (by omega)
      have q3 : IntKind.u8.wrap ((x : Int) / 16) = (x : Int) / 16 := by rw [IntKind.wrap_u8]; omega
      have q4 : IntKind.u8.wrap ((x : Int) % 16) = (x : Int) % 16 := by rw [IntKind.wrap_u8]; omega
      have b1 : (x : Int) / 16 < 16 := by omega
      have b2 : (x : Int) % 16 < 16 := by omega
      have b3 : 0 ≤ (x : Int) / 16 := by omega
      have b4 : 0 ≤ (x : Int) % 16 := by omega
      go_wp2
      go_region_held3 (fun w' => w'.cell? ⟨b, o + k, none⟩ = some (.int .u8 (x : Int))) (first | go_keep | exact hg1.cell ((World.cell?_alloc_lt wr _ ⟨b, o + k, none⟩ hblk2.out).trans hc) hnb.out)
        ((refine step_appendB (by rfl) _ _ 22 (by rfl) w.heap.size 5 i0 _ Try.underlying22 hi hz0 hz1 hz2 rfl _ pre (by rfl) ((hob.alloc _).drew) _ _ _ _ (by rfl) ((Bs.new2 wr _ _ _ _ 5 (congrArg (fun b : UInt8 => (b.toNat : Int)) (digs _ _)) (congrArg (fun b : UInt8 => (b.toNat : Int)) (digs _ _))).drew) (by simp; omega) (by have := hbel.size; simp; omega) ?_; intro v' w1 hob1 hg1 _ _))
      all_goals
        go_wp2
        go_roundw
        case rel => exact ⟨k + 1, _, by omega, by go_num, hob1, by simp [Hid]; omega, ((hob.alloc _).drew).grew ((hbel.alloc hbel.size _).drew) (Nat.le_refl _) hg1, by show _ = _; rw [hun.out, hcons.out]; simp⟩
        case measure => simp [intOf]; omega
    · have HF : Hid (hexL l = pre) := by
        show _ = _
        rw [hun.out, drop_end (by have := h.len; omega)]; simp [hexL]
      obtain ⟨A', c', rfl, hc', hbs⟩ := hob.slice
      have hcv := hbs.convert (P := Try.prog) c' 22 9 5 Try.underlying22 Try.underlying5 Try.underlying9
      go_wp2
      go_ret
      exact ⟨by rw [HF.out]; rfl, hbel⟩


set_option maxHeartbeats 3200000 in
theorem refUnhex (s : ByteArray) (l : List UInt8) (w : World) (hl : s.data.toList = l) (hs : l.length ≤ 1099511627776) :
    Calls Try.prog 25 #[.string s] w (MadeBs w (unhexL l) (.bool true) (.bool false)) := by
  obtain ⟨i0, hi, hz0, hz1, hz2⟩ := info_parts u8_info
  have hsz : s.size = l.length := by rw [← hl]; rfl
  have hszle : s.size ≤ 1099511627776 := by omega
  have HL := Lib.hid hl; clear hl
  have HS := Lib.hid hsz; clear hsz
  go_enter Try.func25, Try.ntmps25
  go_wp2
  go_loopw [4, 5, 6] (fun v m i wr => ∃ (k N : Nat) (pre : List UInt8), k ≤ s.size ∧ i = .int .i64 (k : Int) ∧ m = .int .i64 (N : Int) ∧ N < 256 ∧ Ob wr w.heap.size 5 v pre ∧ Hid (pre.length = k / 2) ∧ Below w.heap.size w wr ∧
        Hid (unhexL l = (unhexL (l.drop (2 * (k / 2)))).map (pre ++ ·)) ∧ Hid (k % 2 = 1 → dig (l.getD (k - 1) 0) = some (N % 16))) (fun _ _ i _ => s.size - (intOf i).toNat)
  case atStart => exact ⟨0, 0, [], by omega, rfl, rfl, by omega, Ob.nil _ _ _, rfl, Below.refl _ _, by simp [Hid], fun h => by simp at h⟩
  case round =>
    obtain ⟨k, N, pre, hk, rfl, rfl, hN, hob, hpl, hbel, hun, hd⟩ := hrel
    by_cases hlt : k < s.size
    · have g1 : (k : Int) < s.size := by omega
      have hget : Hid (l.getD k 0 = s[k]) := by
        have h1 := HL.out
        subst h1
        show _ = _
        rw [List.getD_eq_getElem?_getD, List.getElem?_eq_getElem (by simpa using hlt)]; rfl
      generalize hxa : s[k] = xa at hget
      have hx8 := UInt8.toNat_lt xa
      have hlk : Hid (k < l.length) := by have := HS.out; unfold Hid; omega
      rcases hda : dig xa with _ | d
      · have HF : Hid (unhexL l = none) := by
          show _ = _
          rw [hun.out]
          have hk' := hlk.out
          rcases Nat.mod_two_eq_zero_or_one k with hm | hm
          · rw [show 2 * (k / 2) = k by omega, drop_cons hk', hget.out]
            rcases hr : l.drop (k + 1) with _ | ⟨y, r⟩
            · rfl
            · rw [unhexL_bad (.inl hda)]; rfl
          · rw [show 2 * (k / 2) = k - 1 by omega, drop_cons (by omega), show k - 1 + 1 = k by omega, drop_cons hk', hget.out, unhexL_bad (.inr hda)]; rfl
        unfold dig at hda
        split at hda
        · cases hda
        · rename_i n1
          split at hda
          · cases hda
          · rename_i n2
            clear hda
            by_cases a1 : 48 ≤ xa.toNat
            · have a2 : ¬ xa.toNat ≤ 57 := by omega
              by_cases a3 : 97 ≤ xa.toNat
              · have a4 : ¬ xa.toNat ≤ 102 := by omega
                clear n1 n2
                go_wp2
                go_ret2
                simp only [MadeBs, HF.out]
                exact ⟨rfl, hbel⟩
              · clear n1 n2
                go_wp2
                go_ret2
                simp only [MadeBs, HF.out]
                exact ⟨rfl, hbel⟩
            · have a3 : ¬ 97 ≤ xa.toNat := by omega
              clear n1 n2
              go_wp2
              go_ret2
              simp only [MadeBs, HF.out]
              exact ⟨rfl, hbel⟩
      · have hd16 := dig_lt hda
        have hl2 := hpl.out
        have HDA := Lib.hid hda
        rcases Nat.mod_two_eq_zero_or_one k with hm | hm
        · have e1 : (((k : Int) % 2) == 1) = false := by rw [beq_eq_false_iff_ne]; omega
          have HM := Lib.hid hm; clear hm
          have HF : Hid (unhexL l = (unhexL (l.drop (2 * ((k + 1) / 2)))).map (pre ++ ·)) := by
            have := HM.out
            rw [show (k + 1) / 2 = k / 2 by omega]; exact hun
          have HD : ∀ M : Nat, M % 16 = d → Hid ((k + 1) % 2 = 1 → dig (l.getD (k + 1 - 1) 0) = some (M % 16)) := by
            intro M hM _
            rw [Nat.add_sub_cancel, hget.out, HDA.out, hM]
          have HP : Hid (pre.length = (k + 1) / 2) := by have := HM.out; unfold Hid; omega
          unfold dig at hda
          split at hda
          · rename_i n1
            obtain ⟨a1, a2⟩ := n1
            have a3 : ¬ 97 ≤ xa.toNat := by omega
            injection hda with hda
            have HX := Lib.hid hda; clear hda
            have b1 : 0 ≤ (xa.toNat : Int) - 48 := by omega
            go_wp2
            go_roundw
            case rel => exact ⟨k + 1, 16 * (N % 16) + d, pre, by omega, by go_num, by have := HX.out; go_num, by omega, hob, HP, hbel, HF, HD _ (by omega)⟩
            case measure => simp [intOf]; omega
          · split at hda
            · rename_i n1 n2
              obtain ⟨a1, a2⟩ := n2
              have a3 : ¬ xa.toNat ≤ 57 := by omega
              have a4 : 48 ≤ xa.toNat := by omega
              injection hda with hda
              have HX := Lib.hid hda; clear hda
              have b1 : 0 ≤ (xa.toNat : Int) - 87 := by omega
              clear n1
              go_wp2
              go_roundw
              case rel => exact ⟨k + 1, 16 * (N % 16) + d, pre, by omega, by go_num, by have := HX.out; go_num, by omega, hob, HP, hbel, HF, HD _ (by omega)⟩
              case measure => simp [intOf]; omega
            · cases hda
        · have e1 : (((k : Int) % 2) == 1) = true := by rw [beq_iff_eq]; omega
          have HM := Lib.hid hm; clear hm
          have hz : ((16 * (N % 16) + d : Nat) : Int) = ((UInt8.ofNat (16 * (N % 16) + d)).toNat : Int) := by
            rw [UInt8.toNat_ofNat']; omega
          have HZ := Lib.hid hz; clear hz
          have HF : Hid (unhexL l = (unhexL (l.drop (2 * ((k + 1) / 2)))).map ((pre ++ [UInt8.ofNat (16 * (N % 16) + d)]) ++ ·)) := by
            have := HM.out
            have hk' := hlk.out
            show _ = _
            rw [hun.out, show 2 * (k / 2) = k - 1 by omega, drop_cons (by omega), show k - 1 + 1 = k by omega, drop_cons hk', hget.out, unhexL_step (hd.out this) HDA.out, show 2 * ((k + 1) / 2) = k + 1 by omega]
            simp [Function.comp_def]
          generalize UInt8.ofNat (16 * (N % 16) + d) = z at *
          have HD : ∀ M : Nat, Hid ((k + 1) % 2 = 1 → dig (l.getD (k + 1 - 1) 0) = some (M % 16)) := by
            intro M h; have := HM.out; omega
          have HP : Hid ((pre ++ [z]).length = (k + 1) / 2) := by have := HM.out; simp [Hid]; omega
          unfold dig at hda
          split at hda
          · rename_i n1
            obtain ⟨a1, a2⟩ := n1
            have a3 : ¬ 97 ≤ xa.toNat := by omega
            injection hda with hda
            have HX := Lib.hid hda; clear hda
            have b1 : 0 ≤ (xa.toNat : Int) - 48 := by omega
            go_wp2_with (at_builtin; refine wpList_appendB rfl _ _ 22 rfl w.heap.size 5 i0 (.int .u8 0) Try.underlying22 hi hz0 hz1 hz2 rfl _ pre rfl (hob.alloc _) _ _ _ [z] rfl (Bs.new1 wr z _ 5 ?ab3) ?ab1 ?ab2 ?_)
            case ab1 => (try simp); omega
            case ab2 => have := hbel.size; simp; omega
            case ab3 => have := HX.out; rw [← HZ.out]; omega
            intro v' w1 hob1 hg1 _ _
            have hbel1 := (hob.alloc _).grew (hbel.alloc hbel.size _) (Nat.le_refl _) hg1
            go_wp2
            go_roundw
            case rel => exact ⟨k + 1, 16 * (N % 16) + d, pre ++ [z], by omega, by go_num, by have := HX.out; go_num, by omega, hob1, HP, hbel1, HF, HD _⟩
            case measure => simp [intOf]; omega
          · split at hda
            · rename_i n1 n2
              obtain ⟨a1, a2⟩ := n2
              have a3 : ¬ xa.toNat ≤ 57 := by omega
              have a4 : 48 ≤ xa.toNat := by omega
              injection hda with hda
              have HX := Lib.hid hda; clear hda
              have b1 : 0 ≤ (xa.toNat : Int) - 87 := by omega
              clear n1
              go_wp2_with (at_builtin; refine wpList_appendB rfl _ _ 22 rfl w.heap.size 5 i0 (.int .u8 0) Try.underlying22 hi hz0 hz1 hz2 rfl _ pre rfl (hob.alloc _) _ _ _ [z] rfl (Bs.new1 wr z _ 5 ?ab6) ?ab4 ?ab5 ?_)
              case ab4 => (try simp); omega
              case ab5 => have := hbel.size; simp; omega
              case ab6 => have := HX.out; rw [← HZ.out]; omega
              intro v' w1 hob1 hg1 _ _
              have hbel1 := (hob.alloc _).grew (hbel.alloc hbel.size _) (Nat.le_refl _) hg1
              go_wp2
              go_roundw
              case rel => exact ⟨k + 1, 16 * (N % 16) + d, pre ++ [z], by omega, by go_num, by have := HX.out; go_num, by omega, hob1, HP, hbel1, HF, HD _⟩
              case measure => simp [intOf]; omega
            · cases hda
    · have hks : s.size = k := by omega
      rcases Nat.mod_two_eq_zero_or_one k with hm | hm
      · have HF : Hid (unhexL l = some pre) := by
          show _ = _
          rw [hun.out, drop_end (by have := HS.out; omega)]; simp [unhexL]
        have e1 : (((s.size : Int) % 2) == 1) = false := by rw [beq_eq_false_iff_ne]; omega
        clear hm hks
        obtain ⟨A, c, rfl, hc, hbs⟩ := hob.slice
        go_wp2
        go_ret2
        simp only [MadeBs, HF.out]
        exact ⟨A, _, c, rfl, hob, hbel⟩
      · have HF : Hid (unhexL l = none) := unhexL_odd l (by have := HS.out; omega)
        have e1 : (((s.size : Int) % 2) == 1) = true := by rw [beq_iff_eq]; omega
        clear hm hks
        go_wp2
        go_ret2
        simp only [MadeBs, HF.out]
        exact ⟨rfl, hbel⟩

end Go.Proofs.Ytcekglicepjjpaa
