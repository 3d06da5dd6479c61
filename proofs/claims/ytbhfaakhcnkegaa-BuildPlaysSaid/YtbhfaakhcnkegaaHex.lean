/-
  The contracts of octet's hex functions, and of quittanceref01's.
-/
import Derived.Test.YtbhfaakhcnkegaaCur
namespace Go.Proofs.Ytbhfaakhcnkegaa
open Go.RowKit
set_option linter.unusedVariables false
set_option linter.unusedSimpArgs false
set_option maxRecDepth 4000

/-- The value of a hexadecimal digit; none: it is no digit. -/
def dig (x : UInt8) : Option Nat := if 48 ≤ x.toNat ∧ x.toNat ≤ 57 then some (x.toNat - 48) else if 97 ≤ x.toNat ∧ x.toNat ≤ 102 then some (x.toNat - 87) else none
theorem dig_lt {x : UInt8} {d : Nat} (h : dig x = some d) : d < 16 := by
  unfold dig at h
  split at h
  · cases h; omega
  · split at h
    · cases h; omega
    · cases h

/-- The bytes whose hex text is l; none: it is no hex text. -/
def unhexL : List UInt8 → Option (List UInt8)
  | [] => some []
  | [_] => none
  | a :: b :: r => match dig a, dig b, unhexL r with
    | some x, some y, some t => some (UInt8.ofNat (16 * x + y) :: t)
    | _, _, _ => none

theorem unhexL_odd : ∀ l : List UInt8, l.length % 2 = 1 → unhexL l = none
  | [], h => by simp at h
  | [_], _ => rfl
  | a :: b :: r, h => by
    have := unhexL_odd r (by simp at h; omega)
    unfold unhexL
    rw [this]
    cases dig a <;> cases dig b <;> rfl
theorem unhexL_step {a b : UInt8} {r : List UInt8} {x y : Nat} (ha : dig a = some x) (hb : dig b = some y) :
    unhexL (a :: b :: r) = (unhexL r).map (UInt8.ofNat (16 * x + y) :: ·) := by
  rw [unhexL, ha, hb]; cases unhexL r <;> rfl
theorem unhexL_bad {a b : UInt8} {r : List UInt8} (h : dig a = none ∨ dig b = none) : unhexL (a :: b :: r) = none := by
  rw [unhexL]
  rcases h with h | h <;> rw [h]
  cases dig a <;> rfl

theorem or_bits (x y : Nat) (hx : x < 16) (hy : y < 16) : bits BinOp.or IntKind.u8 ((x : Int) * 16) (y : Int) = ((UInt8.ofNat (16 * x + y)).toNat : Int) := by
  have h : ∀ x : Fin 16, ∀ y : Fin 16, bits BinOp.or IntKind.u8 ((x.val : Int) * 16) (y.val : Int) = ((UInt8.ofNat (16 * x.val + y.val)).toNat : Int) := by decide
  exact h ⟨x, hx⟩ ⟨y, hy⟩

/-- What a function hands back that makes bytes or refuses: 'ok' stands behind the bytes, 'no' behind nothing. -/
def MadeBs (w : World) (r : Option (List UInt8)) (ok no : Value) (e : Ending) (w' : World) : Prop :=
  match r with
  | some l => ∃ A n c, e = .returned (.tuple #[.slice A n c, ok]) ∧ Ob w' w.heap.size 5 (.slice A n c) l ∧ Below w.heap.size w w'
  | none => e = .returned (.tuple #[.slice none 0 0, no]) ∧ Below w.heap.size w w'

/-- The hexadecimal digit of a number below 16. -/
def hexd (n : Nat) : UInt8 := [48, 49, 50, 51, 52, 53, 54, 55, 56, 57, 97, 98, 99, 100, 101, 102].getD n 0
def hexL : List UInt8 → List UInt8
  | [] => []
  | x :: r => hexd (x.toNat / 16) :: hexd (x.toNat % 16) :: hexL r

theorem hexL_cons {l : List UInt8} {k : Nat} (h : k < l.length) : Hid (hexL (l.drop k) = hexd ((l.getD k 0).toNat / 16) :: hexd ((l.getD k 0).toNat % 16) :: hexL (l.drop (k + 1))) := by
  show _ = _
  rw [drop_cons h]; rfl
theorem and15 (n : Nat) (h : n < 256) : bits BinOp.and IntKind.u8 (n : Int) 15 = ((n % 16 : Nat) : Int) := by
  have h' : ∀ n : Fin 256, bits BinOp.and IntKind.u8 (n.val : Int) 15 = ((n.val % 16 : Nat) : Int) := by decide +kernel
  exact h' ⟨n, h⟩
/-- digits[i]. -/
theorem digs (i : Nat) (h : i < (⟨#[48, 49, 50, 51, 52, 53, 54, 55, 56, 57, 97, 98, 99, 100, 101, 102]⟩ : ByteArray).size) :
    ((⟨#[48, 49, 50, 51, 52, 53, 54, 55, 56, 57, 97, 98, 99, 100, 101, 102]⟩ : ByteArray)[i]'h) = hexd i := by
  have h' : i < 16 := h
  have h16 : i = 0 ∨ i = 1 ∨ i = 2 ∨ i = 3 ∨ i = 4 ∨ i = 5 ∨ i = 6 ∨ i = 7 ∨ i = 8 ∨ i = 9 ∨ i = 10 ∨ i = 11 ∨ i = 12 ∨ i = 13 ∨ i = 14 ∨ i = 15 := by omega
  rcases h16 with rfl | rfl | rfl | rfl | rfl | rfl | rfl | rfl | rfl | rfl | rfl | rfl | rfl | rfl | rfl | rfl <;> rfl

set_option maxHeartbeats 1600000 in
theorem octHex (A : Option Addr) (n c : Nat) (l : List UInt8) (w : World) (h : Bs w A n l) (hn : n ≤ 1099511627776) :
    Calls Try.prog 53 #[.slice A n c] w fun e w' => e = .returned (.string ⟨(hexL l).toArray⟩) ∧ Below w.heap.size w w' := by
  obtain ⟨i0, hi, hz0, hz1, hz2⟩ := info_parts u8_info
  have hmk := run_makeB (P := Try.prog) 41 5 i0 Try.underlying41 hi hz0 hz1 hz2 (2 * (n : Int)) (by omega) (by omega)
  go_enter Try.func53, Try.ntmps53
  go_wp2
  go_loopw [3, 12] (fun v i wr => ∃ (k : Nat) (pre : List UInt8), k ≤ n ∧ i = .int .i64 (k : Int) ∧ Ob wr w.heap.size 5 v pre ∧ Hid (pre.length = 2 * k) ∧ Below w.heap.size w wr ∧
        Hid (hexL l = pre ++ hexL (l.drop k))) (fun _ i _ => n - (intOf i).toNat)
  case atStart => exact ⟨0, [], by omega, rfl, Ob.made _ _ _ _ (Nat.le_refl _) (by omega), rfl, (Below.refl _ _).alloc (Nat.le_refl _) _, by simp [Hid]⟩
  case round =>
    obtain ⟨k, pre, hk, rfl, hob, hpl, hbel, hun⟩ := hrel
    by_cases hlt : k < n
    · obtain ⟨b, o, rfl, hc⟩ := (h.below hbel).at_ hlt
      have hx := UInt8.toNat_lt (l.getD k 0)
      have hcons := hexL_cons (h.len ▸ hlt : k < l.length)
      unfold nth at hc
      generalize (l.getD k 0).toNat = x at *
      have hx' : x < 256 := hx
      clear hx
      have ha := and15 x hx'
      rw [show x / 16 = ((x : Int) / 16).toNat by omega, show x % 16 = ((x : Int) % 16).toNat by omega] at hcons
      go_wp2
      have hl2 := hpl.out
      go_region_held3 (fun w' => True) (trivial)
        ((refine step_appendB (by rfl) _ _ 41 (by rfl) w.heap.size 5 i0 _ Try.underlying41 hi hz0 hz1 hz2 rfl _ pre (by rfl) ((hob.alloc _).drew) _ _ _ _ (by rfl) ((Bs.new2 wr _ _ _ _ 5 (congrArg (fun b : UInt8 => (b.toNat : Int)) (digs _ _)) (congrArg (fun b : UInt8 => (b.toNat : Int)) (digs _ _))).drew) (by simp; omega) (by have := hbel.size; simp; omega) ?_; intro v' w1 hob1 hg1 _ _))
      all_goals
        go_wp2
        go_roundw
        case rel => exact ⟨k + 1, _, by omega, by go_num, hob1, by simp [Hid]; omega, ((hob.alloc _).drew).grew ((hbel.alloc hbel.size _).drew) (Nat.le_refl _) hg1, by show _ = _; rw [hun.out, hcons.out]; simp⟩
        case measure => simp [intOf]; omega
    · have HF : Hid (hexL l = pre) := by
        show _ = _
        rw [hun.out, drop_end (by have := h.len; omega)]; simp [hexL]
      obtain ⟨A', c', rfl, hc', hbs⟩ := hob.slice
      have hcv := hbs.convert (P := Try.prog) c' 41 9 5 Try.underlying41 Try.underlying5 Try.underlying9
      go_wp2
      go_ret
      exact ⟨by rw [HF.out]; rfl, hbel⟩

end Go.Proofs.Ytbhfaakhcnkegaa
