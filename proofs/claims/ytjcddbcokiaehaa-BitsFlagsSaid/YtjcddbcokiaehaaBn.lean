/-
  The contracts of the project's bits: each, Flags.
-/
import Derived.RangeFuncNested
import Derived.RangeFuncBox
import Derived.RangeFuncLeaves
import Derived.Shelf.Abstract
import Derived.WalkKit
import Derived.OwnWalkIn
import Derived.TacticsInMore
import Derived.LoopNIn
import Derived.LoopIn
import Derived.Test.YtjcddbcokiaehaaBm
namespace Go.Proofs.Ytjcddbcokiaehaa
open Go.RowKit Go.Shelf
set_option linter.unusedVariables false
set_option linter.unusedSimpArgs false
set_option maxRecDepth 4000
attribute [local go_sem] Oper.semAt_some

/-- What has come when k rounds are over. -/
def upto (l : List UInt8) (k : Nat) : List (Nat × Bool) := (List.range k).map fun j => (j, bitS l j)
theorem upto_succ (l : List UInt8) (k : Nat) : upto l (k + 1) = upto l k ++ [(k, bitS l k)] := by simp [upto, List.range_succ]
theorem upto_length (l : List UInt8) (k : Nat) : (upto l k).length = k := by simp [upto]
/-- The numbers of those that are 1. -/
def onesOf (pre : List (Nat × Bool)) : List Int := (pre.filter fun x => x.2).map fun x => (x.1 : Int)
theorem ones_hit (pre : List (Nat × Bool)) (j : Nat) : onesOf (pre ++ [(j, true)]) = onesOf pre ++ [(j : Int)] := by simp [onesOf]
theorem ones_miss (pre : List (Nat × Bool)) (j : Nat) : onesOf (pre ++ [(j, false)]) = onesOf pre := by simp [onesOf]
theorem ones_upto (l : List UInt8) : ∀ k, onesOf (upto l k) = flagsS l k
  | 0 => rfl
  | k + 1 => by
    rw [upto_succ]
    cases h : bitS l k
    · rw [ones_miss, flagsS_succ_f h, ones_upto l k]
    · rw [ones_hit, flagsS_succ_t h, ones_upto l k]
theorem ones_len (pre : List (Nat × Bool)) : (onesOf pre).length ≤ pre.length := by
  unfold onesOf; rw [List.length_map]; exact List.length_filter_le _ _

/-- What a round keeps: what lies below n₀, and the box of the string. -/
def Kp5 (n₀ E : Nat) (W W' : World) : Prop := Below n₀ W W' ∧ W'.heap[E]? = W.heap[E]?
theorem Kp5.trans {n₀ E : Nat} {A B C : World} (h : Kp5 n₀ E A B) (k : Kp5 n₀ E B C) : Kp5 n₀ E A C := ⟨h.1.trans k.1, k.2.trans h.2⟩
/-- Bytes that lie below n₀. -/
def BsN (n₀ : Nat) (w : World) (A : Option Addr) (n : Nat) (l : List UInt8) : Prop := Bs w A n l ∧ ∀ (i : Nat) (x : UInt8), l[i]? = some x → ∃ b o, A = some ⟨b, o, none⟩ ∧ b < n₀
theorem BsN.of {w : World} {A : Option Addr} {n : Nat} {l : List UInt8} (h : Bs w A n l) : BsN w.heap.size w A n l :=
  ⟨h, fun i x hx => by obtain ⟨b, o, e, hc⟩ := h.2 i x hx; exact ⟨b, o, e, World.block_lt_of_cell? w _ hc⟩⟩
theorem BsN.keep {n₀ : Nat} {w w' : World} {A : Option Addr} {n : Nat} {l : List UInt8} (h : BsN n₀ w A n l) (hb : Below n₀ w w') : BsN n₀ w' A n l :=
  ⟨⟨h.1.1, fun i x hx => by
    obtain ⟨b, o, e, hc⟩ := h.1.2 i x hx
    obtain ⟨b', o', e', hlt⟩ := h.2 i x hx
    rw [e] at e'; cases e'
    exact ⟨b, o, e, (hb.cell (p := ⟨b, o + i, none⟩) hlt).trans hc⟩⟩, h.2⟩
theorem BsN.mono {n₀ n₁ : Nat} {w : World} {A : Option Addr} {n : Nat} {l : List UInt8} (h : BsN n₀ w A n l) (hn : n₀ ≤ n₁) : BsN n₁ w A n l :=
  ⟨h.1, fun i x hx => by obtain ⟨b, o, e, hlt⟩ := h.2 i x hx; exact ⟨b, o, e, by omega⟩⟩

set_option maxRecDepth 100000 in
set_option maxHeartbeats 2000000 in
theorem btEach1 (n : Nat) (hn : 1 ≤ n) (lp E n₀ : Nat) (u : Int) (A : Option Addr) (m c : Nat) (l : List UInt8) (hm : m ≤ 1099511) (hr : rightS u l = true) (J Jx : List (Nat × Bool) → World → Prop)
    (hY : ∀ pre x W, J pre W → pre.length < lenS u l → YieldAt Fence.wide (n - 1) Try.prog lp #[.int .i64 (x.1 : Int), .bool x.2] W fun e W' =>
      (e = .returned (.bool true) ∧ J (pre ++ [x]) W' ∧ Kp5 n₀ E W W') ∨ (e = .returned (.bool false) ∧ Jx (pre ++ [x]) W'))
    (W : World) (hJ : AbidesFrom W.heap.size J) (hE : Blk W E 25 [.int .i64 u, .slice A m c]) (hS : BsN n₀ W A m l) (hn₀ : n₀ ≤ W.heap.size) (h0 : J [] W) :
    CallsIn Fence.wide n Try.prog 62 #[.func (.yield lp) #[] #[], .pointer (some ⟨E, 0, none⟩)] W fun e W' => (∃ v, e = .returned v) ∧
      ((∃ ys, ys = upto l (lenS u l) ∧ J ys W') ∨ (∃ pre, (∃ k, k ≤ lenS u l ∧ pre = upto l k) ∧ Jx pre W')) := by
  have hLn := Lib.hid (fun (W : World) (hW : Bs W A m l) => btLenYes u A m c l W hW (by omega) hr)
  have hHs := Lib.hid (fun (W : World) (hW : Bs W A m l) (i : Int) (k : Nat) (hi : i = (k : Int)) (hk : k < lenS u l) => btHasIn u i A m c l W hW (by omega) k hi (by unfold lenA; rw [if_pos hr]; exact hk))
  have hlen : lenS u l ≤ 8 * m := by have := hS.1.len; unfold lenS; omega
  generalize lenS u l = len at *
  obtain ⟨e0, e1, _, _⟩ := hE.two
  refine callsIn_of_wp Try.func62 rfl trivial ?_ rfl
  simp only [Try.ntmps62, List.size_toArray, List.length_cons, List.length_nil, Nat.reduceAdd, Nat.reduceSub, Array.replicate_succ, Array.replicate_zero, List.push_toArray, List.append_toArray, List.nil_append, List.cons_append]
  gi_wp2
  refine ⟨trivial, ?_⟩
  refine (callsIn_wide.2 (hLn.out _ hS.1)).mono ?_
  rintro e w1 ⟨rfl, hb1⟩
  have hg1 : W.grownBy w1 none := ⟨hb1.os, hb1.tape, hb1.output, hb1.size, fun i hi _ => hb1.block i hi⟩
  have h1 := hJ [] W w1 none h0 hg1 (fun r e => by cases e)
  have hE1 := hE.below hb1
  have hS1 := hS.keep (hb1.mono hn₀)
  have hsz := hb1.size
  have hn1 : n₀ ≤ w1.heap.size := by omega
  clear hE hS e0 e1 h0 hb1 hg1 hLn
  gi_wp2
  gi_loopw [6] (fun i wr => ∃ k : Nat, k ≤ len ∧ i = .int .i64 (k : Int) ∧ J (upto l k) wr ∧ Blk wr E 25 [.int .i64 u, .slice A m c] ∧ BsN n₀ wr A m l ∧ n₀ ≤ wr.heap.size) (fun i _ => len - (intOf i).toNat)
  case atStart => exact ⟨0, Nat.zero_le _, rfl, h1, hE1, hS1, hn1⟩
  case round =>
    clear h1 hE1 hS1 hn1
    obtain ⟨k, hk, rfl, hJs, hE, hS, hn1⟩ := hrel
    obtain ⟨e0, e1, _, _⟩ := hE.two
    by_cases hlt : k < len
    · have k1 : (k : Int) < len := by omega
      gi_wp2
      refine ⟨trivial, ?_⟩
      refine (callsIn_wide.2 (hHs.out _ hS.1 _ k rfl hlt)).mono ?_
      rintro e w2 ⟨rfl, hb2⟩
      have hg2 : wr.grownBy w2 none := ⟨hb2.os, hb2.tape, hb2.output, hb2.size, fun i hi _ => hb2.block i hi⟩
      have hJ2 := hJ _ wr w2 none hJs hg2 (fun r e => by cases e)
      have hE2 := hE.below hb2
      have hS2 := hS.keep (hb2.mono hn1)
      have hsz2 := hb2.size
      obtain ⟨fn, tmps, assign, body, hy, hR⟩ := hY _ (k, bitS l k) w2 hJ2 (by rw [upto_length]; exact hlt)
      dsimp only at hy
      clear hE hS e0 e1 hJs hb2 hg2
      gi_wp2
      refine hR.mono ?_
      rintro e W3 (⟨rfl, hJ3, hk3⟩ | ⟨rfl, hJx3⟩)
      · have hE3 : Blk W3 E 25 [.int .i64 u, .slice A m c] := hk3.2.trans hE2
        have hS3 := hS2.keep hk3.1
        have hsz3 := hk3.1.size
        gi_wp2
        go_roundw
        case rel => exact ⟨k + 1, by omega, by go_num, by rw [upto_succ]; exact hJ3, hE3, hS3, by omega⟩
        case measure => simp [intOf]; omega
      · gi_wp2
        refine bodyPost_ret (results_none rfl _ _ _) rfl ?_
        exact ⟨⟨_, rfl⟩, .inr ⟨_, ⟨k + 1, by omega, (upto_succ _ _).symm⟩, hJx3⟩⟩
    · obtain rfl : k = len := by omega
      gi_wp2
      go_end0
      exact ⟨⟨_, rfl⟩, .inl ⟨_, rfl, hJs⟩⟩

end Go.Proofs.Ytjcddbcokiaehaa
