/-
  The contracts of the project's text: runes.
-/
import Derived.RangeFuncNested
import Derived.RangeFuncBox
import Derived.RangeFuncLeaves
import Derived.Shelf.Abstract
import Derived.WalkKit
import Derived.OwnWalkIn
import Derived.TacticsInMore
import Derived.LoopNIn
import Derived.LoopIn
import Derived.Stop.RegionWithIn
import Derived.Test.YtoklonnajpjgjaaDoorBlk
import Derived.Test.YtoklonnajpjgjaaDoorTb
namespace Go.Proofs.YtoklonnajpjgjaaDoor
open Go.RowKit Go.Shelf
set_option linter.unusedVariables false
set_option linter.unusedSimpArgs false
set_option maxRecDepth 4000
attribute [local go_sem] Oper.semAt_some

/-- A character as the loops are handed it. -/
abbrev R32 := { r : Int // -2147483648 ≤ r ∧ r ≤ 2147483647 }
def toR (r : Int) : R32 := if h : -2147483648 ≤ r ∧ r ≤ 2147483647 then ⟨r, h⟩ else ⟨0, by omega⟩
theorem toR_val {r : Int} (h : -2147483648 ≤ r ∧ r ≤ 2147483647) : (toR r).1 = r := by unfold toR; rw [dif_pos h]
def runesR (k : Int) (l : List UInt8) : List R32 := (runesT k l).map toR
theorem runesR_val (k : Int) (l : List UInt8) : (runesR k l).map (fun x => x.1) = runesT k l := by
  unfold runesR
  rw [List.map_map]
  conv => rhs; rw [← List.map_id (runesT k l)]
  apply List.map_congr_left
  intro r hr
  have := runesT_rune k l r hr
  exact toR_val (by omega)
theorem runesR_nil (k : Int) : runesR k [] = [] := by simp [runesR, runesT_nil]
theorem runesR_step (k : Int) (l : List UInt8) (h : l ≠ []) : runesR k l = toR (decT k l).1 :: runesR k (l.drop (decT k l).2) := by
  simp [runesR, runesT_step k l h]

/-- What a round keeps: what lies below n₀, and the box of the text. -/
def Kp6 (n₀ E : Nat) (W W' : World) : Prop := Below n₀ W W' ∧ W'.heap[E]? = W.heap[E]?
theorem Kp6.trans {n₀ E : Nat} {A B C : World} (h : Kp6 n₀ E A B) (k : Kp6 n₀ E B C) : Kp6 n₀ E A C := ⟨h.1.trans k.1, k.2.trans h.2⟩
/-- Bytes that lie below n₀. -/
def BsN (n₀ : Nat) (w : World) (A : Option Addr) (n : Nat) (l : List UInt8) : Prop := Bs w A n l ∧ ∀ (i : Nat) (x : UInt8), l[i]? = some x → ∃ b o, A = some ⟨b, o, none⟩ ∧ b < n₀
theorem BsN.of {w : World} {A : Option Addr} {n : Nat} {l : List UInt8} (h : Bs w A n l) : BsN w.heap.size w A n l :=
  ⟨h, fun i x hx => by obtain ⟨b, o, e, hc⟩ := h.2 i x hx; exact ⟨b, o, e, World.block_lt_of_cell? w _ hc⟩⟩
theorem BsN.keep {n₀ : Nat} {w w' : World} {A : Option Addr} {n : Nat} {l : List UInt8} (h : BsN n₀ w A n l) (hb : Below n₀ w w') : BsN n₀ w' A n l :=
  ⟨⟨h.1.1, fun i x hx => by
    obtain ⟨b, o, e, hc⟩ := h.1.2 i x hx
    obtain ⟨b', o', e', hlt⟩ := h.2 i x hx
    rw [e] at e'; cases e'
    exact ⟨b, o, e, (hb.cell (p := ⟨b, o + i, none⟩) hlt).trans hc⟩⟩, h.2⟩
theorem BsN.mono {n₀ n₁ : Nat} {w : World} {A : Option Addr} {n : Nat} {l : List UInt8} (h : BsN n₀ w A n l) (hn : n₀ ≤ n₁) : BsN n₁ w A n l :=
  ⟨h.1, fun i x hx => by obtain ⟨b, o, e, hlt⟩ := h.2 i x hx; exact ⟨b, o, e, by omega⟩⟩
theorem BsN.drop {n₀ : Nat} {w : World} {A : Option Addr} {n : Nat} {l : List UInt8} (h : BsN n₀ w A n l) {p : Nat} (hp : p < n) :
    ∃ b o, A = some ⟨b, o, none⟩ ∧ b < n₀ ∧ Bs w (some ⟨b, o + p, none⟩) (n - p) (l.drop p) := by
  have hl := h.1.len
  obtain ⟨b, o, rfl, hlt⟩ := h.2 p _ (List.getElem?_eq_getElem (by omega : p < l.length))
  have := h.1.cut (i := p) (j := n) (by omega) (Nat.le_refl _)
  simp only [Option.map_some, Addr.add_none] at this
  rw [List.take_of_length_le (by simp; omega)] at this
  exact ⟨b, o, rfl, hlt, this⟩
/-- The tables lie below n₀. -/
theorem Tb.belowN {n₀ : Nat} {w w' : World} (h : Tb w) (h2 : 2 < n₀) (hb : Below n₀ w w') : Tb w' :=
  ⟨fun c hc => (hb.cell (p := ⟨1, c, none⟩) (by show 1 < n₀; omega)).trans (h.1 c hc),
   fun i hi => ⟨(hb.cell (p := ⟨2, 2 * i, none⟩) (by show 2 < n₀; omega)).trans (h.2 i hi).1, (hb.cell (p := ⟨2, 2 * i + 1, none⟩) (by show 2 < n₀; omega)).trans (h.2 i hi).2⟩⟩
theorem Tb.lt {w : World} (h : Tb w) : 2 < w.heap.size := World.block_lt_of_cell? w _ (h.2 0 (by omega)).1

theorem cutB (A : Option Addr) (n c k : Nat) (hk : k ≤ n) (hc : n ≤ c) : ∃ A', (∀ (W : World), (Instr.slice 22 (.slice A n c) (some (.int .i64 (k : Int))) none none).run Tryd.prog W = .ok (.slice A' (n - k) (c - k)) W) ∧
    ∀ (W : World) (l : List UInt8), Bs W A n l → Bs W A' (n - k) (l.drop k) := by
  by_cases h : k = c
  · subst h
    have : n = k := by omega
    subst this
    refine ⟨A, fun W => ?_, fun W l hb => ?_⟩
    · go_simp
      try (cases A <;> simp [sliced])
    · have := hb.len
      rw [List.drop_eq_nil_of_le (by omega), Nat.sub_self]
      exact Bs.nil _ _
  · refine ⟨Option.map (fun x => x.add k) A, fun W => ?_, fun W l hb => ?_⟩
    · go_simp
      have : ¬ c = k := fun e => h e.symm
      cases A <;> simp [sliced, h, this, Nat.sub_eq_zero_iff_le] <;> omega
    · have := hb.cut (i := k) (j := n) hk (Nat.le_refl _)
      rw [List.take_of_length_le (by have := hb.len; simp; omega)] at this
      exact this

theorem txRunes (n : Nat) (k : Int) (A : Option Addr) (m c : Nat) (w : World) :
    CallsIn Fence.wide n Tryd.prog 33 #[.agg #[.int .i64 k, .slice A m c]] w fun e w' => e = .returned (.func (.func 52) #[] #[.pointer (some ⟨w.heap.size, 0, none⟩)]) ∧ w' = w.alloc (.cells #[.int .i64 k, .slice A m c] 25) := by
  refine callsIn_of_wp Tryd.func33 rfl trivial ?_ rfl
  simp only [Tryd.ntmps33, List.size_toArray, List.length_cons, List.length_nil, Nat.reduceAdd, Nat.reduceSub, Array.replicate_succ, Array.replicate_zero, List.push_toArray, List.append_toArray, List.nil_append, List.cons_append]
  gi_wp2
  go_ret
  exact ⟨rfl, rfl⟩

set_option maxRecDepth 100000 in
set_option maxHeartbeats 2000000 in
theorem txRunes1 (n : Nat) (hn : 1 ≤ n) (lp E n₀ : Nat) (u : Int) (A : Option Addr) (m c : Nat) (l : List UInt8) (hm : m ≤ 1099511) (hmc : m ≤ c) (hn2 : 2 < n₀) (J Jx : List R32 → World → Prop)
    (hY : ∀ pre x W, J pre W → pre.length < (runesR u l).length → YieldAt Fence.wide (n - 1) Tryd.prog lp #[.int .i32 x.1] W fun e W' =>
      (e = .returned (.bool true) ∧ J (pre ++ [x]) W' ∧ Kp6 n₀ E W W') ∨ (e = .returned (.bool false) ∧ Jx (pre ++ [x]) W'))
    (W : World) (hJ : AbidesFrom W.heap.size J) (hE : Blk W E 25 [.int .i64 u, .slice A m c]) (hS : BsN n₀ W A m l) (hT : Tb W) (hn₀ : n₀ ≤ W.heap.size) (h0 : J [] W) :
    CallsIn Fence.wide n Tryd.prog 52 #[.func (.yield lp) #[] #[], .pointer (some ⟨E, 0, none⟩)] W fun e W' => (∃ v, e = .returned v) ∧
      ((∃ ys, ys = runesR u l ∧ J ys W') ∨ (∃ pre, (∃ r, pre ++ r = runesR u l) ∧ Jx pre W')) := by
  have hl := hS.1.len
  have hHs := Lib.hid (fun (W : World) (hT : Tb W) (A : Option Addr) (n c : Nat) (l : List UInt8) (hW : Bs W A n l) (hl : l ≠ []) (hn : n ≤ 1099511627776) => txDecode u A n c l W hT hW hl hn)
  refine callsIn_of_wp Tryd.func52 rfl trivial ?_ rfl
  simp only [Tryd.ntmps52, List.size_toArray, List.length_cons, List.length_nil, Nat.reduceAdd, Nat.reduceSub, Array.replicate_succ, Array.replicate_zero, List.push_toArray, List.append_toArray, List.nil_append, List.cons_append]
  gi_wp2
  gi_loopw [3] (fun i wr => ∃ (p : Nat) (pre : List R32), p ≤ m ∧ i = .int .i64 (p : Int) ∧ pre ++ runesR u (l.drop p) = runesR u l ∧ J pre wr ∧ Blk wr E 25 [.int .i64 u, .slice A m c] ∧ BsN n₀ wr A m l ∧ Tb wr ∧ n₀ ≤ wr.heap.size ∧ W.heap.size ≤ wr.heap.size) (fun i _ => m - (intOf i).toNat)
  case atStart => exact ⟨0, [], Nat.zero_le _, rfl, by simp, h0, hE, hS, hT, hn₀, Nat.le_refl _⟩
  case round =>
    clear hE hS hT hn₀ h0
    obtain ⟨p, pre, hp, rfl, hpre, hJs, hE, hS, hT, hn1, hsz0⟩ := hrel
    obtain ⟨e0, e1, _, _⟩ := hE.two
    by_cases hlt : p < m
    · have k1 : (p : Int) < m := by omega
      have k2 : (p : Int) ≤ c := by omega
      have k3 : ¬ (c : Int) < p := by omega
      have hne : l.drop p ≠ [] := by intro e; have := congrArg List.length e; simp at this; omega
      obtain ⟨A', hcut, hbs⟩ := cutB A m c p (by omega) hmc
      have hbs := hbs wr l hS.1
      obtain ⟨⟨r, s⟩, hd⟩ : ∃ d, decT u (l.drop p) = d := ⟨_, rfl⟩
      have hsz := decT_size u _ hne
      have hrn := decT_rune u (l.drop p)
      rw [hd, List.length_drop] at hsz
      rw [hd] at hrn
      have hC := hHs.out wr.drew hT _ _ (c - p) _ hbs.drew hne (by omega)
      rw [hd] at hC
      have hstep := runesR_step u _ hne
      rw [hd, List.drop_drop] at hstep
      rw [hstep] at hpre
      have hHP := Lib.hid hpre
      have hHsz := Lib.hid hsz
      have hHr := Lib.hid hrn
      have hHl := Lib.hid hl
      clear hpre hstep hd hsz hrn hne hl hbs
      dsimp only at hC
      gi_wp2
      gi_region_with (refine ⟨trivial, ?_⟩; refine (callsIn_wide.2 hC).mono ?_; rintro e w2 ⟨rfl, hb2⟩)
      all_goals
        have hb2' : Below wr.heap.size wr w2 := ⟨hb2.os, hb2.tape, hb2.output, hb2.size, hb2.block⟩
        have hg2 : wr.grownBy w2 none := ⟨hb2'.os, hb2'.tape, hb2'.output, hb2'.size, fun i hi _ => hb2'.block i hi⟩
        have hJ2 := hJ _ wr w2 none hJs hg2 (fun r e => by cases e)
        have hE2 := hE.below hb2'
        have hS2 := hS.keep (hb2'.mono hn1)
        have hT2 := hT.below hb2'
        have hsz2 := hb2'.size
        obtain ⟨fn, tmps, assign, body, hy, hR⟩ := hY _ (toR r) w2 hJ2 (by rw [← hHP.out]; simp)
        rw [toR_val (by have := hHr.out; omega)] at hy
        clear hE hS hT e0 e1 hJs hb2 hb2' hg2 hC
        gi_wp2
        refine hR.mono ?_
        rintro e W3 (⟨rfl, hJ3, hk3⟩ | ⟨rfl, hJx3⟩)
        · have hE3 : Blk W3 E 25 [.int .i64 u, .slice A m c] := hk3.2.trans hE2
          have hS3 := hS2.keep hk3.1
          have hT3 := hT2.belowN hn2 hk3.1
          have hsz3 := hk3.1.size
          have hw : IntKind.i64.wrap ((p : Int) + (s : Int)) = ((p + s : Nat) : Int) := by
            have h1 := hHsz.out; have h2 := hHl.out
            skip
            rw [wrap_small _ (by omega) (by omega)]; omega
          gi_wp2
          go_roundw
          case rel => exact ⟨p + s, pre ++ [toR r], by have h1 := hHsz.out; have h2 := hHl.out; skip; omega, by first | rfl | (go_num) | (rw [hw]), by rw [List.append_assoc]; exact hHP.out, hJ3, hE3, hS3, hT3, by omega, by omega⟩
          case measure => have h1 := hHsz.out; have h2 := hHl.out; skip; simp [intOf]; omega
        · gi_wp2
          refine bodyPost_ret (results_none rfl _ _ _) rfl ?_
          exact ⟨⟨_, rfl⟩, .inr ⟨_, ⟨_, by rw [List.append_assoc]; exact hHP.out⟩, hJx3⟩⟩
    · obtain rfl : p = m := by omega
      have hdr : l.drop p = [] := List.drop_eq_nil_of_le (by omega)
      rw [hdr, runesR_nil, List.append_nil] at hpre
      gi_wp2
      go_end0
      exact ⟨⟨_, rfl⟩, .inl ⟨_, hpre, hJs⟩⟩
end Go.Proofs.YtoklonnajpjgjaaDoor
