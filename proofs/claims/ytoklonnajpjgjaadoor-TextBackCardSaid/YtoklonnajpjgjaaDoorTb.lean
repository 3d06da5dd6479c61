/-
  The contracts of the project's text: decodeBmp, decodeUtf8, decode, encode.
-/
import Derived.Test.YtoklonnajpjgjaaDoorTa
namespace Go.Proofs.YtoklonnajpjgjaaDoor
open Go.RowKit
set_option linter.unusedVariables false
set_option linter.unusedSimpArgs false
set_option maxRecDepth 4000

theorem or_bytes : ∀ x y : Fin 256, bits BinOp.or IntKind.i32 (((x.val : Nat) : Int) * 256) ((y.val : Nat) : Int) = ((256 * x.val + y.val : Nat) : Int) := by decide +kernel
theorem or_nth (l : List UInt8) : bits BinOp.or IntKind.i32 (nth l 0 * 256) (nth l 1) = 256 * nth l 0 + nth l 1 := by
  unfold nth
  have h0 := (l.getD 0 0).toNat_lt
  have h1 := (l.getD 1 0).toNat_lt
  have := or_bytes ⟨_, h0⟩ ⟨_, h1⟩
  simp only at this
  rw [this]; omega

set_option maxHeartbeats 1600000 in
theorem txDecodeBmp (A : Option Addr) (n c : Nat) (l : List UInt8) (w : World) (h : Bs w A n l) (hn : n ≤ 1099511627776) :
    Calls Tryd.prog 69 #[.slice A n c] w fun e w' => e = .returned (.tuple #[.int .i32 (decT 30 l).1, .int .i64 (decT 30 l).2]) ∧ Below w.heap.size w w' := by
  have hl := h.len
  have e : decT 30 l = if l.length < 2 then (-1, l.length) else (256 * nth l 0 + nth l 1, 2) := by simp [decT]
  rw [e, hl]
  clear e
  go_enter Tryd.func69, Tryd.ntmps69
  by_cases h2 : n < 2
  · rw [if_pos h2]
    have i2 : (n : Int) < 2 := by omega
    clear hl h
    go_wp2
    go_ret2
    exact ⟨rfl, Below.refl _ _⟩
  · rw [if_neg h2]
    have i2 : ¬ (n : Int) < 2 := by omega
    have i1 : (1 : Int) < n := by omega
    have i0 : (0 : Int) < n := by omega
    have d1 : decide (1 < n) = true := by simp; omega
    have d0 : decide (0 < n) = true := by simp; omega
    obtain ⟨b, o, rfl, c0⟩ := h.at_ (k := 0) (by omega)
    rw [Nat.add_zero] at c0
    obtain ⟨b', o', e', c1⟩ := h.at_ (k := 1) (by omega)
    cases e'
    have ho := or_nth l
    have b0 := nth_bound l 0
    have b1 := nth_bound l 1
    have hsh : IntKind.i32.wrap (nth l 0 * 256) = nth l 0 * 256 := by
      unfold IntKind.wrap; simp [IntKind.bits, IntKind.signed]; omega
    clear h hl
    generalize nth l 0 = x at *
    generalize nth l 1 = y at *
    go_wp2
    go_quiet (fail)
    go_wp2
    go_ret2
    exact ⟨rfl, below_drewN (Below.refl _ _) _⟩

theorem dec_nonempty {l : List UInt8} (h : l ≠ []) : Lib.decodeGo ⟨l.toArray⟩ = Lib.decodeL l := by
  unfold Lib.decodeGo Lib.decodeL
  rw [if_neg (by
    intro e
    apply h
    have : l.toArray.size = 0 := e
    simpa using this)]

set_option maxHeartbeats 1600000 in
theorem txDecodeUtf8 (A : Option Addr) (n c : Nat) (l : List UInt8) (w : World) (hT : Tb w) (h : Bs w A n l) (hl : l ≠ []) :
    Calls Tryd.prog 68 #[.slice A n c] w fun e w' => e = .returned (.tuple #[.int .i32 (decT 12 l).1, .int .i64 (decT 12 l).2]) ∧ Below w.heap.size w w' := by
  have e : decT 12 l = if (Lib.decodeL l).1 = 65533 ∧ (Lib.decodeL l).2 = 1 then (-1, 1) else (((Lib.decodeL l).1 : Int), (Lib.decodeL l).2) := by simp [decT]
  rw [e]
  clear e
  have hlen := h.len
  have hpos : 0 < n := by have := List.length_pos_iff.2 hl; omega
  obtain ⟨b, o, rfl, _⟩ := h.at_ hpos
  have hD := Tryd.utf8_DecodeRune ⟨l.toArray⟩ b o c w hT (fun j hj => by
    have hj' : j < n := by have : j < l.toArray.size := hj; simp at this; omega
    obtain ⟨b', o', e', hc⟩ := h.at_ hj'
    cases e'
    rw [hc]
    have hjl : j < l.length := by omega
    congr 2
    simp only [nth, ByteArray.get!, List.getD, List.getElem?_eq_getElem hjl, Option.getD_some]
    congr 1
    rw [List.getElem!_toArray, List.getElem!_eq_getElem?_getD, List.getElem?_eq_getElem hjl]; rfl)
  have hsz : (⟨l.toArray⟩ : ByteArray).size = n := by show l.toArray.size = n; simpa using hlen
  rw [hsz, dec_nonempty hl] at hD
  generalize Lib.decodeL l = d at *
  obtain ⟨r, s⟩ := d
  clear h hlen hsz hl hT hpos
  dsimp only at hD ⊢
  by_cases h1 : r = 65533
  · subst h1
    by_cases h2 : s = 1
    · subst h2
      rw [if_pos ⟨rfl, rfl⟩]
      go_enter Tryd.func68, Tryd.ntmps68
      go_wp2_with fail
      refine hD.mono ?_
      rintro e w1 ⟨rfl, hb⟩
      go_wp2
      go_ret2
      exact ⟨rfl, hb⟩
    · have e2 : ((s : Int) == 1) = false := by simp; omega
      rw [if_neg (by simp [h2])]
      clear h2
      go_enter Tryd.func68, Tryd.ntmps68
      go_wp2_with fail
      refine hD.mono ?_
      rintro e w1 ⟨rfl, hb⟩
      go_wp2
      go_ret2
      exact ⟨rfl, hb⟩
  · have e1 : ((r : Int) == 65533) = false := by simp; omega
    rw [if_neg (by simp [h1])]
    clear h1
    go_enter Tryd.func68, Tryd.ntmps68
    go_wp2_with fail
    refine hD.mono ?_
    rintro e w1 ⟨rfl, hb⟩
    go_wp2
    go_ret2
    exact ⟨rfl, hb⟩

set_option maxHeartbeats 1600000 in
theorem txDecode (k : Int) (A : Option Addr) (n c : Nat) (l : List UInt8) (w : World) (hT : Tb w) (h : Bs w A n l) (hl : l ≠ []) (hn : n ≤ 1099511627776) :
    Calls Tryd.prog 53 #[.int .i64 k, .slice A n c] w fun e w' => e = .returned (.tuple #[.int .i32 (decT k l).1, .int .i64 (decT k l).2]) ∧ Below w.heap.size w w' := by
  have hpos : 0 < n := by have := List.length_pos_iff.2 hl; have := h.len; omega
  by_cases h12 : k = 12
  · subst h12
    have hD := txDecodeUtf8 A n c l w hT h hl
    generalize decT 12 l = d at *
    go_enter Tryd.func53, Tryd.ntmps53
    go_wp2_with fail
    refine hD.mono ?_
    rintro e w1 ⟨rfl, hb⟩
    go_wp2
    go_ret2
    exact ⟨rfl, hb⟩
  · have b12 : (k == 12) = false := by simpa using h12
    by_cases h30 : k = 30
    · subst h30
      have hD := txDecodeBmp A n c l w h hn
      generalize decT 30 l = d at *
      go_enter Tryd.func53, Tryd.ntmps53
      go_wp2_with fail
      refine hD.mono ?_
      rintro e w1 ⟨rfl, hb⟩
      go_wp2
      go_ret2
      exact ⟨rfl, hb⟩
    · have b30 : (k == 30) = false := by simpa using h30
      have e : decT k l = (nth l 0, 1) := by simp [decT, h12, h30]
      rw [e]
      obtain ⟨b, o, rfl, c0⟩ := h.at_ (k := 0) hpos
      rw [Nat.add_zero] at c0
      have i0 : (0 : Int) < n := by omega
      have d0 : decide (0 < n) = true := by simp; omega
      have b0 := nth_bound l 0
      have hw : IntKind.i32.wrap (nth l 0) = nth l 0 := by
        unfold IntKind.wrap; simp [IntKind.bits, IntKind.signed]; omega
      clear h h12 h30 e
      generalize nth l 0 = x at *
      go_enter Tryd.func53, Tryd.ntmps53
      go_wp2
      go_ret2
      exact ⟨rfl, Below.refl _ _⟩
end Go.Proofs.YtoklonnajpjgjaaDoor
