/-
  The contracts of the project's text: encode, numbered.
-/
import Derived.Test.YtoklonnajpjgjaaDoorTf
namespace Go.Proofs.YtoklonnajpjgjaaDoor
open Go.RowKit Go.Shelf
set_option linter.unusedVariables false
set_option linter.unusedSimpArgs false
set_option maxRecDepth 4000
attribute [local go_sem] Oper.semAt_some

theorem runeCells_map (r : Int) : Lib.runeCells r = (Lib.encodeRune r).map byteV := by
  rw [← Lib.byteCells_encodeRune]; rfl

set_option maxHeartbeats 1600000 in
theorem txEncode (k r : Int) (hr : -2147483648 ≤ r ∧ r ≤ 2147483647) (v : Value) (l : List UInt8) (B : Nat) (w : World) (ho : Ob w B 5 v l) (hl : l.length ≤ 1099511627776) (hB : B ≤ w.heap.size) :
    Calls Tryd.prog 54 #[v, .int .i64 k, .int .i32 r] w fun e w' => ∃ v', e = .returned v' ∧ Ob w' B 5 v' (l ++ encT k r) ∧ ∃ o, (w.alloc o).grownBy w' v.ownBlock := by
  obtain ⟨i0, hi, hz0, hz1, hz2⟩ := info_parts u8_info
  by_cases h12 : k = 12
  · subst h12
    have hA := Tryd.utf8_AppendRune_plain B v l.length (l.map byteV) r hr.1 hr.2 w ho (by omega) hB
    have e : encT 12 r = Lib.encodeRune r := by simp [encT]
    rw [e]
    rw [runeCells_map] at hA
    go_enter Tryd.func54, Tryd.ntmps54
    go_wp2_with fail
    refine hA.mono ?_
    rintro e w1 ⟨v', rfl, hown, hg⟩
    go_wp2
    go_ret
    exact ⟨_, rfl, by unfold Ob; rw [List.map_append, List.length_append]; simpa using hown, hg⟩
  · have b12 : (k == 12) = false := by simpa using h12
    by_cases h30 : k = 30
    · subst h30
      have e : encT 30 r = [loB (r / 256), loB r] := by simp [encT]
      rw [e]
      have l0 := loB_toNat (r / 256)
      have l1 := loB_toNat r
      have hH := Lib.hid l0
      have hH1 := Lib.hid l1
      clear e l0 l1
      go_enter Tryd.func54, Tryd.ntmps54
      go_wp2_with (at_builtin; refine wpList_appendB rfl _ _ 22 rfl B 5 i0 (.int .u8 0) Tryd.underlying22 hi hz0 hz1 hz2 rfl _ l rfl (ho.alloc _) _ _ _ [loB (r / 256), loB r] rfl (Bs.new2 _ _ _ _ _ _ ?ab3 ?ab4) ?ab1 ?ab2 ?_)
      case ab1 => omega
      case ab2 => simp; omega
      case ab3 => first | exact hH.out.symm | (have := hH.out; omega)
      case ab4 => first | exact hH1.out.symm | (have := hH1.out; omega)
      intro v' w2 hown hg _ _
      go_wp2
      go_ret
      exact ⟨_, rfl, hown, _, hg⟩
    · have b30 : (k == 30) = false := by simpa using h30
      have e : encT k r = [loB r] := by simp [encT, h12, h30]
      rw [e]
      have l1 := loB_toNat r
      have hH1 := Lib.hid l1
      clear e l1 h12 h30
      go_enter Tryd.func54, Tryd.ntmps54
      go_wp2_with (at_builtin; refine wpList_appendB rfl _ _ 22 rfl B 5 i0 (.int .u8 0) Tryd.underlying22 hi hz0 hz1 hz2 rfl _ l rfl (ho.alloc _) _ _ _ [loB r] rfl (Bs.new1 _ (loB r) _ _ ?ab3) ?ab1 ?ab2 ?_)
      case ab1 => omega
      case ab2 => simp; omega
      case ab3 => first | exact hH1.out.symm | (have := hH1.out; omega)
      intro v' w2 hown hg _ _
      go_wp2
      go_ret
      exact ⟨_, rfl, hown, _, hg⟩

/-- The character with a number; -1 for a number that fits none. -/
def numT (z : Int) : R32 := if h : -2147483648 ≤ z ∧ z ≤ 2147483647 then ⟨z, h⟩ else ⟨-1, by omega⟩
theorem numT_in {z : Int} (h : -2147483648 ≤ z ∧ z ≤ 2147483647) : (numT z).1 = z := by unfold numT; rw [dif_pos h]
theorem numT_out {z : Int} (h : ¬ (-2147483648 ≤ z ∧ z ≤ 2147483647)) : (numT z).1 = -1 := by unfold numT; rw [dif_neg h]
theorem wrap32_in {z : Int} (h : -2147483648 ≤ z ∧ z ≤ 2147483647) : IntKind.i32.wrap z = z := by
  unfold IntKind.wrap; simp [IntKind.bits, IntKind.signed]; omega
theorem wrap32_bound (z : Int) : -2147483648 ≤ IntKind.i32.wrap z ∧ IntKind.i32.wrap z ≤ 2147483647 := by
  unfold IntKind.wrap; simp [IntKind.bits, IntKind.signed]; omega
theorem wrap64_in {z : Int} (h : -2147483648 ≤ z ∧ z ≤ 2147483647) : IntKind.i64.wrap z = z := by
  unfold IntKind.wrap; simp [IntKind.bits, IntKind.signed]; omega

/-- Ints that lie below n₀. -/
def ZsN (n₀ : Nat) (w : World) (A : Option Addr) (n : Nat) (l : List Int) : Prop := Zs w A n l ∧ ∀ (i : Nat), i < n → ∃ b o, A = some ⟨b, o, none⟩ ∧ b < n₀
theorem ZsN.of {w : World} {A : Option Addr} {n : Nat} {l : List Int} (h : Zs w A n l) : ZsN w.heap.size w A n l :=
  ⟨h, fun i hi => by obtain ⟨b, o, e, hc⟩ := h.at_ hi; exact ⟨b, o, e, World.block_lt_of_cell? w _ hc⟩⟩
theorem ZsN.keep {n₀ : Nat} {w w' : World} {A : Option Addr} {n : Nat} {l : List Int} (h : ZsN n₀ w A n l) (hb : Below n₀ w w') : ZsN n₀ w' A n l :=
  ⟨⟨h.1.1, fun i x hx => by
    obtain ⟨b, o, e, hc⟩ := h.1.2 i x hx
    have hi : i < n := by have := h.1.1; have := (List.getElem?_eq_some_iff.1 hx).1; omega
    obtain ⟨b', o', e', hlt⟩ := h.2 i hi
    rw [e] at e'; cases e'
    exact ⟨b, o, e, (hb.cell (p := ⟨b, o + i, none⟩) hlt).trans hc⟩⟩, h.2⟩

theorem txNumbered (n : Nat) (A : Option Addr) (m c : Nat) (w : World) :
    CallsIn Fence.wide n Tryd.prog 43 #[.slice A m c] w fun e w' => e = .returned (.func (.func 60) #[] #[.pointer (some ⟨w.heap.size, 0, none⟩)]) ∧ w' = w.alloc (.cells #[.slice A m c] 28) := by
  refine callsIn_of_wp Tryd.func43 rfl trivial ?_ rfl
  simp only [Tryd.ntmps43, List.size_toArray, List.length_cons, List.length_nil, Nat.reduceAdd, Nat.reduceSub, Array.replicate_succ, Array.replicate_zero, List.push_toArray, List.append_toArray, List.nil_append, List.cons_append]
  gi_wp2
  go_ret
  exact ⟨rfl, rfl⟩

theorem take_snoc (l : List Int) {p : Nat} (h : p < l.length) : (l.take (p + 1)).map numT = (l.take p).map numT ++ [numT (zth l p)] := by
  rw [List.take_add_one, List.map_append, List.getElem?_eq_getElem h]; simp [zth, List.getD, List.getElem?_eq_getElem h]

set_option maxRecDepth 100000 in
set_option maxHeartbeats 2000000 in
theorem txNumbered1 (n : Nat) (hn : 1 ≤ n) (lp E n₀ : Nat) (A : Option Addr) (m c : Nat) (l : List Int) (hm : m ≤ 1099511) (J Jx : List R32 → World → Prop)
    (hY : ∀ pre x W, J pre W → pre.length < l.length → YieldAt Fence.wide (n - 1) Tryd.prog lp #[.int .i32 x.1] W fun e W' =>
      (e = .returned (.bool true) ∧ J (pre ++ [x]) W' ∧ Below n₀ W W') ∨ (e = .returned (.bool false) ∧ Jx (pre ++ [x]) W'))
    (W : World) (hJ : AbidesFrom W.heap.size J) (hE : Blk W E 28 [.slice A m c]) (hS : ZsN n₀ W A m l) (hn₀ : n₀ ≤ W.heap.size) (h0 : J [] W) :
    CallsIn Fence.wide n Tryd.prog 60 #[.func (.yield lp) #[] #[], .pointer (some ⟨E, 0, none⟩)] W fun e W' => (∃ v, e = .returned v) ∧
      ((∃ ys, ys = l.map numT ∧ J ys W') ∨ (∃ pre, (∃ r, pre ++ r = l.map numT) ∧ Jx pre W')) := by
  have hl := hS.1.len
  have e0 := hE.cell 0
  simp only [List.getElem?_cons_zero] at e0
  refine callsIn_of_wp Tryd.func60 rfl trivial ?_ rfl
  simp only [Tryd.ntmps60, List.size_toArray, List.length_cons, List.length_nil, Nat.reduceAdd, Nat.reduceSub, Array.replicate_succ, Array.replicate_zero, List.push_toArray, List.append_toArray, List.nil_append, List.cons_append]
  have hHl := Lib.hid hl
  clear hl
  gi_wp2
  gi_loopw [8] (fun i wr => ∃ p : Nat, p ≤ m ∧ i = .int .i64 (p : Int) ∧ J ((l.take p).map numT) wr ∧ ZsN n₀ wr A m l ∧ n₀ ≤ wr.heap.size) (fun i _ => m - (intOf i).toNat)
  case atStart => exact ⟨0, Nat.zero_le _, rfl, h0, hS, hn₀⟩
  case round =>
    clear hE hS hn₀ h0 e0
    obtain ⟨p, hp, rfl, hJs, hS, hn1⟩ := hrel
    by_cases hlt : p < m
    · have k1 : (p : Int) < m := by omega
      have d1 : decide (p < m) = true := by simp; omega
      have hpl : p < l.length := by have := hHl.out; omega
      obtain ⟨b, o, rfl, c0⟩ := hS.1.at_ hlt
      obtain ⟨fn, tmps, assign, body, hy, hR⟩ := hY _ (numT (zth l p)) wr hJs (by rw [List.length_map, List.length_take]; omega)
      have hsn := Lib.hid (take_snoc l hpl)
      have hpre := Lib.hid (show ((l.take (p + 1)).map numT) ++ (l.drop (p + 1)).map numT = l.map numT by rw [← List.map_append, List.take_append_drop])
      generalize zth l p = z at *
      by_cases hz : -2147483648 ≤ z ∧ z ≤ 2147483647
      · rw [numT_in hz] at hy
        have w1 := wrap32_in hz
        have w2 := wrap64_in hz
        have q1 : (z != z) = false := by simp
        clear hz
        gi_wp2
        refine hR.mono ?_
        rintro e W3 (⟨rfl, hJ3, hk3⟩ | ⟨rfl, hJx3⟩)
        · have hS3 := hS.keep hk3
          have hsz3 := hk3.size
          gi_wp2
          go_roundw
          case rel => exact ⟨p + 1, by omega, by go_num, by rw [hsn.out]; exact hJ3, hS3, by omega⟩
          case measure => simp [intOf]; omega
        · gi_wp2
          refine bodyPost_ret (results_none rfl _ _ _) rfl ?_
          exact ⟨⟨_, rfl⟩, .inr ⟨_, ⟨_, by rw [← hsn.out]; exact hpre.out⟩, hJx3⟩⟩
      · rw [numT_out hz] at hy
        have w1 := wrap32_bound z
        obtain ⟨y, hy1⟩ : ∃ y, IntKind.i32.wrap z = y := ⟨_, rfl⟩
        rw [hy1] at w1
        have w2 := wrap64_in w1
        have q1 : (y != z) = true := by rw [bne_iff_ne]; omega
        clear hz w1
        gi_wp2
        refine hR.mono ?_
        rintro e W3 (⟨rfl, hJ3, hk3⟩ | ⟨rfl, hJx3⟩)
        · have hS3 := hS.keep hk3
          have hsz3 := hk3.size
          gi_wp2
          go_roundw
          case rel => exact ⟨p + 1, by omega, by go_num, by rw [hsn.out]; exact hJ3, hS3, by omega⟩
          case measure => simp [intOf]; omega
        · gi_wp2
          refine bodyPost_ret (results_none rfl _ _ _) rfl ?_
          exact ⟨⟨_, rfl⟩, .inr ⟨_, ⟨_, by rw [← hsn.out]; exact hpre.out⟩, hJx3⟩⟩
    · obtain rfl : p = m := by omega
      have ht : l.take p = l := List.take_of_length_le (by have := hHl.out; omega)
      rw [ht] at hJs
      clear ht
      gi_wp2
      go_end0
      exact ⟨⟨_, rfl⟩, .inl ⟨_, rfl, hJs⟩⟩

theorem txNumberedStops (n : Nat) (hn : 1 ≤ n) (E n₀ : Nat) (A : Option Addr) (m c : Nat) (l : List Int) (hm : m ≤ 1099511) (w : World) (hE : Blk w E 28 [.slice A m c]) (hS : ZsN n₀ w A m l) (hn₀ : n₀ ≤ w.heap.size) :
    SeqStopsK Fence.wide n Tryd.prog 60 #[.pointer (some ⟨E, 0, none⟩)] (fun x : R32 => #[Value.int .i32 x.1]) (Below n₀) (fun ys => ys = l.map numT) (fun pre => ∃ r, pre ++ r = l.map numT) l.length w :=
  fun lp J Jx W hW hJ _ hY h0 => txNumbered1 n hn lp E n₀ A m c l hm J Jx hY W hJ (hE.below hW) (hS.keep (hW.mono hn₀)) (Nat.le_trans hn₀ hW.size) h0
end Go.Proofs.YtoklonnajpjgjaaDoor
