/-
  The contracts of layer 3's reference: an int below 0 as a number.
-/
import Derived.Test.YtmeedckkpafhpaaDoorR3b
namespace Go.Proofs.YtmeedckkpafhpaaDoor
open Go.RowKit Go.Joins
set_option linter.unusedVariables false
set_option linter.unusedSimpArgs false
set_option maxRecDepth 4000

set_option maxHeartbeats 1600000 in
theorem ref3Of1 (S : Nat) (w : World) (h0 : 0 < S) (h2 : S ≤ 9223372036854775808) :
    Calls Tryd.prog 23 #[.int .i64 (-(S : Int))] w fun e w' => ∃ (s : Nm) (u' : Value), e = .returned u' ∧ NumV w' s u' ∧ s.z = -(S : Int) ∧ s.below = true ∧ s.size.length ≤ 8 ∧ Below w.heap.size w w' := by
  obtain ⟨i0, hi, hz0, hz1, hz2⟩ := info_parts u8_info
  have hneg : decide (-(S : Int) < 0) = true := by simp; omega
  have hneg2 : -(S : Int) < 0 := by omega
  have hT := One.start w 24 (.bool false) (.slice none 0 0)
  go_enter Tryd.func23, Tryd.ntmps23
  go_wp2
  generalize (w.alloc (Obj.cells #[Value.bool false, Value.slice none 0 0] 24)) = W0 at *
  generalize hR : w.heap.size = R at *
  have HR := Lib.hid hR; clear hR
  have hB0 := hT.2.1
  have hK0 := hT.1
  have hs0 : Hid (R + 1 ≤ W0.heap.size) := hK0.lt
  clear hT
  go_loopw [0, 3] (fun kv v wr => ∃ (z : Nat) (sz : List UInt8), kv = .int .i64 (-(z : Int)) ∧ Ob wr (R + 1) 5 v sz ∧ Blk wr R 24 [.bool false, .slice none 0 0] ∧ Below w.heap.size w wr ∧ Hid (R + 1 ≤ wr.heap.size) ∧ Hid (S = z * 256 ^ sz.length + val sz) ∧ sz.length ≤ 8 ∧ Hid (z < 256 ^ (8 - sz.length)) ∧ z ≤ 9223372036854775808) (fun kv _ _ => (-(intOf kv)).toNat)
  case atStart => exact ⟨S, [], rfl, Ob.nil _ _ _, hK0, hB0, hs0, by simp [Hid, val], by simp, by simp [Hid]; omega, h2⟩
  case round =>
    obtain ⟨z, sz, rfl, hob, hK, hB, hs, hv, hl8, hzb, hz63⟩ := hrel
    clear hB0 hK0 hs0
    by_cases hz0' : z = 0
    · subst hz0'
      have hF : Hid (Nm.z ⟨true, sz⟩ = -(S : Int)) := by
        have := hv.out
        unfold Hid Nm.z; simp only [if_true]; rw [this]; simp
      obtain ⟨A1, c1, rfl, hc1, hbs⟩ := hob.slice
      have r0 := hK.cell 0
      have r1 := hK.cell 1
      have g0 := hK.free 0
      have g1 := hK.free 1
      simp at r0 r1
      have hlt := hK.lt
      generalize hL : sz.length = L at *
      have HL := Lib.hid hL; clear hL
      go_wp2
      refine bodyPost_ret (v := .agg #[.bool true, .slice A1 L c1]) (by simp [results, Tryd.results23, go_sem, r0, r1]) rfl ?_
      refine ⟨⟨true, sz⟩, _, rfl, NumV.mk' _ (hbs.set2 hK _ _) hc1, hF.out, rfl, by simp only [HL.out]; exact hl8, ?_⟩
      exact below_set2 hB (by rw [HR.out]; omega) (by rw [HR.out]; omega) _ _
    · have e1 : (-(z : Int) != 0) = true := by simp; omega
      have tm0 : (-(z : Int)).tmod 256 = -((z : Int) % 256) := by rw [Int.neg_tmod, Int.tmod_eq_emod_of_nonneg (by omega)]
      have tq0 : (-(z : Int)).tdiv 256 = -((z : Int) / 256) := by rw [Int.neg_tdiv, Int.tdiv_eq_ediv_of_nonneg (by omega)]
      obtain ⟨qz, hqz⟩ : ∃ qz : Nat, z / 256 = qz := ⟨_, rfl⟩
      have tq : (-(z : Int)).tdiv 256 = -(qz : Int) := by rw [tq0]; omega
      clear tq0
      have hlt8 : sz.length < 8 := by
        have := hzb.out
        by_cases h8 : sz.length = 8
        · rw [h8] at this; simp at this; omega
        · omega
      obtain ⟨x, hx⟩ : ∃ x : UInt8, (z : Int) % 256 = (x.toNat : Int) := ⟨UInt8.ofNat (z % 256), by rw [UInt8.toNat_ofNat']; omega⟩
      have hxb := UInt8.toNat_lt x
      have hF : Hid (S = (z / 256) * 256 ^ (sz.length + 1) + val (x :: sz)) := by
        unfold Hid
        rw [val_cons, hv.out]
        have h3 : z = z / 256 * 256 + x.toNat := by omega
        have h4 : z * 256 ^ sz.length = z / 256 * 256 ^ (sz.length + 1) + x.toNat * 256 ^ sz.length := by
          conv => lhs; rw [h3]
          rw [Nat.add_mul, Nat.pow_succ, Nat.mul_assoc, Nat.mul_comm 256]
        omega
      have hzb2 : Hid (z / 256 < 256 ^ (8 - (sz.length + 1))) := by
        have := hzb.out
        unfold Hid
        rw [show 8 - sz.length = (8 - (sz.length + 1)) + 1 by omega, Nat.pow_succ] at this
        omega
      by_cases hd : z % 256 = 0
      · have HX := Lib.hid hx
        have tm : (-(z : Int)).tmod 256 = 0 := by rw [tm0]; omega
        have HX0 : Hid ((0 : Int) = (x.toNat : Int)) := by unfold Hid; omega
        have HQZ := Lib.hid hqz
        have hqb : qz ≤ 9223372036854775808 := by omega
        have hqlt : Hid (qz < z) := by unfold Hid; omega
        clear hx hv hzb HX tm0 hd hqz
        obtain ⟨A1, c1, rfl, hc1, hbs⟩ := hob.slice
        have ho1 := Ob.one wr (R + 1) 5 x 0 hs.out HX0.out
        have hbs1 := hbs.below (below_alloc1 wr (Obj.cells #[.int .u8 0] 5))
        generalize hL : sz.length = L at *
        have HL := Lib.hid hL; clear hL
        go_wp2_with (at_builtin; refine wpList_appendB rfl _ _ 22 rfl (R + 1) 5 i0 (.int .u8 0) Tryd.underlying22 hi hz0 hz1 hz2 rfl _ [x] rfl ho1 _ _ _ sz rfl hbs1 (by simp; omega) (by have := hs.out; simp; omega) ?_)
        intro v1 w1 hob1 hg1 _ _
        have hB1 : Below w.heap.size w w1 := (hB.alloc hB.size _).grown hg1 (by have := hB.size; simp; omega) (by
          intro k hk
          simp [Value.ownBlock] at hk
          have := hB.size
          omega)
        have hK1 := (hK.below (below_alloc1 wr (Obj.cells #[.int .u8 0] 5))).grown hg1 (by
          have := hK.lt
          simp [Value.ownBlock]; omega)
        have hs1 : Hid (R + 1 ≤ w1.heap.size) := hK1.lt
        go_wp2
        refine ⟨⟨qz, x :: sz, rfl, hob1, hK1, hB1, hs1, ?_, ?_, ?_, hqb⟩, ?_⟩
        · have := HL.out; rw [List.length_cons, this, ← HQZ.out]; exact hF
        · have := HL.out; simp; omega
        · have := HL.out; rw [List.length_cons, this, ← HQZ.out]; exact hzb2
        · have := hqlt.out
          simp [intOf]; omega
      · have HX := Lib.hid hx
        obtain ⟨r, hr⟩ : ∃ r : Nat, z % 256 = r := ⟨_, rfl⟩
        have tm : (-(z : Int)).tmod 256 = -(r : Int) := by rw [tm0]; omega
        have r0 : 0 < r := by omega
        have r1 : r < 256 := by omega
        have n1 : -(r : Int) < 0 := by omega
        have n2 : (0 : Int) < r := by omega
        have HX0 : Hid ((r : Int) = (x.toNat : Int)) := by unfold Hid; omega
        have HQZ := Lib.hid hqz
        have hqb : qz ≤ 9223372036854775808 := by omega
        have hqlt : Hid (qz < z) := by unfold Hid; omega
        clear hx hv hzb HX tm0 hd hr hqz
        obtain ⟨A1, c1, rfl, hc1, hbs⟩ := hob.slice
        have ho1 := Ob.one wr (R + 1) 5 x (r : Int) hs.out HX0.out
        have hbs1 := hbs.below (below_alloc1 wr (Obj.cells #[.int .u8 (r : Int)] 5))
        generalize hL : sz.length = L at *
        have HL := Lib.hid hL; clear hL
        go_wp2_with (at_builtin; refine wpList_appendB rfl _ _ 22 rfl (R + 1) 5 i0 (.int .u8 0) Tryd.underlying22 hi hz0 hz1 hz2 rfl _ [x] rfl ho1 _ _ _ sz rfl hbs1 (by simp; omega) (by have := hs.out; simp; omega) ?_)
        intro v1 w1 hob1 hg1 _ _
        have hB1 : Below w.heap.size w w1 := (hB.alloc hB.size _).grown hg1 (by have := hB.size; simp; omega) (by
          intro k hk
          simp [Value.ownBlock] at hk
          have := hB.size
          omega)
        have hK1 := (hK.below (below_alloc1 wr (Obj.cells #[.int .u8 (r : Int)] 5))).grown hg1 (by
          have := hK.lt
          simp [Value.ownBlock]; omega)
        have hs1 : Hid (R + 1 ≤ w1.heap.size) := hK1.lt
        go_wp2
        refine ⟨⟨qz, x :: sz, rfl, hob1, hK1, hB1, hs1, ?_, ?_, ?_, hqb⟩, ?_⟩
        · have := HL.out; rw [List.length_cons, this, ← HQZ.out]; exact hF
        · have := HL.out; simp; omega
        · have := HL.out; rw [List.length_cons, this, ← HQZ.out]; exact hzb2
        · have := hqlt.out
          simp [intOf]; omega
end Go.Proofs.YtmeedckkpafhpaaDoor
