/-
  The contracts of layer 3's reference: an int as a number.
-/
import Derived.Test.YtbjiknfebocepaaDoorR3
namespace Go.Proofs.YtbjiknfebocepaaDoor
open Go.RowKit Go.Joins
set_option linter.unusedVariables false
set_option linter.unusedSimpArgs false
set_option maxRecDepth 4000

theorem Ob.one (w : World) (base : Nat) (e : TypeId) (x : UInt8) (z : Int) (hb : base ≤ w.heap.size) (hz : z = (x.toNat : Int)) : Ob (w.alloc (.cells #[.int .u8 z] e)) base e (.slice (some ⟨w.heap.size, 0, none⟩) 1 1) [x] := by
  subst hz
  exact ⟨by simp, .inr ⟨w.heap.size, 1, #[byteV x], rfl, hb, heap_alloc_new w _, Nat.le_refl _, by unfold maxLen; omega, by simp, by simp⟩⟩

set_option maxHeartbeats 1600000 in
theorem ref3Of0 (S : Nat) (w : World) (h2 : S ≤ 9223372036854775807) :
    Calls Tryd.prog 24 #[.int .i64 (S : Int)] w fun e w' => ∃ (s : Nm) (u' : Value), e = .returned u' ∧ NumV w' s u' ∧ s.z = (S : Int) ∧ s.below = false ∧ s.size.length ≤ 8 ∧ Below w.heap.size w w' := by
  obtain ⟨i0, hi, hz0, hz1, hz2⟩ := info_parts u8_info
  have hneg : decide ((S : Int) < 0) = false := by simp
  have hT := One.start w 24 (.bool false) (.slice none 0 0)
  go_enter Tryd.func24, Tryd.ntmps24
  go_wp2
  generalize (w.alloc (Obj.cells #[Value.bool false, Value.slice none 0 0] 24)) = W0 at *
  generalize hR : w.heap.size = R at *
  have HR := Lib.hid hR; clear hR
  have hB0 := hT.2.1
  have hK0 := hT.1
  have hs0 : Hid (R + 1 ≤ W0.heap.size) := hK0.lt
  clear hT
  go_loopw [0, 3] (fun kv v wr => ∃ (z : Nat) (sz : List UInt8), kv = .int .i64 (z : Int) ∧ Ob wr (R + 1) 5 v sz ∧ Blk wr R 24 [.bool false, .slice none 0 0] ∧ Below w.heap.size w wr ∧ Hid (R + 1 ≤ wr.heap.size) ∧ Hid (S = z * 256 ^ sz.length + val sz) ∧ sz.length ≤ 8 ∧ Hid (z < 256 ^ (8 - sz.length)) ∧ z ≤ 9223372036854775807) (fun kv _ _ => (intOf kv).toNat)
  case atStart => exact ⟨S, [], rfl, Ob.nil _ _ _, hK0, hB0, hs0, by simp [Hid, val], by simp, by simp [Hid]; omega, h2⟩
  case round =>
    obtain ⟨z, sz, rfl, hob, hK, hB, hs, hv, hl8, hzb, hz63⟩ := hrel
    clear hB0 hK0 hs0
    by_cases hz0' : z = 0
    · subst hz0'
      have hF : Hid (Nm.z ⟨false, sz⟩ = (S : Int)) := by
        have := hv.out
        unfold Hid Nm.z; simp only [Bool.false_eq_true, if_false]; rw [this]; simp
      obtain ⟨A1, c1, rfl, hc1, hbs⟩ := hob.slice
      have r0 := hK.cell 0
      have r1 := hK.cell 1
      have g0 := hK.free 0
      have g1 := hK.free 1
      simp at r0 r1
      have hlt := hK.lt
      generalize hL : sz.length = L at *
      have HL := Lib.hid hL; clear hL
      go_wp2
      refine bodyPost_ret (v := .agg #[.bool false, .slice A1 L c1]) (by simp [results, Tryd.results24, go_sem, r0, r1]) rfl ?_
      refine ⟨⟨false, sz⟩, _, rfl, NumV.mk' _ (hbs.set2 hK _ _) hc1, hF.out, rfl, by simp only [HL.out]; exact hl8, ?_⟩
      exact below_set2 hB (by rw [HR.out]; omega) (by rw [HR.out]; omega) _ _
    · have e1 : ((z : Int) != 0) = true := by simp; omega
      have hlt8 : sz.length < 8 := by
        have := hzb.out
        by_cases h8 : sz.length = 8
        · rw [h8] at this; simp at this; omega
        · omega
      obtain ⟨x, hx⟩ : ∃ x : UInt8, (z : Int) % 256 = (x.toNat : Int) := ⟨UInt8.ofNat (z % 256), by rw [UInt8.toNat_ofNat']; omega⟩
      have hxb := UInt8.toNat_lt x
      have hF : Hid (S = (z / 256) * 256 ^ (sz.length + 1) + val (x :: sz)) := by
        unfold Hid
        rw [val_cons, hv.out]
        have h3 : z = z / 256 * 256 + x.toNat := by omega
        have h4 : z * 256 ^ sz.length = z / 256 * 256 ^ (sz.length + 1) + x.toNat * 256 ^ sz.length := by
          conv => lhs; rw [h3]
          rw [Nat.add_mul, Nat.pow_succ, Nat.mul_assoc, Nat.mul_comm 256]
        omega
      have hzb2 : Hid (z / 256 < 256 ^ (8 - (sz.length + 1))) := by
        have := hzb.out
        unfold Hid
        rw [show 8 - sz.length = (8 - (sz.length + 1)) + 1 by omega, Nat.pow_succ] at this
        omega
      have HX := Lib.hid hx
      have hm0 : 0 ≤ (z : Int) % 256 ∧ (z : Int) % 256 < 256 := by omega
      clear hx hv hzb
      obtain ⟨A1, c1, rfl, hc1, hbs⟩ := hob.slice
      have ho1 := Ob.one wr (R + 1) 5 x ((z : Int) % 256) hs.out HX.out
      have hbs1 := hbs.below (below_alloc1 wr (Obj.cells #[.int .u8 ((z : Int) % 256)] 5))
      generalize hL : sz.length = L at *
      have HL := Lib.hid hL; clear hL
      go_wp2_with (at_builtin; refine wpList_appendB rfl _ _ 22 rfl (R + 1) 5 i0 (.int .u8 0) Tryd.underlying22 hi hz0 hz1 hz2 rfl _ [x] rfl ho1 _ _ _ sz rfl hbs1 (by simp; omega) (by have := hs.out; simp; omega) ?_)
      intro v1 w1 hob1 hg1 _ _
      have hB1 : Below w.heap.size w w1 := (hB.alloc hB.size _).grown hg1 (by have := hB.size; simp; omega) (by
        intro k hk
        simp [Value.ownBlock] at hk
        have := hB.size
        omega)
      have hK1 := (hK.below (below_alloc1 wr (Obj.cells #[.int .u8 ((z : Int) % 256)] 5))).grown hg1 (by
        have := hK.lt
        simp [Value.ownBlock]; omega)
      have hs1 : Hid (R + 1 ≤ w1.heap.size) := hK1.lt
      have hq : (z : Int) / 256 = ((z / 256 : Nat) : Int) := by omega
      have HQ := Lib.hid hq
      clear hq
      go_wp2
      refine ⟨⟨z / 256, x :: sz, by rw [HQ.out], hob1, hK1, hB1, hs1, ?_, ?_, ?_, by omega⟩, ?_⟩
      · have := HL.out; rw [List.length_cons, this]; exact hF
      · have := HL.out; simp; omega
      · have := HL.out; rw [List.length_cons, this]; exact hzb2
      · rw [HQ.out]; simp [intOf]; omega
end Go.Proofs.YtbjiknfebocepaaDoor
