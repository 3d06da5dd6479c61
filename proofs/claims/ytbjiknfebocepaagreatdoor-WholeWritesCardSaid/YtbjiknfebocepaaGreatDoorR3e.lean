/-
  The contracts of layer 3's reference: a number as an int.
-/
import Derived.Test.YtbjiknfebocepaaGreatDoorR3b
import Derived.Test.YtbjiknfebocepaaGreatDoorWj
namespace Go.Proofs.YtbjiknfebocepaaGreatDoor
open Go.RowKit Go.Joins
set_option linter.unusedVariables false
set_option linter.unusedSimpArgs false
set_option maxRecDepth 4000

/-- What the reference's Int hands back. -/
def IntR (z : Int) (w : World) (e : Ending) (w' : World) : Prop :=
  (-9223372036854775808 ≤ z ∧ z ≤ 9223372036854775807 → e = .returned (.tuple #[.int .i64 z, .bool true])) ∧
  (¬ (-9223372036854775808 ≤ z ∧ z ≤ 9223372036854775807) → e = .returned (.tuple #[.int .i64 0, .bool false])) ∧ Below w.heap.size w w'
theorem val_take_le (l : List UInt8) (i : Nat) : val (l.take i) ≤ val l := by
  conv => rhs; rw [← List.take_append_drop i l, val_append]
  have : 1 ≤ 256 ^ (l.drop i).length := Nat.pos_of_ne_zero (by simp)
  have := Nat.mul_le_mul_left (val (l.take i)) this
  omega
theorem quo256 (d : Nat) (h : d < 256) : ((-9223372036854775808 + (d : Int)).tdiv 256) = if d = 0 then -36028797018963968 else -36028797018963967 := by
  have h2 : ∀ n : Fin 256, ((-9223372036854775808 + (n.val : Int)).tdiv 256) = if n.val = 0 then -36028797018963968 else -36028797018963967 := by decide +kernel
  exact h2 ⟨d, h⟩

set_option maxHeartbeats 3200000 in
theorem ref3Int (x : Nm) (u : Value) (w : World) (hx : NumV w x u) (hn : x.size.length ≤ 900000) :
    Calls Tryz.prog 14 #[u] w (IntR x.z w) := by
  obtain ⟨A, c, rfl, hb, hc⟩ := hx
  obtain ⟨xb, a⟩ := x
  simp only at hb hc hn ⊢
  generalize hma : a.length = na at *
  have HA := Lib.hid hma; clear hma
  have hX : NumV w ⟨xb, a⟩ (.agg #[.bool xb, .slice A na c]) := NumV.mk' xb hb hc
  have hT := One.start w 30 (.bool xb) (.slice A na c)
  go_enter Tryz.func14, Tryz.ntmps14
  go_wp2_with fail
  generalize (w.alloc (Obj.cells #[Value.bool xb, Value.slice A na c] 30)) = W0 at *
  generalize hR : w.heap.size = R at *
  have HR := Lib.hid hR; clear hR
  refine (ref3Made ⟨xb, a⟩ _ W0 (hX.frame hT.2.1) (by have := HA.out; show a.length ≤ _; omega)).mono ?_
  rintro e w1 ⟨v1, rfl, ⟨A1, c1, rfl, hs1, hc1⟩, hb1⟩
  obtain ⟨x0, hx0⟩ : ∃ x0, Nm.mk0 ⟨xb, a⟩ = x0 := ⟨_, rfl⟩
  have hok1 : x0.ok := by rw [← hx0]; exact Nm.mk0_ok _
  have HZ : Hid (Nm.z ⟨xb, a⟩ = x0.z) := by rw [← hx0]; exact (Nm.mk0_z _).symm
  have hl1 : x0.size.length ≤ na := by rw [← hx0, ← HA.out]; exact Nm.mk0_len _
  rw [hx0] at hs1 hc1 ⊢
  have hT1 := hT.frame hb1
  clear hx0 hb1 hT hX hb hc
  have hs2 := hs1.set2 hT1.1 (.bool x0.below) (.slice A1 x0.size.length c1)
  have hT2 := hT1.put (a0 := .bool x0.below) (a1 := .slice A1 x0.size.length c1) rfl
  have c0 := hT1.1.cell 0
  have c1' := hT1.1.cell 1
  have f0 := hT1.1.free 0
  have f1 := hT1.1.free 1
  simp at c0 c1'
  go_upto_region 2 with (fail)
  generalize ((w1.setCell ⟨R, 0, none⟩ (.bool x0.below)).setCell ⟨R, 1, none⟩ (.slice A1 x0.size.length c1)) = W2 at *
  clear c0 c1' f0 f1 hT1 hs1
  have d0 := hT2.1.cell 0
  have d1 := hT2.1.cell 1
  simp at d0 d1
  have hB2 := hT2.2.1
  obtain ⟨p, l⟩ := x0
  simp only at *
  generalize hnn : l.length = n at *
  have HN := Lib.hid hnn; clear hnn
  have hzz : Hid (Nm.z ⟨xb, a⟩ = if p then -(val l : Int) else (val l : Int)) := HZ
  by_cases h8 : 8 < n
  · have q1 : (8 : Int) < n := by omega
    have hbig := val_big hok1.1 (by show 8 < l.length; rw [HN.out]; exact h8)
    have HBig : Hid (18446744073709551616 ≤ val l) := hbig
    clear hbig
    go_wp2
    go_ret2
    refine ⟨fun h => ?_, fun _ => rfl, hB2⟩
    rw [hzz.out] at h
    have := HBig.out
    cases p <;> simp at h <;> omega
  · have q1 : ¬ (8 : Int) < n := by omega
    have q2 : (n : Int) ≤ 8 := by omega
    have hn8 : n ≤ 8 := by omega
    go_wp2
    go_loopw [4, 5] (fun sv iv wr => ∃ i : Nat, i ≤ n ∧ sv = .int .i64 (-((val (l.take i) : Nat) : Int)) ∧ iv = .int .i64 (i : Int) ∧ wr = W2 ∧ val (l.take i) ≤ 9223372036854775808) (fun _ iv _ => n - (intOf iv).toNat)
    case atStart => exact ⟨0, by omega, by simp [val], rfl, rfl, by simp [val]⟩
    case round =>
      obtain ⟨i, hi, rfl, rfl, rfl, hle⟩ := hrel
      by_cases hlt : i < n
      · have e2 : (i : Int) < n := by omega
        obtain ⟨y, hy⟩ : ∃ y, l[i]? = some y := ⟨l[i]'(by rw [HN.out]; exact hlt), List.getElem?_eq_getElem _⟩
        obtain ⟨b, o, rfl, hcell⟩ := hs2.at_ (k := i) hlt
        have hny : nth l i = (y.toNat : Int) := by simp [nth, List.getD, hy]
        rw [hny] at hcell
        have HV := Lib.hid (val_take_succ hy)
        have HL := Lib.hid (val_take_le l (i + 1))
        have hyb : y.toNat < 256 := UInt8.toNat_lt y
        have hsum : wrap64 (-9223372036854775808 + (y.toNat : Int)) = -9223372036854775808 + (y.toNat : Int) := by unfold wrap64; omega
        generalize hVV : val (l.take i) = V at *
        clear hny hVV
        obtain ⟨q, hquo, hq2, hq3, hq4⟩ : ∃ q : Int, (-9223372036854775808 + (y.toNat : Int)).tdiv 256 = q ∧ Hid (-(V : Int) < q ↔ 9223372036854775808 < V * 256 + y.toNat) ∧ -36028797018963968 ≤ q ∧ q ≤ 0 := by
          refine ⟨_, quo256 y.toNat hyb, ?_, ?_, ?_⟩
          · unfold Hid; split <;> omega
          · split <;> omega
          · split <;> omega
        by_cases hov : V * 256 + y.toNat ≤ 9223372036854775808
        · have t1 : ¬ (-(V : Int) < q) := fun h => by have := hq2.out.1 h; omega
          clear hq2
          go_wp2
          refine ⟨⟨i + 1, by omega, ?_, by go_num, by first | rfl | trivial, by rw [HV.out]; omega⟩, by simp [intOf]; omega⟩
          rw [HV.out]
          congr 1
          omega
        · have t1 : -(V : Int) < q := hq2.out.2 (by omega)
          clear hq2
          go_wp2
          go_ret2
          refine ⟨fun h => ?_, fun _ => rfl, hB2⟩
          rw [hzz.out] at h
          have h1 := HL.out
          have h2 := HV.out
          cases p <;> simp at h <;> omega
      · have hin : i = n := by omega
        subst hin
        have e2 : ¬ (i : Int) < i := by omega
        have hV : val (l.take i) = val l := by rw [List.take_of_length_le (by rw [HN.out]; exact Nat.le_refl _)]
        rw [hV] at hle ⊢
        generalize hVV : val l = V at *
        clear hV hVV
        cases p with
        | true =>
          go_wp2
          go_ret2
          refine ⟨fun h => by rw [hzz.out]; rfl, fun h => absurd (show -9223372036854775808 ≤ Nm.z ⟨xb, a⟩ ∧ Nm.z ⟨xb, a⟩ ≤ 9223372036854775807 by rw [hzz.out]; simp; omega) h, hB2⟩
        | false =>
          by_cases hm : V = 9223372036854775808
          · subst hm
            go_wp2
            go_ret2
            refine ⟨fun h => ?_, fun _ => rfl, hB2⟩
            rw [hzz.out] at h
            simp at h
          · have m1 : (-(V : Int) == -9223372036854775808) = false := by simp; omega
            go_wp2
            go_ret2
            refine ⟨fun h => ?_, fun h => absurd (show -9223372036854775808 ≤ Nm.z ⟨xb, a⟩ ∧ Nm.z ⟨xb, a⟩ ≤ 9223372036854775807 by rw [hzz.out]; simp; omega) h, hB2⟩
            rw [hzz.out]
            rfl
end Go.Proofs.YtbjiknfebocepaaGreatDoor
