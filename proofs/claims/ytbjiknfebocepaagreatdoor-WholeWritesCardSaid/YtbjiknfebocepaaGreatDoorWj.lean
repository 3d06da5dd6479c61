/-
  The contracts of the project's whole: Int.
-/
import Derived.Test.YtbjiknfebocepaaGreatDoorWf
namespace Go.Proofs.YtbjiknfebocepaaGreatDoor
open Go.RowKit Go.Joins
set_option linter.unusedVariables false
set_option linter.unusedSimpArgs false
set_option maxRecDepth 4000

/-- What Int hands back. -/
def IntP (z : Int) (w : World) (e : Ending) (w' : World) : Prop :=
  (-9223372036854775808 ≤ z ∧ z ≤ 9223372036854775807 → e = .returned (.tuple #[.int .i64 z, .int .i64 0])) ∧
  (¬ (-9223372036854775808 ≤ z ∧ z ≤ 9223372036854775807) → e = .returned (.tuple #[.int .i64 0, .int .i64 2])) ∧ Below w.heap.size w w'
theorem val_take_succ {l : List UInt8} {i : Nat} {y : UInt8} (h : l[i]? = some y) : val (l.take (i + 1)) = 256 * val (l.take i) + y.toNat := by
  obtain ⟨hk, rfl⟩ := List.getElem?_eq_some_iff.1 h
  rw [List.take_succ_eq_append_getElem hk, val_snoc]
theorem val_take_lt (l : List UInt8) (i : Nat) (h : i ≤ 8) : val (l.take i) < 18446744073709551616 := by
  have := val_lt (l.take i)
  have h2 : 256 ^ (l.take i).length ≤ 256 ^ 8 := Nat.pow_le_pow_right (by omega) (by simp; omega)
  have h3 : (256 : Nat) ^ 8 = 18446744073709551616 := by decide
  omega
theorem val_big {l : List UInt8} (h : Nz l) (hl : 8 < l.length) : 18446744073709551616 ≤ val l := by
  have := h.ge (fun e => by subst e; simp at hl)
  have h2 : 256 ^ 8 ≤ 256 ^ (l.length - 1) := Nat.pow_le_pow_right (by omega) (by omega)
  have h3 : (256 : Nat) ^ 8 = 18446744073709551616 := by decide
  omega

set_option maxHeartbeats 3200000 in
theorem whInt (x : Nm) (u : Value) (w : World) (hx : NumV w x u) (hn : x.size.length ≤ 900000) :
    Calls Tryz.prog 35 #[u] w (IntP x.z w) := by
  obtain ⟨A, c, rfl, hb, hc⟩ := hx
  obtain ⟨xb, a⟩ := x
  simp only at hb hc hn ⊢
  generalize hma : a.length = na at *
  have HA := Lib.hid hma; clear hma
  have hX : NumV w ⟨xb, a⟩ (.agg #[.bool xb, .slice A na c]) := NumV.mk' xb hb hc
  have hT := One.start w 26 (.bool xb) (.slice A na c)
  go_enter Tryz.func35, Tryz.ntmps35
  go_wp2_with fail
  generalize (w.alloc (Obj.cells #[Value.bool xb, Value.slice A na c] 26)) = W0 at *
  generalize hR : w.heap.size = R at *
  have HR := Lib.hid hR; clear hR
  refine (whPlain ⟨xb, a⟩ _ W0 (hX.frame hT.2.1) (by have := HA.out; show a.length ≤ _; omega)).mono ?_
  rintro e w1 ⟨v1, rfl, ⟨A1, c1, rfl, hs1, hc1⟩, hb1⟩
  obtain ⟨x0, hx0⟩ : ∃ x0, Nm.mk0 ⟨xb, a⟩ = x0 := ⟨_, rfl⟩
  have hok1 : x0.ok := by rw [← hx0]; exact Nm.mk0_ok _
  have HZ : Hid (Nm.z ⟨xb, a⟩ = x0.z) := by rw [← hx0]; exact (Nm.mk0_z _).symm
  have hl1 : x0.size.length ≤ na := by rw [← hx0, ← HA.out]; exact Nm.mk0_len _
  rw [hx0] at hs1 hc1 ⊢
  have hT1 := hT.frame hb1
  clear hx0 hb1 hT hX hb hc
  have hs2 := hs1.set2 hT1.1 (.bool x0.below) (.slice A1 x0.size.length c1)
  have hT2 := hT1.put (a0 := .bool x0.below) (a1 := .slice A1 x0.size.length c1) rfl
  have c0 := hT1.1.cell 0
  have c1' := hT1.1.cell 1
  have f0 := hT1.1.free 0
  have f1 := hT1.1.free 1
  simp at c0 c1'
  go_upto_region 2 with (fail)
  generalize ((w1.setCell ⟨R, 0, none⟩ (.bool x0.below)).setCell ⟨R, 1, none⟩ (.slice A1 x0.size.length c1)) = W2 at *
  clear c0 c1' f0 f1 hT1 hs1
  have d0 := hT2.1.cell 0
  have d1 := hT2.1.cell 1
  simp at d0 d1
  have hB2 := hT2.2.1
  obtain ⟨p, l⟩ := x0
  simp only at *
  generalize hnn : l.length = n at *
  have HN := Lib.hid hnn; clear hnn
  have hzz : Hid (Nm.z ⟨xb, a⟩ = if p then -(val l : Int) else (val l : Int)) := HZ
  by_cases h8 : 8 < n
  · have q1 : (8 : Int) < n := by omega
    have hbig := val_big hok1.1 (by show 8 < l.length; rw [HN.out]; exact h8)
    have HBig : Hid (18446744073709551616 ≤ val l) := hbig
    clear hbig
    go_wp2
    go_ret2
    refine ⟨fun h => ?_, fun _ => rfl, hB2⟩
    rw [hzz.out] at h
    have := HBig.out
    cases p <;> simp at h <;> omega
  · have q1 : ¬ (8 : Int) < n := by omega
    have q2 : (n : Int) ≤ 8 := by omega
    have hn8 : n ≤ 8 := by omega
    go_wp2
    go_loopw [4, 17] (fun sv iv wr => ∃ i : Nat, i ≤ n ∧ sv = .int .u64 ((val (l.take i) : Nat) : Int) ∧ iv = .int .i64 (i : Int) ∧ wr = W2) (fun _ iv _ => n - (intOf iv).toNat)
    case atStart => exact ⟨0, by omega, by simp [val], rfl, rfl⟩
    case round =>
      obtain ⟨i, hi, rfl, rfl, rfl⟩ := hrel
      by_cases hlt : i < n
      · have e2 : (i : Int) < n := by omega
        obtain ⟨y, hy⟩ : ∃ y, l[i]? = some y := ⟨l[i]'(by rw [HN.out]; exact hlt), List.getElem?_eq_getElem _⟩
        obtain ⟨b, o, rfl, hcell⟩ := hs2.at_ (k := i) hlt
        have hny : nth l i = (y.toNat : Int) := by simp [nth, List.getD, hy]
        rw [hny] at hcell
        have hb1 := val_take_lt l (i + 1) (by omega)
        have HV := Lib.hid (val_take_succ hy)
        rw [HV.out] at hb1
        have hyb := UInt8.toNat_lt y
        generalize hVV : val (l.take i) = V at *
        clear hny hVV
        go_wp2
        refine ⟨⟨i + 1, by omega, ?_, by go_num, by first | rfl | trivial⟩, by simp [intOf]; omega⟩
        rw [HV.out]
        go_num
      · have hin : i = n := by omega
        subst hin
        have e2 : ¬ (i : Int) < i := by omega
        have hV : val (l.take i) = val l := by rw [List.take_of_length_le (by rw [HN.out]; exact Nat.le_refl _)]
        rw [hV]
        have hb1 := val_take_lt l i (by omega)
        rw [hV] at hb1
        have hpz : Hid (p = true → 0 < val l) := by
          intro hp
          have := (Nm.neg_iff hok1).1 hp
          simp [Nm.z, hp] at this
          omega
        generalize hVV : val l = V at *
        clear hV hVV
        cases p with
        | false =>
          by_cases hm : V ≤ 9223372036854775807
          · have m1 : ¬ (9223372036854775807 : Int) < V := by omega
            have m2 : (V : Int) ≤ 9223372036854775807 := by omega
            go_wp2
            go_ret2
            refine ⟨fun h => ?_, fun h => absurd (show -9223372036854775808 ≤ Nm.z ⟨xb, a⟩ ∧ Nm.z ⟨xb, a⟩ ≤ 9223372036854775807 by rw [hzz.out]; simp; omega) h, hB2⟩
            rw [hzz.out]
            rfl
          · have m1 : (9223372036854775807 : Int) < V := by omega
            go_wp2
            go_ret2
            refine ⟨fun h => ?_, fun _ => rfl, hB2⟩
            rw [hzz.out] at h
            simp at h; omega
        | true =>
          have hp := hpz.out rfl
          by_cases hm : V ≤ 9223372036854775808
          · have m1 : ¬ (9223372036854775808 : Int) < V := by omega
            have m2 : (V : Int) ≤ 9223372036854775808 := by omega
            have uw := (wrapU V hp hm).1
            have iw : wrap64 (18446744073709551616 - (V : Int)) = -(V : Int) := by unfold wrap64; omega
            go_wp2
            go_ret2
            refine ⟨fun h => ?_, fun h => absurd (show -9223372036854775808 ≤ Nm.z ⟨xb, a⟩ ∧ Nm.z ⟨xb, a⟩ ≤ 9223372036854775807 by rw [hzz.out]; simp; omega) h, hB2⟩
            rw [hzz.out]
            rfl
          · have m1 : (9223372036854775808 : Int) < V := by omega
            go_wp2
            go_ret2
            refine ⟨fun h => ?_, fun _ => rfl, hB2⟩
            rw [hzz.out] at h
            simp at h; omega
end Go.Proofs.YtbjiknfebocepaaGreatDoor
