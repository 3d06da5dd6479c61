/-
  The contracts of the project's whole: idle, Parse's errors.
-/
import Derived.Test.YtbjiknfebocepaaDoorWg
namespace Go.Proofs.YtbjiknfebocepaaDoor
open Go.RowKit Go.Joins
set_option linter.unusedVariables false
set_option linter.unusedSimpArgs false
set_option maxRecDepth 4000

/-- The first nine bits are equal. -/
def idleL : List UInt8 → Bool
  | x :: y :: _ => (x.toNat == 0 && decide (y.toNat < 128)) || (x.toNat == 255 && decide (128 ≤ y.toNat))
  | _ => false

set_option maxHeartbeats 1600000 in
theorem whIdle2 (A : Option Addr) (c : Nat) (l : List UInt8) (w : World) (h : Bs w A 2 l) (hi : idleL l = true) :
    Calls Tryd.prog 39 #[.slice A 2 c] w fun e w' => e = .returned (.bool true) ∧ Qt w w' := by
  obtain ⟨b, o, rfl, c0⟩ := h.at_ (k := 0) (by omega)
  obtain ⟨b', o', e', c1⟩ := h.at_ (k := 1) (by omega)
  cases e'
  rw [Nat.add_zero] at c0
  have hl := h.len
  match l, hl with
  | [x, y], _ =>
    have n0 : nth [x, y] 0 = (x.toNat : Int) := rfl
    have n1 : nth [x, y] 1 = (y.toNat : Int) := rfl
    rw [n0] at c0
    rw [n1] at c1
    clear n0 n1 h hl
    simp only [idleL, Bool.or_eq_true, Bool.and_eq_true, beq_iff_eq, decide_eq_true_eq] at hi
    rcases hi with ⟨h0, h1⟩ | ⟨h0, h1⟩
    · have q0 : ((x.toNat : Int) == 0) = true := by simp; omega
      have q1 : decide ((y.toNat : Int) < 128) = true := by simp; omega
      have q2 : (y.toNat : Int) < 128 := by omega
      rw [h0] at c0
      go_enter Tryd.func39, Tryd.ntmps39
      go_wp2
      go_ret
      exact ⟨rfl, Qt.refl _⟩
    · have q1 : decide ((128 : Int) ≤ y.toNat) = true := by simp; omega
      have q2 : ¬ (y.toNat : Int) < 128 := by omega
      have q3 : (128 : Int) ≤ y.toNat := by omega
      rw [h0] at c0
      go_enter Tryd.func39, Tryd.ntmps39
      go_wp2
      go_ret
      exact ⟨rfl, Qt.refl _⟩

set_option maxHeartbeats 1600000 in
theorem whParseI (A : Option Addr) (c : Nat) (l : List UInt8) (w : World) (h : Bs w A 2 l) (hi : idleL l = true) :
    Calls Tryd.prog 13 #[.slice A 2 c] w fun e w' => e = .returned (.tuple #[.agg #[.bool false, .slice none 0 0], .int .i64 6]) ∧ Below w.heap.size w w' := by
  have hT := One.start w 30 (.bool false) (.slice none 0 0)
  go_enter Tryd.func13, Tryd.ntmps13
  go_wp2_with fail
  generalize (w.alloc (Obj.cells #[Value.bool false, Value.slice none 0 0] 30)) = W0 at *
  generalize hR : w.heap.size = R at *
  have HR := Lib.hid hR; clear hR
  refine (whIdle2 A c l W0 (h.below hT.2.1) hi).mono ?_
  rintro e w1 ⟨rfl, hq⟩
  have hT1 := hT.frame hq.below
  have r0 := hT1.1.cell 0
  have r1 := hT1.1.cell 1
  have g0 := hT1.1.free 0
  have g1 := hT1.1.free 1
  simp at r0 r1
  go_wp2
  refine bodyPost_ret (v := .tuple #[.agg #[.bool false, .slice none 0 0], .int .i64 6]) (by simp [results, Tryd.results13, go_sem, r0, r1]) rfl ?_
  have hlt := hT1.1.lt
  have hwR := hT1.2.2
  exact ⟨rfl, below_set2 hT1.2.1 (by omega) (by omega) _ _⟩

/-- A number of at most 200 bytes. -/
def Nm.few (x : Nm) : Nm := ⟨x.below, x.size.take 200⟩
theorem Nm.few_len (x : Nm) : x.few.size.length ≤ 200 := by simp [Nm.few]; omega

theorem lwTo (x : Nm) (u : Value) (w : World) (hx : NumV w x u) : Calls Tryd.prog 11 #[u] w (NumOut w x) := by
  obtain ⟨A, c, rfl, hb, hc⟩ := hx
  obtain ⟨xb, a⟩ := x
  simp only at hb hc ⊢
  generalize hma : a.length = na at *
  have HA := Lib.hid hma; clear hma
  have hB := below_alloc2 w (Obj.cells #[.bool xb, .slice A na c] 24) (Obj.cells #[.bool xb, .slice A na c] 30)
  go_enter Tryd.func11, Tryd.ntmps11
  go_wp2
  refine bodyPost_ret (v := .agg #[.bool xb, .slice A na c]) (by simp [results, Tryd.results11, go_sem]) rfl ?_
  exact ⟨_, rfl, NumV.mk' xb (hb.below hB) hc, hB⟩

theorem lwOf (x : Nm) (u : Value) (w : World) (hx : NumV w x u) : Calls Tryd.prog 19 #[u] w (NumOut w x) := by
  obtain ⟨A, c, rfl, hb, hc⟩ := hx
  obtain ⟨xb, a⟩ := x
  simp only at hb hc ⊢
  generalize hma : a.length = na at *
  have HA := Lib.hid hma; clear hma
  have hB := below_alloc2 w (Obj.cells #[.bool xb, .slice A na c] 30) (Obj.cells #[.bool xb, .slice A na c] 24)
  go_enter Tryd.func19, Tryd.ntmps19
  go_wp2
  refine bodyPost_ret (v := .agg #[.bool xb, .slice A na c]) (by simp [results, Tryd.results19, go_sem]) rfl ?_
  exact ⟨_, rfl, NumV.mk' xb (hb.below hB) hc, hB⟩

theorem cutTo (A : Option Addr) (n c k : Nat) (hk : k ≤ n) (hc : n ≤ c) (W : World) : (Instr.slice 22 (.slice A n c) none (some (.int .i64 (k : Int))) none).run Tryd.prog W = .ok (.slice A k c) W := by
  go_simp
  have h1 : k ≤ c := by omega
  cases A <;> simp [sliced, h1] <;> omega

set_option maxHeartbeats 1600000 in
theorem lwFew (x : Nm) (u : Value) (w : World) (hx : NumV w x u) : Calls Tryd.prog 8 #[u] w (NumOut w x.few) := by
  obtain ⟨A, c, rfl, hb, hc⟩ := hx
  obtain ⟨xb, a⟩ := x
  simp only at hb hc ⊢
  have hl2 : (a.take 200).length = min a.length 200 := by simp; omega
  generalize hma : a.length = na at *
  have HA := Lib.hid hma; clear hma
  obtain ⟨k, hk⟩ : ∃ k, min na 200 = k := ⟨_, rfl⟩
  have hkn : k ≤ na := by omega
  have tk : min (na : Int) 200 = (k : Int) := by omega
  have hcut := cutTo A na c k hkn hc
  have hbk := hb.take hkn
  have HT : Hid (a.take k = a.take 200) := by
    unfold Hid
    by_cases h : na ≤ 200
    · rw [List.take_of_length_le (by rw [HA.out]; omega), List.take_of_length_le (by rw [HA.out]; omega)]
    · have : k = 200 := by omega
      rw [this]
  rw [HT.out] at hbk
  clear hk hl2 HT
  go_enter Tryd.func8, Tryd.ntmps8
  have hB := below_alloc2 w (Obj.cells #[.bool xb, .slice A k c] 24) (Obj.cells #[.bool xb, .slice A k c] 24)
  go_wp2
  refine bodyPost_ret (v := .agg #[.bool xb, .slice A k c]) (by simp [results, Tryd.results8, go_sem]) rfl ?_
  exact ⟨_, rfl, NumV.mk' xb (hbk.below hB) (by omega), hB⟩
end Go.Proofs.YtbjiknfebocepaaDoor
