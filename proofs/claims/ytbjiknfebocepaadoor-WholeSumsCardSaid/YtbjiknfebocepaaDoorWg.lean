/-
  The contracts of the project's whole: one's complement, bits.
-/
import Derived.Test.YtbjiknfebocepaaDoorWf
import Derived.Test.YtbjiknfebocepaaDoorShelf
import Derived.Deep.QuietTactic
namespace Go.Proofs.YtbjiknfebocepaaDoor
open Go.RowKit Go.Joins
set_option linter.unusedVariables false
set_option linter.unusedSimpArgs false
set_option maxRecDepth 4000

set_option maxHeartbeats 1600000 in
theorem whOpposite (x : Nm) (u : Value) (w : World) (hx : NumV w x u) (hn : x.size.length ≤ 800000) :
    Calls Tryd.prog 37 #[u] w fun e w' => ∃ (s : Nm) (u' : Value), e = .returned u' ∧ NumV w' s u' ∧ s.ok ∧ s.z = -1 - x.z ∧ s.size.length ≤ x.size.length + 9 ∧ Below w.heap.size w w' := by
  obtain ⟨A, c, rfl, hb, hc⟩ := hx
  obtain ⟨xb, a⟩ := x
  simp only at hb hc hn ⊢
  generalize hma : a.length = na at *
  have HA := Lib.hid hma; clear hma
  have hX : NumV w ⟨xb, a⟩ (.agg #[.bool xb, .slice A na c]) := NumV.mk' xb hb hc
  have hT := Two.start w 30 (.bool xb) (.slice A na c) (.bool false) (.slice none 0 0)
  go_enter Tryd.func37, Tryd.ntmps37
  go_wp2_with fail
  generalize ((w.alloc (Obj.cells #[Value.bool xb, Value.slice A na c] 30)).alloc (Obj.cells #[Value.bool false, Value.slice none 0 0] 30)) = W0 at *
  generalize hR : w.heap.size = R at *
  have HR := Lib.hid hR; clear hR
  refine (whNeg ⟨xb, a⟩ _ W0 (hX.frame hT.2.2.1) (by have := HA.out; show a.length ≤ _; omega)).mono ?_
  rintro e w1 ⟨s1, v1, rfl, hv1, hok1, hz1, hl1, hb1⟩
  have HZ1 := Lib.hid hz1; clear hz1
  have hT1 := hT.frame hb1
  go_wp2_with fail
  refine (whOf (-1) w1 (by omega) (by omega)).mono ?_
  rintro e w2 ⟨s2, v2, rfl, hv2, hok2, hz2, hl2, hb2⟩
  have HZ2 := Lib.hid hz2; clear hz2
  have hT2 := hT1.frame hb2
  have hln : s1.size.length ≤ na := by have := HA.out; have h2 : s1.size.length ≤ a.length := hl1; omega
  go_wp2_with fail
  refine (whAdd s1 s2 v1 v2 w2 (hv1.frame hb2) hv2 (by omega) (by omega)).mono ?_
  rintro e w3 ⟨s3, v3, rfl, ⟨A3, c3, rfl, hs3, hc3⟩, hok3, hz3, hl3, hb3⟩
  have HZ3 := Lib.hid hz3; clear hz3
  have hT3 := hT2.frame hb3
  have r0 := hT3.2.1.cell 0
  have r1 := hT3.2.1.cell 1
  have g0 := hT3.2.1.free 0
  have g1 := hT3.2.1.free 1
  simp at r0 r1
  go_wp2
  refine bodyPost_ret (v := .agg #[.bool s3.below, .slice A3 s3.size.length c3]) (by simp [results, Tryd.results37, go_sem, r0, r1]) rfl ?_
  have hlt := hT3.2.1.lt
  have hwR := hT3.2.2.2
  refine ⟨s3, _, rfl, NumV.mk' _ (hs3.set2 hT3.2.1 _ _) hc3, hok3, ?_, by omega, below_set2 hT3.2.2.1 (by omega) (by omega) _ _⟩
  rw [HZ3.out, HZ1.out, HZ2.out]; omega

theorem bitLen_le8' (y : UInt8) : Lib.bitLen y.toNat ≤ 8 := by
  have h : ∀ n : Fin 256, Lib.bitLen n.val ≤ 8 := by decide +kernel
  exact h ⟨y.toNat, UInt8.toNat_lt y⟩
/-- How many bits a size without leading zeros has. -/
def bitsL : List UInt8 → Nat
  | [] => 0
  | y :: r => 8 * r.length + Lib.bitLen y.toNat

set_option maxHeartbeats 1600000 in
theorem whBits (x : Nm) (u : Value) (w : World) (hx : NumV w x u) (hn : x.size.length ≤ 900000) :
    Calls Tryd.prog 31 #[u] w fun e w' => e = .returned (.int .i64 (bitsL (dz x.size) : Int)) ∧ Below w.heap.size w w' := by
  obtain ⟨A, c, rfl, hb, hc⟩ := hx
  obtain ⟨xb, a⟩ := x
  simp only at hb hc hn ⊢
  generalize hma : a.length = na at *
  have HA := Lib.hid hma; clear hma
  have hX : NumV w ⟨xb, a⟩ (.agg #[.bool xb, .slice A na c]) := NumV.mk' xb hb hc
  have hT := One.start w 30 (.bool xb) (.slice A na c)
  go_enter Tryd.func31, Tryd.ntmps31
  go_wp2_with fail
  generalize (w.alloc (Obj.cells #[Value.bool xb, Value.slice A na c] 30)) = W0 at *
  generalize hR : w.heap.size = R at *
  have HR := Lib.hid hR; clear hR
  refine (whPlain ⟨xb, a⟩ _ W0 (hX.frame hT.2.1) (by have := HA.out; simp; omega)).mono ?_
  rintro e w1 ⟨v1, rfl, ⟨A1, c1, rfl, hs1, hc1⟩, hb1⟩
  obtain ⟨x0, hx0⟩ : ∃ x0, Nm.mk0 ⟨xb, a⟩ = x0 := ⟨_, rfl⟩
  have hok1 : x0.ok := by rw [← hx0]; exact Nm.mk0_ok _
  have hz1 : Hid (x0.z = Nm.z ⟨xb, a⟩) := by rw [← hx0]; exact Nm.mk0_z _
  have hl1 : x0.size.length ≤ na := by rw [← hx0, ← HA.out]; exact Nm.mk0_len _
  rw [hx0] at hs1 hc1 ⊢
  have hT1 := hT.frame hb1
  have hd0 : Hid (dz a = x0.size) := by rw [← hx0]; rfl
  clear hx0 hb1 hT hX hb hc
  have hs2 := hs1.set2 hT1.1 (.bool x0.below) (.slice A1 x0.size.length c1)
  have hT2 := hT1.put (a0 := .bool x0.below) (a1 := .slice A1 x0.size.length c1) rfl
  have c0 := hT1.1.cell 0
  have c1' := hT1.1.cell 1
  have f0 := hT1.1.free 0
  have f1 := hT1.1.free 1
  simp at c0 c1'
  obtain ⟨p, l⟩ := x0
  simp only at *
  cases l with
  | nil =>
    go_wp2
    go_ret
    exact ⟨ret_int (by rw [hd0.out]; rfl), hT2.2.1⟩
  | cons y r =>
    generalize hm : (y :: r).length = m at *
    have HM : Hid (m = r.length + 1) := by unfold Hid; rw [← hm]; rfl
    clear hm
    obtain ⟨b, o, rfl, hcell⟩ := hs2.at_ (k := 0) (by have := HM.out; omega)
    have hnx : nth (y :: r) 0 = (y.toNat : Int) := rfl
    rw [hnx, Nat.add_zero] at hcell
    clear hnx
    have hy := UInt8.toNat_lt y
    have e0 : ((m : Int) == 0) = false := by have := HM.out; simp; omega
    have e1 : (0 : Int) < m := by have := HM.out; omega
    have hlb : Lib.bitLen y.toNat ≤ 8 := bitLen_le8' y
    generalize hB : ((w1.setCell ⟨R, 0, none⟩ (.bool p)).setCell ⟨R, 1, none⟩ (.slice (some ⟨b, o, none⟩) m c1)) = W2 at *
    have d0 := hT2.1.cell 0
    have d1 := hT2.1.cell 1
    simp at d0 d1
    have L8 : Hid (∀ W, Calls Tryd.prog 47 #[.int .u8 (y.toNat : Int)] W fun e w' => e = .returned (.int .i64 (Lib.bitLen y.toNat : Int)) ∧ w' = W) := fun W => Tryd.bits_Len8 (y.toNat : Int) W (by omega) (by omega)
    have hna := hl1
    have hm0 : 0 < m := by have := HM.out; omega
    have hm1 : 1 ≤ m := hm0
    have sw1 : IntKind.i64.wrap ((m : Int) - 1) = (m : Int) - 1 := IntWalk.i64_in _ (by omega)
    have sw2 : IntKind.i64.wrap (8 * ((m : Int) - 1)) = 8 * ((m : Int) - 1) := IntWalk.i64_in _ (by omega)
    have sw3 : IntKind.i64.wrap (8 * ((m : Int) - 1) + (Lib.bitLen y.toNat : Int)) = 8 * ((m : Int) - 1) + (Lib.bitLen y.toNat : Int) := IntWalk.i64_in _ (by omega)
    generalize hbl : Lib.bitLen y.toNat = q at *
    go_wp2
    go_quiet ((go_at_call 47; exact Calls.quiet_of_same (L8.out _)))
    go_wp2
    go_ret
    refine ⟨ret_int ?_, ?_⟩
    case refine_2 => exact below_drewN hT2.2.1 _
    rw [hd0.out]
    simp only [bitsL, hbl]
    have := HM.out
    omega

theorem xorFF (y : UInt8) : bits BinOp.xor IntKind.u8 (if IntKind.u8.signed = true then -1 else IntKind.u8.max) (y.toNat : Int) = (((255 - y : UInt8).toNat : Nat) : Int) := by
  have h : ∀ n : Fin 256, bits BinOp.xor IntKind.u8 (if IntKind.u8.signed = true then -1 else IntKind.u8.max) (n.val : Int) = (((255 - UInt8.ofNat n.val : UInt8).toNat : Nat) : Int) := by decide +kernel
  have := h ⟨y.toNat, UInt8.toNat_lt y⟩
  simpa using this
theorem flip_step {l : List UInt8} {k : Nat} {y : UInt8} (h : l[k]? = some y) :
    (((l.take k).map (fun x => 255 - x) ++ l.drop k).map byteV).set k (byteV (255 - y)) = ((l.take (k + 1)).map (fun x => 255 - x) ++ l.drop (k + 1)).map byteV := by
  obtain ⟨hk, rfl⟩ := List.getElem?_eq_some_iff.1 h
  rw [← List.map_set, List.set_append_right _ _ (by simp; omega)]
  congr 1
  rw [List.length_map, List.length_take, Nat.min_eq_left (Nat.le_of_lt hk), Nat.sub_self, List.drop_eq_getElem_cons hk, List.set_cons_zero, List.take_succ_eq_append_getElem hk, List.map_append, List.append_assoc]
  rfl

set_option maxHeartbeats 1600000 in
theorem whFlip (g n c : Nat) (l : List UInt8) (w : World) (h : Blk w g 5 (l.map byteV)) (hl : l.length = n) (hn : n ≤ 1000000) :
    Calls Tryd.prog 38 #[.slice (some ⟨g, 0, none⟩) n c] w fun e w' => e = .returned (.tuple #[]) ∧ Blk w' g 5 ((l.map fun x => 255 - x).map byteV) ∧ Only g w w' := by
  have HL := Lib.hid hl; clear hl
  go_enter Tryd.func38, Tryd.ntmps38
  go_wp2
  go_loopw [5] (fun i wr => ∃ k : Nat, k ≤ n ∧ i = .int .i64 (k : Int) ∧ Blk wr g 5 (((l.take k).map (fun x => 255 - x) ++ l.drop k).map byteV) ∧ Only g w wr) (fun i _ => n - (intOf i).toNat)
  case atStart => exact ⟨0, by omega, rfl, by simpa using h, Only.refl _ _⟩
  case round =>
    obtain ⟨k, hk, rfl, r0, hO⟩ := hrel
    by_cases hlt : k < n
    · have e2 : (k : Int) < n := by omega
      have hl2 := HL.out
      obtain ⟨y, hy⟩ : ∃ y, l[k]? = some y := ⟨l[k]'(by omega), List.getElem?_eq_getElem (by omega)⟩
      have c0 := r0.cell k
      have hget : ((l.take k).map (fun x => 255 - x) ++ l.drop k)[k]? = some y := by
        rw [List.getElem?_append_right (by simp; omega)]
        have e3 : k - ((l.take k).map (fun x => 255 - x)).length = 0 := by simp; omega
        rw [e3, List.getElem?_drop]; simpa using hy
      rw [List.getElem?_map, hget] at c0
      simp only [Option.map_some, byteV] at c0
      have f0 := r0.free k
      have hxor := xorFF y
      go_wp2
      refine ⟨⟨k + 1, by omega, by go_num, ?_, ?_⟩, by simp [intOf]; omega⟩
      · have := r0.set k (byteV (255 - y))
        rw [flip_step hy] at this
        simp only [byteV] at this ⊢
        first
          | exact this
          | (rw [hxor]; exact this)
      · exact hO.setCell rfl _
    · have hkn : k = n := by omega
      subst hkn
      have e2 : ¬ (k : Int) < k := by omega
      have hl2 := HL.out
      rw [List.take_of_length_le (by omega), List.drop_eq_nil_of_le (by omega), List.append_nil] at r0
      go_wp2
      go_end0
      rw [List.map_map] at r0
      exact ⟨rfl, r0, hO⟩

end Go.Proofs.YtbjiknfebocepaaDoor
