/-
  The contracts of the project's whole: order of sizes, digits at places, the closure that keeps the carry, sums of sizes.
-/
import Derived.Test.YtbjiknfebocepaaDoorWa
namespace Go.Proofs.YtbjiknfebocepaaDoor
open Go.RowKit Go.Joins
set_option linter.unusedVariables false
set_option linter.unusedSimpArgs false
set_option maxRecDepth 4000

theorem whRight (x : Nm) (v : Value) (w : World) (h : NumV w x v) :
    Calls Tryd.prog 16 #[v] w fun e w' => e = .returned (.bool x.okb) ∧ Below w.heap.size w w' := by
  obtain ⟨A, c, rfl, hb, hc⟩ := h
  obtain ⟨bl, l⟩ := x
  cases l with
  | nil =>
    go_enter Tryd.func16, Tryd.ntmps16
    go_wp2
    go_ret
    exact ⟨rfl, below_alloc1 _ _⟩
  | cons y r =>
    obtain ⟨b, o, rfl, hcell⟩ := hb.at_ (k := 0) (by simp)
    have hnx : nth (y :: r) 0 = (y.toNat : Int) := rfl
    rw [hnx, Nat.add_zero] at hcell
    clear hnx
    have hm0 : 0 < (y :: r).length := by simp
    simp only at hb hc ⊢
    generalize (y :: r).length = m at *
    have e1 : ((m : Int) == 0) = false := by simp; omega
    have e2 : (0 : Int) < (m : Int) := by omega
    have hcl : (w.alloc (nmB bl (some ⟨b, o, none⟩) m c)).cell? ⟨b, o, none⟩ = some (.int .u8 (y.toNat : Int)) := ((below_alloc1 w _).cell (World.block_lt_of_cell? w _ hcell)).trans hcell
    go_enter Tryd.func16, Tryd.ntmps16
    go_wp2
    go_ret
    refine ⟨?_, below_alloc1 _ _⟩
    have : ((y.toNat : Int) != 0) = (y.toNat != 0) := by rw [Bool.eq_iff_iff]; simp
    show _ = Ending.returned (.bool (y.toNat != 0))
    rw [← this]; rfl

theorem cmpCompare (a b : Int) (w : World) :
    Calls Tryd.prog 52 #[.int .i64 a, .int .i64 b] w fun e w' => e = .returned (.int .i64 (sg a b)) ∧ w = w' := by
  by_cases h1 : a < b
  · go_enter Tryd.func52, Tryd.ntmps52
    go_wp2
    go_ret
    exact ⟨ret_int (by unfold sg; rw [if_pos h1]), rfl⟩
  · by_cases h2 : b < a
    · go_enter Tryd.func52, Tryd.ntmps52
      go_wp2
      go_ret
      exact ⟨ret_int (by unfold sg; rw [if_neg (by omega), if_pos h2]), rfl⟩
    · go_enter Tryd.func52, Tryd.ntmps52
      go_wp2
      go_ret
      exact ⟨ret_int (by unfold sg; rw [if_neg (by omega), if_neg (by omega)]), rfl⟩

theorem whCompareSizes (A B : Option Addr) (n m c d : Nat) (a b : List UInt8) (w : World) (ha : Bs w A n a) (hb : Bs w B m b) (hza : Nz a) (hzb : Nz b) :
    Calls Tryd.prog 44 #[.slice A n c, .slice B m d] w fun e w' => e = .returned (.int .i64 (sg (val a) (val b))) ∧ w = w' := by
  have hs := Lib.hid (cmp_sizes hza hzb)
  have h1 := ha.len
  have h2 := hb.len
  subst h1 h2
  by_cases h1 : a.length < b.length
  · have e1 : Hid (sg (a.length : Int) (b.length : Int) = -1) := by unfold sg Hid; rw [if_pos (by omega)]
    have e2 : Hid (sg (val a) (val b) = -1) := by have := hs.out; rw [if_pos h1] at this; exact this.symm
    rw [e2.out]
    go_enter Tryd.func44, Tryd.ntmps44
    go_wp2_with fail
    refine (cmpCompare _ _ _).mono ?_
    rintro e w' ⟨rfl, rfl⟩
    rw [e1.out]
    go_wp2
    go_ret
    exact ⟨rfl, rfl⟩
  · by_cases h2 : b.length < a.length
    · have e1 : Hid (sg (a.length : Int) (b.length : Int) = 1) := by unfold sg Hid; rw [if_neg (by omega), if_pos (by omega)]
      have e2 : Hid (sg (val a) (val b) = 1) := by have := hs.out; rw [if_neg h1, if_pos h2] at this; exact this.symm
      rw [e2.out]
      go_enter Tryd.func44, Tryd.ntmps44
      go_wp2_with fail
      refine (cmpCompare _ _ _).mono ?_
      rintro e w' ⟨rfl, rfl⟩
      rw [e1.out]
      go_wp2
      go_ret
      exact ⟨rfl, rfl⟩
    · have e1 : Hid (sg (a.length : Int) (b.length : Int) = 0) := by unfold sg Hid; rw [if_neg (by omega), if_neg (by omega)]
      have e2 : Hid (sg (val a) (val b) = Lib.compareBytes a b) := by have := hs.out; rw [if_neg h1, if_neg h2] at this; exact this.symm
      rw [e2.out]
      go_enter Tryd.func44, Tryd.ntmps44
      go_wp2_with fail
      refine (cmpCompare _ _ _).mono ?_
      rintro e w' ⟨rfl, rfl⟩
      rw [e1.out]
      go_wp2_with fail
      refine (octCompare _ _ _ _ _ _ _ _ _ ha hb).mono ?_
      rintro e w' ⟨rfl, rfl⟩
      go_wp2
      go_ret
      exact ⟨rfl, rfl⟩

theorem whPlace (A : Option Addr) (n c i : Nat) (x : Int) (l : List UInt8) (w : World) (h : Bs w A n l) (hx : x = (i : Int)) (hn : n ≤ 1099511627776) :
    Calls Tryd.prog 55 #[.slice A n c, .int .i64 x] w fun e w' => e = .returned (.int .i64 (pl l i)) ∧ w = w' := by
  have hl := h.len
  subst hx
  unfold pl
  rw [hl]
  by_cases hi : n ≤ i
  · rw [if_pos hi]
    go_enter Tryd.func55, Tryd.ntmps55
    go_wp2
    go_ret
    exact ⟨rfl, rfl⟩
  · rw [if_neg hi]
    obtain ⟨b, o, rfl, hc⟩ := h.at_ (k := n - 1 - i) (by omega)
    have e1 : (n : Int) - 1 - i = ((n - 1 - i : Nat) : Int) := by omega
    have hb := nth_bound l (n - 1 - i)
    have e3 : Hid (n - 1 - i < n) := by unfold Hid; omega
    generalize n - 1 - i = k at *
    have e2 := e3.out
    have hl' := Lib.hid hl; clear hl
    go_enter Tryd.func55, Tryd.ntmps55
    go_wp2
    go_ret
    exact ⟨rfl, rfl⟩

/-- The variable that keeps the carry. -/
abbrev Rest (w : World) (g : Nat) (z : Int) : Prop := Blk w g 3 [.int .i64 z]
abbrev carryV (g : Nat) : Value := .func (.func 66) #[] #[.pointer (some ⟨g, 0, none⟩)]

theorem whCarry (z : Int) (w : World) :
    Calls Tryd.prog 54 #[.int .i64 z] w fun e w' => e = .returned (carryV w.heap.size) ∧ w' = w.alloc (.cells #[.int .i64 z] 3) := by
  go_enter Tryd.func54, Tryd.ntmps54
  go_wp2
  go_ret
  exact ⟨rfl, rfl⟩

theorem whCarry1 (g : Nat) (z x : Int) (w : World) (h : Rest w g z) (h1 : -1000000 ≤ z + x) (h2 : z + x ≤ 1000000) :
    Calls Tryd.prog 66 #[.int .i64 x, .pointer (some ⟨g, 0, none⟩)] w fun e w' =>
      e = .returned (.int .u8 ((z + x) % 256)) ∧ Rest w' g ((z + x) / 256) ∧ Only g w w' := by
  have c0 := h.cell 0
  have f0 := h.free 0
  simp at c0
  go_enter Tryd.func66, Tryd.ntmps66
  go_wp2
  go_ret
  exact ⟨rfl, (h.set 0 _).set 0 _, ((Only.refl g w).setCell rfl _).setCell rfl _⟩

/-- What a function hands back that makes a row of bytes: the block, and the bytes. -/
def NewRow (w : World) (P : List UInt8 → Prop) (e : Ending) (w' : World) : Prop :=
  ∃ g l c, e = .returned (.slice (some ⟨g, 0, none⟩) l.length c) ∧ l.length ≤ c ∧ w.heap.size ≤ g ∧ Blk w' g 5 (l.map byteV) ∧ P l ∧ Below w.heap.size w w'

theorem made_row (w : World) (n : Nat) : Blk (w.alloc (.cells (zeroB n) 5)) w.heap.size 5 ((List.replicate n (0 : UInt8)).map byteV) := by
  rw [zeroB_list]; exact Blk.new w _ _
set_option maxHeartbeats 1600000 in
theorem whSum (A B : Option Addr) (n m c d : Nat) (a b : List UInt8) (t : Int) (w : World) (ha : Bs w A n a) (hb : Bs w B m b) (ht : t = 1 ∨ t = -1) (hn : n ≤ 1000000) (hnm : m ≤ n)
    (hp : 0 ≤ (val a : Int) + t * val b) :
    Calls Tryd.prog 45 #[.slice A n c, .slice B m d, .int .i64 t] w (NewRow w fun l => l.length = n + 1 ∧ (val l : Int) = val a + t * val b) := by
  obtain ⟨i0, hi, hz0, hz1, hz2⟩ := info_parts u8_info
  have hmk := run_makeN (P := Tryd.prog) 22 5 i0 Tryd.underlying22 hi hz0 hz1 hz2 ((n : Int) + 1) (by omega) (by omega)
  have hN : Hid (((n : Int) + 1).toNat = n + 1) := by unfold Hid; omega
  rw [hN.out] at hmk
  have hnm' : ¬ n < m := by omega
  have hB0 := below_alloc2 w (Obj.cells (zeroB (n + 1)) 5) (Obj.cells #[Value.int IntKind.i64 0] 3)
  have k0 := (made_row w (n + 1)).below (below_alloc1 _ (Obj.cells #[Value.int IntKind.i64 0] 3))
  have k1 : Rest _ _ 0 := Blk.new (w.alloc (Obj.cells (zeroB (n + 1)) 5)) [.int .i64 0] 3
  rw [show (w.alloc (Obj.cells (zeroB (n + 1)) 5)).heap.size = w.heap.size + 1 by simp] at k1
  go_enter Tryd.func45, Tryd.ntmps45
  go_wp2_with fail
  refine (whCarry 0 _).mono ?_
  rintro e w1 ⟨rfl, hw1⟩
  rw [show (w.alloc (Obj.cells (zeroB (n + 1)) 5)).heap.size = w.heap.size + 1 by simp]
  have hB1 : Below w.heap.size w w1 := by rw [hw1]; exact hB0
  have j0 : Blk w1 w.heap.size 5 ((List.replicate (n + 1) (0 : UInt8)).map byteV) := by rw [hw1]; exact k0
  have j1 : Rest w1 (w.heap.size + 1) 0 := by rw [hw1]; exact k1
  have hs1 : Hid (w.heap.size + 2 ≤ w1.heap.size) := by unfold Hid; rw [hw1]; simp
  clear hw1 k0 k1 hB0
  go_wp2
  go_loopw [20] (fun i wr => ∃ (k : Nat) (o : List UInt8) (z : Int), k ≤ n + 1 ∧ i = .int .i64 (k : Int) ∧ Hid (o.length = n + 1) ∧ Blk wr w.heap.size 5 (o.map byteV) ∧ Rest wr (w.heap.size + 1) z ∧ -1 ≤ z ∧ z ≤ 1 ∧
     Below w.heap.size w wr ∧ Hid (w.heap.size + 2 ≤ wr.heap.size) ∧ Hid ((val (o.drop (n + 1 - k)) : Int) + z * 256 ^ k = vp a k + t * vp b k)) (fun i _ => n + 1 - (intOf i).toNat)
  case atStart => exact ⟨0, _, 0, by omega, rfl, by simp [Hid], j0, j1, by omega, by omega, hB1, hs1, by simp [Hid, vp, val]⟩
  case round =>
    obtain ⟨k, o, z, hk, rfl, hol, r0, r1, hz1, hz2, hB, hs, hv⟩ := hrel
    by_cases hlt : k < n + 1
    · have pa := pl_bound a k
      have pb := pl_bound b k
      have e1 : (n : Int) - k = ((n - k : Nat) : Int) := by omega
      have e2 : (k : Int) < (n : Int) + 1 := by omega
      have hstep : Hid (∀ x : Int, x = pl a k + t * pl b k → ∀ d : UInt8, (d.toNat : Int) = (z + x) % 256 → (val ((o.set (n - k) d).drop (n + 1 - (k + 1))) : Int) + ((z + x) / 256) * 256 ^ (k + 1) = vp a (k + 1) + t * vp b (k + 1)) := by
        intro x hx d hd
        have hv' := hv.out
        have hl := hol.out
        rw [show n + 1 - (k + 1) = n - k by omega, set_drop (by omega), val_cons, show n - k + 1 = n + 1 - k by omega]
        have hlen : (List.drop (n + 1 - k) o).length = k := by simp; omega
        rw [hlen]
        simp only [vp]
        push_cast
        rw [hd, Int.pow_succ]
        have hP : (256 : Int) ^ k = (256 : Int) ^ k := rfl
        generalize (256 : Int) ^ k = P at *
        have g1 : z + x = 256 * ((z + x) / 256) + (z + x) % 256 := by omega
        generalize (z + x) / 256 = q at *
        generalize (z + x) % 256 = r at *
        have g2 : (z + x) * P = 256 * (q * P) + r * P := by rw [g1, Int.add_mul, Int.mul_assoc]
        rw [Int.add_mul] at g2
        have g3 : q * (P * 256) = 256 * (q * P) := by rw [← Int.mul_assoc, Int.mul_comm]
        have g4 : x * P = pl a k * P + t * (pl b k * P) := by rw [hx, Int.add_mul, Int.mul_assoc]
        rw [Int.mul_add]
        omega
      have ha' := ha.below hB
      have hb' := hb.below hB
      go_wp2_with fail
      refine (whPlace _ _ _ k _ a _ ha' (by go_num) (by omega)).mono ?_
      rintro e w' ⟨rfl, rfl⟩
      go_wp2_with fail
      refine (whPlace _ _ _ k _ b _ hb' (by go_num) (by omega)).mono ?_
      rintro e w' ⟨rfl, rfl⟩
      have hol' := hol.out
      rcases ht with rfl | rfl
      · go_wp2_with fail
        refine (whCarry1 (w.heap.size + 1) z _ _ r1 (by omega) (by omega)).mono ?_
        rintro e w2 ⟨rfl, q1, hO⟩
        have q0 := r0.only hO (by omega)
        have c0 := q0.cell (n - k)
        rw [List.getElem?_map, List.getElem?_eq_getElem (by omega)] at c0
        simp only [Option.map_some, byteV] at c0
        have f0 := q0.free (n - k)
        have hB2 := Only.below hO hB (by omega) (by have := hs.out; omega)
        have hs2 : Hid (w.heap.size + 2 ≤ w2.heap.size) := by have := hs.out; have := hO.size; unfold Hid; omega
        have hidx : n - k < n + 1 := by omega
        go_wp2
        go_roundw
        case rel => 
          refine ⟨k + 1, o.set (n - k) (UInt8.ofNat ((z + (pl a k + pl b k)) % 256).toNat), (z + (pl a k + pl b k)) / 256, by omega, by go_num, by simp [Hid, hol'], ?_, q1.setOther (by omega) _ _, by omega, by omega, Only.below ((Only.refl w.heap.size w2).setCell rfl _) hB2 (by omega) (by have := hs2.out; omega), by have := hs2.out; simpa [Hid, World.setCell] using this, hstep.out _ (by omega) _ ?_⟩
          · rw [List.map_set, ← u8_byteV _ (by omega) (by omega)]
            exact q0.set _ _
          · rw [UInt8.toNat_ofNat']; omega
        case measure => simp [intOf]; omega
      · go_wp2_with fail
        refine (whCarry1 (w.heap.size + 1) z _ _ r1 (by omega) (by omega)).mono ?_
        rintro e w2 ⟨rfl, q1, hO⟩
        have q0 := r0.only hO (by omega)
        have c0 := q0.cell (n - k)
        rw [List.getElem?_map, List.getElem?_eq_getElem (by omega)] at c0
        simp only [Option.map_some, byteV] at c0
        have f0 := q0.free (n - k)
        have hB2 := Only.below hO hB (by omega) (by have := hs.out; omega)
        have hs2 : Hid (w.heap.size + 2 ≤ w2.heap.size) := by have := hs.out; have := hO.size; unfold Hid; omega
        have hidx : n - k < n + 1 := by omega
        go_wp2
        go_roundw
        case rel => 
          refine ⟨k + 1, o.set (n - k) (UInt8.ofNat ((z + (pl a k + -pl b k)) % 256).toNat), (z + (pl a k + -pl b k)) / 256, by omega, by go_num, by simp [Hid, hol'], ?_, q1.setOther (by omega) _ _, by omega, by omega, Only.below ((Only.refl w.heap.size w2).setCell rfl _) hB2 (by omega) (by have := hs2.out; omega), by have := hs2.out; simpa [Hid, World.setCell] using this, hstep.out _ (by omega) _ ?_⟩
          · rw [List.map_set, ← u8_byteV _ (by omega) (by omega)]
            exact q0.set _ _
          · rw [UInt8.toNat_ofNat']; omega
        case measure => simp [intOf]; omega
    · have hkn : k = n + 1 := by omega
      have hv' := hv.out
      have hl := hol.out
      have hF : Hid ((val o : Int) = val a + t * val b) := by
        rw [hkn, vp_all (by rw [ha.len]; omega), vp_all (by rw [hb.len]; omega), show n + 1 - (n + 1) = 0 by omega, List.drop_zero] at hv'
        have h1 := val_lt o
        have h2 := val_lt a
        have h3 := val_lt b
        rw [hl] at h1
        have h4 : (256 : Nat) ^ b.length ≤ 256 ^ n := Nat.pow_le_pow_right (by omega) (by rw [hb.len]; exact hnm)
        rw [ha.len] at h2
        have h5 : (256 : Nat) ^ (n + 1) = 256 ^ n * 256 := Nat.pow_succ _ _
        have h6 : ((256 : Int) ^ (n + 1)) = ((256 ^ (n + 1) : Nat) : Int) := by push_cast; rfl
        rw [h6, h5] at hv'
        have h7 : 0 < 256 ^ n := Nat.pow_pos (by omega)
        generalize 256 ^ n = P at *
        have hz3 : z = -1 ∨ z = 0 ∨ z = 1 := by omega
        unfold Hid
        rcases ht with rfl | rfl <;> rcases hz3 with rfl | rfl | rfl <;> push_cast at hv' <;> omega
      go_wp2
      go_ret
      refine ⟨w.heap.size, o, n + 1, ?_, by omega, Nat.le_refl _, r0, ⟨hl, hF.out⟩, hB⟩
      rw [hl]; rfl

end Go.Proofs.YtbjiknfebocepaaDoor
