/-
  The contracts of the project's whole: an int as a number.
-/
import Derived.Test.YtbjiknfebocepaaDoorWd
namespace Go.Proofs.YtbjiknfebocepaaDoor
open Go.RowKit Go.Joins
set_option linter.unusedVariables false
set_option linter.unusedSimpArgs false
set_option maxRecDepth 4000

theorem wrapU (S : Nat) (h0 : 0 < S) (h : S ≤ 9223372036854775808) : IntKind.u64.wrap (-(S : Int)) = 18446744073709551616 - S ∧ IntKind.u64.wrap (-(18446744073709551616 - (S : Int))) = S := by
  constructor <;> simp [IntKind.wrap, IntKind.bits, IntKind.signed] <;> omega

set_option maxHeartbeats 1600000 in
theorem whOf0 (S : Nat) (w : World) (h2 : S ≤ 9223372036854775807) :
    Calls Tryd.prog 21 #[.int .i64 (S : Int)] w fun e w' => ∃ (s : Nm) (u' : Value), e = .returned u' ∧ NumV w' s u' ∧ s.ok ∧ s.z = (S : Int) ∧ s.size.length ≤ 8 ∧ Below w.heap.size w w' := by
  obtain ⟨i0, hi, hz0, hz1, hz2⟩ := info_parts u8_info
  have hmk := run_makeN (P := Tryd.prog) 22 5 i0 Tryd.underlying22 hi hz0 hz1 hz2 8 (by omega) (by omega)
  have hneg : decide ((S : Int) < 0) = false := by simp
  have hB0 := below_alloc2 w (nmB false none 0 0) (Obj.cells (zeroB 8) 5)
  have k1 := made_row (w.alloc (nmB false none 0 0)) 8
  have k0 := (Blk.new2 w (.bool false) (.slice none 0 0) 30).below (below_alloc1 _ (Obj.cells (zeroB 8) 5))
  rw [show (w.alloc (nmB false none 0 0)).heap.size = w.heap.size + 1 by simp] at k1
  have hsz : Hid (w.heap.size + 2 ≤ ((w.alloc (nmB false none 0 0)).alloc (Obj.cells (zeroB 8) 5)).heap.size) := by simp [Hid]
  go_enter Tryd.func21, Tryd.ntmps21
  go_wp2
  generalize ((w.alloc (Obj.cells #[Value.bool false, Value.slice none 0 0] 30)).alloc (Obj.cells (zeroB 8) 5)) = W0 at *
  go_loopw [15] (fun i wr => ∃ (k : Nat) (o : List UInt8), k ≤ 8 ∧ i = .int .i64 (k : Int) ∧ Hid (o.length = 8) ∧ Blk wr (w.heap.size + 1) 5 (o.map byteV) ∧ Blk wr w.heap.size 30 [.bool false, .slice none 0 0] ∧ Below w.heap.size w wr ∧ Hid (w.heap.size + 2 ≤ wr.heap.size) ∧
      Hid (val (o.drop (8 - k)) = S % 256 ^ k)) (fun i _ => 8 - (intOf i).toNat)
  case atStart => exact ⟨0, _, by omega, rfl, by simp [Hid], k1, k0, hB0, hsz, by simp [Hid, val, Nat.mod_one]⟩
  case round =>
    obtain ⟨k, o, hk, rfl, hol, r1, r0, hB, hs, hv⟩ := hrel
    by_cases hlt : k < 8
    · have e1 : (7 : Int) - k = ((7 - k : Nat) : Int) := by omega
      have e2 : (k : Int) < 8 := by omega
      have hol' := hol.out
      have c0 := r1.cell (7 - k)
      rw [List.getElem?_map, List.getElem?_eq_getElem (by omega)] at c0
      simp only [Option.map_some, byteV] at c0
      have f0 := r1.free (7 - k)
      have hidx : 7 - k < 8 := by omega
      have hd := Nat.mod_lt (S / 256 ^ k) (show 256 > 0 by omega)
      have hP : Hid ((2 : Int) ^ (8 * k) = ((256 ^ k : Nat) : Int)) := by
        unfold Hid; rw [Int.pow_mul]; push_cast; rfl
      have hdig : Hid (Value.int .u8 ((S : Int) / 2 ^ (8 * k) % 256) = byteV (UInt8.ofNat (S / 256 ^ k % 256))) := by
        unfold Hid; rw [hP.out, u8_byteV _ (by omega) (by omega)]
        congr 2
      have hF : Hid (val ((o.set (7 - k) (UInt8.ofNat (S / 256 ^ k % 256))).drop (8 - (k + 1))) = S % 256 ^ (k + 1)) := by
        unfold Hid
        rw [show 8 - (k + 1) = 7 - k by omega, set_drop (by omega), val_cons, show 7 - k + 1 = 8 - k by omega, hv.out, mod_step, UInt8.toNat_ofNat']
        have : (List.drop (8 - k) o).length = k := by simp; omega
        rw [this, Nat.mod_eq_of_lt (show S / 256 ^ k % 256 < 2 ^ 8 by omega)]
      clear hP hd
      go_wp2
      rw [hdig.out]
      refine ⟨⟨k + 1, o.set (7 - k) (UInt8.ofNat (S / 256 ^ k % 256)), by omega, by go_num, by simp [Hid, hol'], ?_, r0.setOther (by omega) _ _, ?_, ?_, hF⟩, by simp [intOf]; omega⟩
      · rw [List.map_set]; exact r1.set _ _
      · exact Only.below ((Only.refl (w.heap.size + 1) wr).setCell rfl _) hB (by omega) (by have := hs.out; omega)
      · have := hs.out; simpa [Hid, World.setCell] using this
    · have hk8 : k = 8 := by omega
      subst hk8
      have hl := hol.out
      have hvo : Hid (val o = S) := by
        have := hv.out
        rw [show 8 - 8 = 0 by omega, List.drop_zero] at this
        unfold Hid; rw [this]; exact Nat.mod_eq_of_lt (by omega)
      have hbs := r1.bs
      rw [hl] at hbs
      go_wp2_with fail
      refine (whTrim _ 8 8 o _ hbs (by omega) (by omega)).mono ?_
      rintro e w2 ⟨A', c', rfl, hb', hc', hq⟩
      have hBq := hq.below (B := wr.heap.size)
      have q0 := r0.below hBq
      have hb2 := hb'.below hBq
      have hB2 := hB.trans (below_le hBq hB.size)
      have hs2 : Hid (w.heap.size + 2 ≤ w2.heap.size) := by have := hs.out; have := hBq.size; unfold Hid; omega
      have c0 := q0.cell 0
      have c1 := q0.cell 1
      have f0 := q0.free 0
      have f1 := q0.free 1
      simp at c0 c1
      have hdl := dz_len o
      obtain ⟨d, hd⟩ : ∃ d, dz o = d := ⟨_, rfl⟩
      have hnz : Nz d := hd ▸ Nz.dz o
      have hvd : Hid (val d = S) := by unfold Hid; rw [← hd, val_dz]; exact hvo.out
      rw [hd, hl] at hdl
      rw [hd] at hb2 hc' ⊢
      clear hq hBq hb' hd r0 r1 hbs
      generalize hdn : d.length = dn at *
      have HN := Lib.hid hdn; clear hdn
      go_wp2
      refine bodyPost_ret (v := .agg #[.bool false, .slice A' dn c']) (by simp [results, Tryd.results21, go_sem, c0, c1]) rfl ?_
      refine ⟨⟨false, d⟩, _, rfl, NumV.mk' _ (hb2.set2 q0 _ _) hc', ⟨hnz, ?_⟩, ?_, by simp only [HN.out]; exact hdl, below_set2 hB2 (by have := hs2.out; omega) (by omega) _ _⟩
      · intro h0
        rfl
      · simp [Nm.z, hvd.out]

set_option maxHeartbeats 1600000 in
theorem whOf1 (S : Nat) (w : World) (h0 : 0 < S) (h2 : S ≤ 9223372036854775808) :
    Calls Tryd.prog 21 #[.int .i64 (-(S : Int))] w fun e w' => ∃ (s : Nm) (u' : Value), e = .returned u' ∧ NumV w' s u' ∧ s.ok ∧ s.z = -(S : Int) ∧ s.size.length ≤ 8 ∧ Below w.heap.size w w' := by
  obtain ⟨i0, hi, hz0, hz1, hz2⟩ := info_parts u8_info
  have hmk := run_makeN (P := Tryd.prog) 22 5 i0 Tryd.underlying22 hi hz0 hz1 hz2 8 (by omega) (by omega)
  have hneg : decide (-(S : Int) < 0) = true := by simp; omega
  have hneg2 : -(S : Int) < 0 := by omega
  obtain ⟨hw1, hw2⟩ := wrapU S h0 h2
  have hB0 := below_alloc2 w (nmB false none 0 0) (Obj.cells (zeroB 8) 5)
  have k1 := made_row (w.alloc (nmB false none 0 0)) 8
  have k0 := (Blk.new2 w (.bool false) (.slice none 0 0) 30).below (below_alloc1 _ (Obj.cells (zeroB 8) 5))
  rw [show (w.alloc (nmB false none 0 0)).heap.size = w.heap.size + 1 by simp] at k1
  have hsz : Hid (w.heap.size + 2 ≤ ((w.alloc (nmB false none 0 0)).alloc (Obj.cells (zeroB 8) 5)).heap.size) := by simp [Hid]
  go_enter Tryd.func21, Tryd.ntmps21
  go_wp2
  generalize ((w.alloc (Obj.cells #[Value.bool false, Value.slice none 0 0] 30)).alloc (Obj.cells (zeroB 8) 5)) = W0 at *
  go_loopw [15] (fun i wr => ∃ (k : Nat) (o : List UInt8), k ≤ 8 ∧ i = .int .i64 (k : Int) ∧ Hid (o.length = 8) ∧ Blk wr (w.heap.size + 1) 5 (o.map byteV) ∧ Blk wr w.heap.size 30 [.bool false, .slice none 0 0] ∧ Below w.heap.size w wr ∧ Hid (w.heap.size + 2 ≤ wr.heap.size) ∧
      Hid (val (o.drop (8 - k)) = S % 256 ^ k)) (fun i _ => 8 - (intOf i).toNat)
  case atStart => exact ⟨0, _, by omega, rfl, by simp [Hid], k1, k0, hB0, hsz, by simp [Hid, val, Nat.mod_one]⟩
  case round =>
    obtain ⟨k, o, hk, rfl, hol, r1, r0, hB, hs, hv⟩ := hrel
    by_cases hlt : k < 8
    · have e1 : (7 : Int) - k = ((7 - k : Nat) : Int) := by omega
      have e2 : (k : Int) < 8 := by omega
      have hol' := hol.out
      have c0 := r1.cell (7 - k)
      rw [List.getElem?_map, List.getElem?_eq_getElem (by omega)] at c0
      simp only [Option.map_some, byteV] at c0
      have f0 := r1.free (7 - k)
      have hidx : 7 - k < 8 := by omega
      have hd := Nat.mod_lt (S / 256 ^ k) (show 256 > 0 by omega)
      have hP : Hid ((2 : Int) ^ (8 * k) = ((256 ^ k : Nat) : Int)) := by
        unfold Hid; rw [Int.pow_mul]; push_cast; rfl
      have hdig : Hid (Value.int .u8 ((S : Int) / 2 ^ (8 * k) % 256) = byteV (UInt8.ofNat (S / 256 ^ k % 256))) := by
        unfold Hid; rw [hP.out, u8_byteV _ (by omega) (by omega)]
        congr 2
      have hF : Hid (val ((o.set (7 - k) (UInt8.ofNat (S / 256 ^ k % 256))).drop (8 - (k + 1))) = S % 256 ^ (k + 1)) := by
        unfold Hid
        rw [show 8 - (k + 1) = 7 - k by omega, set_drop (by omega), val_cons, show 7 - k + 1 = 8 - k by omega, hv.out, mod_step, UInt8.toNat_ofNat']
        have : (List.drop (8 - k) o).length = k := by simp; omega
        rw [this, Nat.mod_eq_of_lt (show S / 256 ^ k % 256 < 2 ^ 8 by omega)]
      clear hP hd
      go_wp2
      rw [hdig.out]
      refine ⟨⟨k + 1, o.set (7 - k) (UInt8.ofNat (S / 256 ^ k % 256)), by omega, by go_num, by simp [Hid, hol'], ?_, r0.setOther (by omega) _ _, ?_, ?_, hF⟩, by simp [intOf]; omega⟩
      · rw [List.map_set]; exact r1.set _ _
      · exact Only.below ((Only.refl (w.heap.size + 1) wr).setCell rfl _) hB (by omega) (by have := hs.out; omega)
      · have := hs.out; simpa [Hid, World.setCell] using this
    · have hk8 : k = 8 := by omega
      subst hk8
      have hl := hol.out
      have hvo : Hid (val o = S) := by
        have := hv.out
        rw [show 8 - 8 = 0 by omega, List.drop_zero] at this
        unfold Hid; rw [this]; exact Nat.mod_eq_of_lt (by omega)
      have hbs := r1.bs
      rw [hl] at hbs
      go_wp2_with fail
      refine (whTrim _ 8 8 o _ hbs (by omega) (by omega)).mono ?_
      rintro e w2 ⟨A', c', rfl, hb', hc', hq⟩
      have hBq := hq.below (B := wr.heap.size)
      have q0 := r0.below hBq
      have hb2 := hb'.below hBq
      have hB2 := hB.trans (below_le hBq hB.size)
      have hs2 : Hid (w.heap.size + 2 ≤ w2.heap.size) := by have := hs.out; have := hBq.size; unfold Hid; omega
      have c0 := q0.cell 0
      have c1 := q0.cell 1
      have f0 := q0.free 0
      have f1 := q0.free 1
      simp at c0 c1
      have hdl := dz_len o
      obtain ⟨d, hd⟩ : ∃ d, dz o = d := ⟨_, rfl⟩
      have hnz : Nz d := hd ▸ Nz.dz o
      have hvd : Hid (val d = S) := by unfold Hid; rw [← hd, val_dz]; exact hvo.out
      rw [hd, hl] at hdl
      rw [hd] at hb2 hc' ⊢
      clear hq hBq hb' hd r0 r1 hbs
      generalize hdn : d.length = dn at *
      have HN := Lib.hid hdn; clear hdn
      go_wp2
      refine bodyPost_ret (v := .agg #[.bool true, .slice A' dn c']) (by simp [results, Tryd.results21, go_sem, c0, c1]) rfl ?_
      refine ⟨⟨true, d⟩, _, rfl, NumV.mk' _ (hb2.set2 q0 _ _) hc', ⟨hnz, ?_⟩, ?_, by simp only [HN.out]; exact hdl, below_set2 hB2 (by have := hs2.out; omega) (by omega) _ _⟩
      · intro h0
        have := hvd.out; simp only at h0; subst h0; simp [val] at this; omega
      · simp [Nm.z, hvd.out]

theorem whOf (k : Int) (w : World) (h1 : -9223372036854775808 ≤ k) (h2 : k ≤ 9223372036854775807) :
    Calls Tryd.prog 21 #[.int .i64 k] w fun e w' => ∃ (s : Nm) (u' : Value), e = .returned u' ∧ NumV w' s u' ∧ s.ok ∧ s.z = k ∧ s.size.length ≤ 8 ∧ Below w.heap.size w w' := by
  by_cases h : k < 0
  · have := whOf1 k.natAbs w (by omega) (by omega)
    rw [show -(k.natAbs : Int) = k by omega] at this
    exact this
  · have := whOf0 k.natAbs w (by omega)
    rw [show (k.natAbs : Int) = k by omega] at this
    exact this

end Go.Proofs.YtbjiknfebocepaaDoor
