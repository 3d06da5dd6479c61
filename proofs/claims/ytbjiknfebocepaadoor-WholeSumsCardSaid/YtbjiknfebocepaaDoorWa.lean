/-
  The contracts of the project's whole: leading zeros, a number as it must be.
-/
import Derived.Test.YtbjiknfebocepaaDoorCur
import Derived.Test.YtbjiknfebocepaaDoorMem
import Derived.OneCell
import Derived.WalkMore
import Derived.Lib.SmallJoins
namespace Go.Proofs.YtbjiknfebocepaaDoor
open Go.RowKit Go.Joins
set_option linter.unusedVariables false
set_option linter.unusedSimpArgs false
set_option maxRecDepth 4000

set_option maxHeartbeats 1600000 in
theorem whTrim (A : Option Addr) (n c : Nat) (l : List UInt8) (w : World) (h : Bs w A n l) (hc : n ≤ c) (hn : n ≤ 1099511627776) :
    Calls Tryd.prog 41 #[.slice A n c] w fun e w' => ∃ A' c', e = .returned (.slice A' (dz l).length c') ∧ Bs w A' (dz l).length (dz l) ∧ (dz l).length ≤ c' ∧ Qt w w' := by
  go_enter Tryd.func41, Tryd.ntmps41
  go_wp2
  go_loopw [0] (fun v wr => ∃ A' m c' r, v = .slice A' m c' ∧ Bs w A' m r ∧ m ≤ c' ∧ m ≤ n ∧ Hid (dz l = dz r) ∧ Qt w wr) (fun v _ => lenV v)
  case atStart => exact ⟨A, n, c, l, rfl, h, hc, Nat.le_refl _, rfl, Qt.refl _⟩
  case round =>
    obtain ⟨A', m, c', r, rfl, hr, hmc, hmn, hdz, q, rfl⟩ := hrel
    cases r with
    | nil =>
      have hm : m = 0 := hr.len.symm
      subst hm
      go_wp2
      go_ret
      refine ⟨A', c', ?_, ?_, ?_, Qt.of _ _⟩ <;> rw [hdz.out] <;> simp [dz]
      exact Bs.nil _ _
    | cons x r =>
      have hm : Hid (m = r.length + 1) := hr.len.symm
      obtain ⟨b, o, rfl, hcell⟩ := hr.at_ (k := 0) (by have := hm.out; omega)
      have e1 : (0 : Int) < m := by have := hm.out; omega
      have hnx : nth (x :: r) 0 = (x.toNat : Int) := rfl
      rw [hnx, Nat.add_zero] at hcell
      clear hnx
      by_cases hx : x.toNat = 0
      · have hcut := hr.cut (i := 1) (j := m) (by have := hm.out; omega) (Nat.le_refl _)
        have hF : Hid (dz l = dz r) := by unfold Hid; rw [hdz.out, dz_zero hx]
        rw [hx] at hcell
        have hcr : List.take (m - 1) (List.drop 1 (x :: r)) = r := by rw [List.drop_succ_cons, List.drop_zero, List.take_of_length_le (by have := hm.out; omega)]
        rw [hcr] at hcut
        clear hcr hx
        have HC := Lib.hid hcut
        clear hcut
        go_wp2
        refine ⟨⟨_, _, _, r, rfl, ?_, by omega, by omega, hF, Qt.of _ _⟩, by simp [lenV]; omega⟩
        have h1 := HC.out
        split
        · have h2 : m - 1 = 0 := by omega
          have h3 : r = [] := List.eq_nil_of_length_eq_zero (by have := h1.len; omega)
          rw [h2, h3]; exact Bs.nil _ _
        · simpa [Addr.add_none] using h1
      · have hF : Hid (dz l = x :: r) := by unfold Hid; rw [hdz.out, dz_nz hx]
        have e2 : ((x.toNat : Int) == 0) = false := by simp; omega
        clear hx
        go_wp2
        go_ret
        refine ⟨some ⟨b, o, none⟩, c', ?_, ?_, ?_, Qt.of _ _⟩ <;> rw [hF.out]
        · rw [hr.len]; rfl
        · rw [hr.len]; exact hr
        · rw [hr.len]; exact hmc

abbrev nmB (b : Bool) (A : Option Addr) (n c : Nat) : Obj := Obj.cells #[Value.bool b, Value.slice A n c] 30

set_option maxHeartbeats 800000 in
theorem whPlain (x : Nm) (v : Value) (w : World) (h : NumV w x v) (hn : x.size.length ≤ 1000000) :
    Calls Tryd.prog 36 #[v] w (NumOut w x.mk0) := by
  obtain ⟨A, c, rfl, hb, hc⟩ := h
  obtain ⟨bl, l⟩ := x
  simp only at hb hc hn ⊢
  generalize hm : l.length = m at *
  have HM := Lib.hid hm; clear hm
  have k0 := (Blk.new2 w (.bool bl) (.slice A m c) 30).below (below_alloc1 _ (nmB false none 0 0))
  have k1 := Blk.new2 (w.alloc (nmB bl A m c)) (.bool false) (.slice none 0 0) 30
  have hB0 := below_alloc2 w (nmB bl A m c) (nmB false none 0 0)
  rw [show (w.alloc (nmB bl A m c)).heap.size = w.heap.size + 1 by simp] at k1
  have hsz : Hid (((w.alloc (nmB bl A m c)).alloc (nmB false none 0 0)).heap.size = w.heap.size + 2) := by simp [Hid]
  go_enter Tryd.func36, Tryd.ntmps36
  go_wp2_with fail
  refine (whTrim A m c l _ (hb.below hB0) hc (by omega)).mono ?_
  rintro e w1 ⟨A', c', rfl, hb', hc', hq⟩
  have hBq := hq.below (B := ((w.alloc (nmB bl A m c)).alloc (nmB false none 0 0)).heap.size)
  have hs1 : Hid (w.heap.size + 2 ≤ w1.heap.size) := by have := hBq.size; have := hsz.out; unfold Hid; omega
  have hB1 := hB0.trans (hBq.mono hB0.size)
  have hbw := hb'.below hBq
  have j0 := k0.below hBq
  have j1 := k1.below hBq
  clear hBq hb' k0 k1 hB0 hsz hq
  have c0 := j0.cell 0
  have c1 := j0.cell 1
  have r0 := j1.cell 0
  have r1 := j1.cell 1
  have f0 := j1.free 0
  have f1 := j1.free 1
  simp at c0 c1 r0 r1
  generalize hdl : dz l = d at *
  have HD := Lib.hid hdl; clear hdl
  generalize hdn : d.length = dn at *
  have HN := Lib.hid hdn; clear hdn
  have fin : ∀ b : Bool, b = (bl && !d.isEmpty) → NumOut w (Nm.mk0 ⟨bl, l⟩) (.returned (.agg #[.bool b, .slice A' dn c'])) ((w1.setCell ⟨w.heap.size + 1, 0, none⟩ (.bool b)).setCell ⟨w.heap.size + 1, 1, none⟩ (.slice A' dn c')) := by
    intro b hbe
    refine ⟨_, rfl, ?_, below_set2 hB1 (by have := hs1.out; omega) (by omega) _ _⟩
    have : Nm.mk0 ⟨bl, l⟩ = ⟨b, d⟩ := by simp only [Nm.mk0, HD.out, hbe]
    rw [this]
    refine NumV.mk' b ?_ hc'
    refine (hbw.only (((Only.refl (w.heap.size + 1) w1).setCell rfl _).setCell rfl _) ?_)
    intro o x hx
    rw [j1.cell o] at hx
    rcases o with _ | _ | o <;> simp at hx
  have FIN := Lib.hid fin; clear fin
  cases bl
  · go_wp2
    refine bodyPost_ret (v := .agg #[.bool false, .slice A' dn c']) (by simp [results, Tryd.results36, go_sem, r0, r1]) rfl ?_
    exact FIN.out _ (by simp)
  · go_wp2
    refine bodyPost_ret (v := .agg #[.bool (decide (0 < dn)), .slice A' dn c']) (by simp [results, Tryd.results36, go_sem, r0, r1]) rfl ?_
    refine FIN.out _ ?_
    have := HN.out
    cases d <;> simp at this ⊢ <;> omega

end Go.Proofs.YtbjiknfebocepaaDoor
