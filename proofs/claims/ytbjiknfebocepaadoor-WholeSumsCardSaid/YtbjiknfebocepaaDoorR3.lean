/-
  The contracts of layer 3's reference: a number as it must be, an int as a number.
-/
import Derived.Test.YtbjiknfebocepaaDoorMem
import Derived.Test.YtbjiknfebocepaaDoorVal
namespace Go.Proofs.YtbjiknfebocepaaDoor
open Go.RowKit Go.Joins
set_option linter.unusedVariables false
set_option linter.unusedSimpArgs false
set_option maxRecDepth 4000

abbrev nrB (b : Bool) (A : Option Addr) (n c : Nat) : Obj := Obj.cells #[Value.bool b, Value.slice A n c] 24
theorem dz_at {l : List UInt8} {k : Nat} (h0 : ∀ j, j < k → nth l j = 0) (h1 : k = l.length ∨ nth l k ≠ 0) (hk : k ≤ l.length) : dz l = l.drop k := by
  rw [dz_drop h0]
  by_cases hl : k = l.length
  · rw [List.drop_eq_nil_of_le (by omega)]; rfl
  · have hn := h1.resolve_left hl
    rw [drop_cons (by omega)]
    exact dz_nz (by unfold nth at hn; omega)
/-- s[k:]. -/
theorem cutR (A : Option Addr) (n c k : Nat) (hk : k ≤ n) (hc : n ≤ c) : ∃ A', (∀ (W : World), (Instr.slice 22 (.slice A n c) (some (.int .i64 (k : Int))) none none).run Tryd.prog W = .ok (.slice A' (n - k) (c - k)) W) ∧
    ∀ (W : World) (l : List UInt8), Bs W A n l → Bs W A' (n - k) (l.drop k) := by
  by_cases h : k = c
  · subst h
    have : n = k := by omega
    subst this
    refine ⟨A, fun W => ?_, fun W l hb => ?_⟩
    · go_simp
      try (cases A <;> simp [sliced])
    · have := hb.len
      rw [List.drop_eq_nil_of_le (by omega), Nat.sub_self]
      exact Bs.nil _ _
  · refine ⟨Option.map (fun x => x.add k) A, fun W => ?_, fun W l hb => ?_⟩
    · go_simp
      have : ¬ c = k := fun e => h e.symm
      cases A <;> simp [sliced, h, this, Nat.sub_eq_zero_iff_le] <;> omega
    · have := hb.cut (i := k) (j := n) hk (Nat.le_refl _)
      rw [List.take_of_length_le (by have := hb.len; simp; omega)] at this
      exact this
/-- A struct's block is no row of bytes. -/
theorem Blk.notRow {w : World} {g B : Nat} {v : Value} {t e : TypeId} {cs : List Value} {l : List UInt8} (h : Blk w g t cs) (ho : Ob w B e v l) (hne : t ≠ e) : some g ≠ v.ownBlock := by
  intro hg
  rcases ho.2 with ⟨rfl, _⟩ | ⟨g', cap, cur, rfl, _, hh, _⟩
  · simp [Value.ownBlock] at hg
  · simp [Value.ownBlock] at hg
    subst hg
    unfold Blk at h
    rw [h] at hh
    simp at hh
    exact hne hh.2
theorem Blk.grown {w w' : World} {g : Nat} {t : TypeId} {cs : List Value} {row : Option Nat} (h : Blk w g t cs) (hg : w.grownBy w' row) (hne : some g ≠ row) : Blk w' g t cs := (hg.block g h.lt hne).trans h

set_option maxHeartbeats 1600000 in
theorem ref3Made (x : Nm) (v : Value) (w : World) (h : NumV w x v) (hn : x.size.length ≤ 1000000) :
    Calls Tryd.prog 26 #[v] w (NumOut w x.mk0) := by
  obtain ⟨i0, hi, hz0, hz1, hz2⟩ := info_parts u8_info
  obtain ⟨A, c, rfl, hb, hc⟩ := h
  obtain ⟨bl, l⟩ := x
  simp only at hb hc hn ⊢
  generalize hm : l.length = m at *
  have HM := Lib.hid hm; clear hm
  have hT := Two.start w 24 (.bool bl) (.slice A m c) (.bool false) (.slice none 0 0)
  go_enter Tryd.func26, Tryd.ntmps26
  go_wp2
  generalize ((w.alloc (Obj.cells #[Value.bool bl, Value.slice A m c] 24)).alloc (Obj.cells #[Value.bool false, Value.slice none 0 0] 24)) = W0 at *
  generalize hR : w.heap.size = R at *
  have HR := Lib.hid hR; clear hR
  have c00 := hT.1.cell 0
  have c01 := hT.1.cell 1
  simp at c00 c01
  have hb0 := hb.below hT.2.2.1
  go_loop [3] (fun i => ∃ k : Nat, k ≤ m ∧ i = .int .i64 (k : Int) ∧ Hid (∀ j, j < k → nth l j = 0)) (fun i => m - (intOf i).toNat)
  case atStart => exact ⟨0, by omega, rfl, (fun j hj => by omega)⟩
  case round =>
    obtain ⟨k, hk, rfl, hall⟩ := hrel
    by_cases hgo : k < m ∧ nth l k = 0
    · obtain ⟨hlt, hz⟩ := hgo
      obtain ⟨b, o, rfl, hcell⟩ := hb0.at_ hlt
      have e1 : (k : Int) < m := by omega
      rw [hz] at hcell
      have HZ := Lib.hid hz; clear hz
      go_wp2
      go_round
      case rel => exact ⟨k + 1, by omega, by go_num, (fun j hj => by
        by_cases hjk : j = k
        · subst hjk; exact HZ.out
        · exact hall.out j (by omega))⟩
      case measure => simp [intOf]; omega
    · have hd : Hid (dz l = l.drop k) := dz_at hall.out (by
        by_cases hkm : k = m
        · left; rw [HM.out]; exact hkm
        · right; intro e; exact hgo ⟨by omega, e⟩) (by rw [HM.out]; exact hk)
      by_cases hlt : k < m
      · obtain ⟨b, o, rfl, hcell⟩ := hb0.at_ hlt
        have e1 : (k : Int) < m := by omega
        have e2 : (nth l k == 0) = false := by rw [Bool.eq_false_iff]; intro e; exact hgo ⟨hlt, eq_of_beq e⟩
        clear hgo
        obtain ⟨A1, hrun, hcutB⟩ := cutR (some ⟨b, o, none⟩) m c k hk hc
        have hbc := hcutB _ _ (hb0.below (below_alloc1 W0 (Obj.cells #[] 5)))
        have ho0 : Ob (W0.alloc (.cells #[] 5)) W0.heap.size 5 (.slice (some ⟨W0.heap.size, 0, none⟩) 0 0) [] := World.ownsRow_made W0 #[] 0 (Nat.le_refl _) (Nat.zero_le _) rfl
        have c01' : (W0.alloc (Obj.cells #[] 5)).cell? ⟨R, 1, none⟩ = some (.slice (some ⟨b, o, none⟩) m c) := by
          have := ((hT.1).below (below_alloc1 W0 (Obj.cells #[] 5))).cell 1
          simpa using this
        rw [← hd.out] at hbc
        have hdl := dz_len l
        go_wp2_with (at_builtin; refine wpList_appendB rfl _ _ 22 rfl W0.heap.size 5 i0 (.int .u8 0) Tryd.underlying22 hi hz0 hz1 hz2 rfl _ [] rfl ho0 _ _ _ (dz l) rfl hbc (by first | omega | (simp; omega)) (by simp) ?_)
        intro v1 w1 hob1 hg1 _ _
        have hB1 : Below W0.heap.size W0 w1 := ho0.grew (below_alloc1 W0 _) (Nat.le_refl _) hg1
        obtain ⟨A2, c2, rfl, hc2, hbs2⟩ := hob1.slice
        have hT1 := hT.frame hB1
        clear ho0 hg1 hbc hcutB c01' hrun
        have hlt1 := hT1.2.1.lt
        have hs1 : W0.heap.size ≤ w1.heap.size := hB1.size
        have kO := Blk.new2 w1 (.bool false) (.slice A2 (dz l).length c2) 24
        have hT2 := hT1.frame (below_alloc1 w1 (Obj.cells #[.bool false, .slice A2 (dz l).length c2] 24))
        have hbs3 := hbs2.below (below_alloc1 w1 (Obj.cells #[.bool false, .slice A2 (dz l).length c2] 24))
        have d0a : ∀ o : Obj, (w1.alloc o).cell? ⟨R, 0, none⟩ = some (.bool bl) := fun o => (hT1.1.below (below_alloc1 w1 o)).cell 0
        have r0a : ∀ o : Obj, (w1.alloc o).cell? ⟨R + 1, 0, none⟩ = some (.bool false) := fun o => (hT1.2.1.below (below_alloc1 w1 o)).cell 0
        have r1a : ∀ o : Obj, (w1.alloc o).cell? ⟨R + 1, 1, none⟩ = some (.slice none 0 0) := fun o => (hT1.2.1.below (below_alloc1 w1 o)).cell 1
        have g0a : ∀ o : Obj, (w1.alloc o).frozen? ⟨R + 1, 0, none⟩ = false := fun o => (hT1.2.1.below (below_alloc1 w1 o)).free 0
        have g1a : ∀ o : Obj, (w1.alloc o).frozen? ⟨R + 1, 1, none⟩ = false := fun o => (hT1.2.1.below (below_alloc1 w1 o)).free 1
        have FIN : Hid (∀ (o : Obj) (q : Bool), q = (bl && decide (0 < (dz l).length)) → NumOut w (Nm.mk0 ⟨bl, l⟩) (.returned (.agg #[.bool q, .slice A2 (dz l).length c2])) (((w1.alloc o).setCell ⟨R + 1, 0, none⟩ (.bool q)).setCell ⟨R + 1, 1, none⟩ (.slice A2 (dz l).length c2))) := by
          intro o q hq
          have hTo := hT1.frame (below_alloc1 w1 o)
          have hRo := hTo.2.1.lt
          have hwR := hTo.2.2.2
          refine ⟨_, rfl, ?_, below_set2 hTo.2.2.1 (by omega) (by omega) _ _⟩
          have e : Nm.mk0 ⟨bl, l⟩ = ⟨q, dz l⟩ := by
            unfold Nm.mk0
            rw [hq]
            simp only
            congr 2
            cases dz l <;> simp
          rw [e]
          exact NumV.mk' q ((hbs2.below (below_alloc1 w1 o)).set2 hTo.2.1 _ _) hc2
        clear hlt1 hs1 kO hT2 hbs3
        generalize hdn : (dz l).length = dn at *
        have HDN := Lib.hid hdn; clear hdn
        cases bl
        · go_wp2
          refine bodyPost_ret (v := .agg #[.bool false, .slice A2 dn c2]) (by simp [results, Tryd.results26, go_sem, r0a, r1a]) rfl ?_
          exact FIN.out _ _ rfl
        · go_wp2
          refine bodyPost_ret (v := .agg #[.bool (decide (0 < dn)), .slice A2 dn c2]) (by simp [results, Tryd.results26, go_sem, r0a, r1a]) rfl ?_
          exact FIN.out _ _ rfl
      · have e1 : ¬ (k : Int) < m := by omega
        clear hgo
        obtain ⟨A1, hrun, hcutB⟩ := cutR A m c k hk hc
        have hbc := hcutB _ _ (hb0.below (below_alloc1 W0 (Obj.cells #[] 5)))
        have ho0 : Ob (W0.alloc (.cells #[] 5)) W0.heap.size 5 (.slice (some ⟨W0.heap.size, 0, none⟩) 0 0) [] := World.ownsRow_made W0 #[] 0 (Nat.le_refl _) (Nat.zero_le _) rfl
        have c01' : (W0.alloc (Obj.cells #[] 5)).cell? ⟨R, 1, none⟩ = some (.slice A m c) := by
          have := ((hT.1).below (below_alloc1 W0 (Obj.cells #[] 5))).cell 1
          simpa using this
        rw [← hd.out] at hbc
        have hdl := dz_len l
        go_wp2_with (at_builtin; refine wpList_appendB rfl _ _ 22 rfl W0.heap.size 5 i0 (.int .u8 0) Tryd.underlying22 hi hz0 hz1 hz2 rfl _ [] rfl ho0 _ _ _ (dz l) rfl hbc (by first | omega | (simp; omega)) (by simp) ?_)
        intro v1 w1 hob1 hg1 _ _
        have hB1 : Below W0.heap.size W0 w1 := ho0.grew (below_alloc1 W0 _) (Nat.le_refl _) hg1
        obtain ⟨A2, c2, rfl, hc2, hbs2⟩ := hob1.slice
        have hT1 := hT.frame hB1
        clear ho0 hg1 hbc hcutB c01' hrun
        have hlt1 := hT1.2.1.lt
        have hs1 : W0.heap.size ≤ w1.heap.size := hB1.size
        have kO := Blk.new2 w1 (.bool false) (.slice A2 (dz l).length c2) 24
        have hT2 := hT1.frame (below_alloc1 w1 (Obj.cells #[.bool false, .slice A2 (dz l).length c2] 24))
        have hbs3 := hbs2.below (below_alloc1 w1 (Obj.cells #[.bool false, .slice A2 (dz l).length c2] 24))
        have d0a : ∀ o : Obj, (w1.alloc o).cell? ⟨R, 0, none⟩ = some (.bool bl) := fun o => (hT1.1.below (below_alloc1 w1 o)).cell 0
        have r0a : ∀ o : Obj, (w1.alloc o).cell? ⟨R + 1, 0, none⟩ = some (.bool false) := fun o => (hT1.2.1.below (below_alloc1 w1 o)).cell 0
        have r1a : ∀ o : Obj, (w1.alloc o).cell? ⟨R + 1, 1, none⟩ = some (.slice none 0 0) := fun o => (hT1.2.1.below (below_alloc1 w1 o)).cell 1
        have g0a : ∀ o : Obj, (w1.alloc o).frozen? ⟨R + 1, 0, none⟩ = false := fun o => (hT1.2.1.below (below_alloc1 w1 o)).free 0
        have g1a : ∀ o : Obj, (w1.alloc o).frozen? ⟨R + 1, 1, none⟩ = false := fun o => (hT1.2.1.below (below_alloc1 w1 o)).free 1
        have FIN : Hid (∀ (o : Obj) (q : Bool), q = (bl && decide (0 < (dz l).length)) → NumOut w (Nm.mk0 ⟨bl, l⟩) (.returned (.agg #[.bool q, .slice A2 (dz l).length c2])) (((w1.alloc o).setCell ⟨R + 1, 0, none⟩ (.bool q)).setCell ⟨R + 1, 1, none⟩ (.slice A2 (dz l).length c2))) := by
          intro o q hq
          have hTo := hT1.frame (below_alloc1 w1 o)
          have hRo := hTo.2.1.lt
          have hwR := hTo.2.2.2
          refine ⟨_, rfl, ?_, below_set2 hTo.2.2.1 (by omega) (by omega) _ _⟩
          have e : Nm.mk0 ⟨bl, l⟩ = ⟨q, dz l⟩ := by
            unfold Nm.mk0
            rw [hq]
            simp only
            congr 2
            cases dz l <;> simp
          rw [e]
          exact NumV.mk' q ((hbs2.below (below_alloc1 w1 o)).set2 hTo.2.1 _ _) hc2
        clear hlt1 hs1 kO hT2 hbs3
        generalize hdn : (dz l).length = dn at *
        have HDN := Lib.hid hdn; clear hdn
        cases bl
        · go_wp2
          refine bodyPost_ret (v := .agg #[.bool false, .slice A2 dn c2]) (by simp [results, Tryd.results26, go_sem, r0a, r1a]) rfl ?_
          exact FIN.out _ _ rfl
        · go_wp2
          refine bodyPost_ret (v := .agg #[.bool (decide (0 < dn)), .slice A2 dn c2]) (by simp [results, Tryd.results26, go_sem, r0a, r1a]) rfl ?_
          exact FIN.out _ _ rfl
end Go.Proofs.YtbjiknfebocepaaDoor
