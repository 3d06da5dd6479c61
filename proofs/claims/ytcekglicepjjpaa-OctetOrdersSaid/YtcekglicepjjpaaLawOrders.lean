/-
  OctetOrders: for any two rows of bytes and any list of rows, quittancelaw01.OctetOrders returns true and changes nothing that was there.
-/
import Derived.Test.YtcekglicepjjpaaLawRules
namespace Go.Proofs.Ytcekglicepjjpaa
open Go.RowKit
set_option linter.unusedVariables false
set_option linter.unusedSimpArgs false

theorem bs_info : (Try.prog.info? 22).map (fun i => (i.zero, i.size, i.bytes)) = some (some (.slice none 0 0), 1, 24) := by kernel_rfl

/-- The first k rows, each cut to 5000. -/
def cutL (ls : List (List UInt8)) (k : Nat) : List (List UInt8) := (List.range k).map fun i => (rowL ls i).take 5000
theorem cutL_at {ls : List (List UInt8)} {k i : Nat} {l : List UInt8} (h : (cutL ls k)[i]? = some l) : i < k ∧ l = (rowL ls i).take 5000 := by
  unfold cutL at h
  rw [List.getElem?_map] at h
  obtain ⟨j, hj, rfl⟩ := Option.map_eq_some_iff.1 h
  obtain ⟨h2, h3⟩ := List.getElem?_eq_some_iff.1 hj
  simp at h2 h3
  subst h3
  exact ⟨h2, rfl⟩
theorem cutL_short (ls : List (List UInt8)) (k : Nat) : Short 5000 (cutL ls k) := by
  intro i
  unfold rowL
  rw [List.getD_eq_getElem?_getD]
  rcases h : (cutL ls k)[i]? with _ | l
  · simp
  · obtain ⟨_, rfl⟩ := cutL_at h
    simp; omega
theorem flatten_short {N : Nat} : ∀ {ls : List (List UInt8)}, (∀ l ∈ ls, l.length ≤ N) → ls.flatten.length ≤ ls.length * N
  | [], _ => by simp
  | l :: ls, h => by
    have h1 := h l (List.mem_cons_self ..)
    have h2 := flatten_short (ls := ls) fun x hx => h x (List.mem_cons_of_mem _ hx)
    simp only [List.flatten_cons, List.length_append, List.length_cons, Nat.add_mul]
    omega
theorem cutL_flat (ls : List (List UInt8)) (k : Nat) (hk : k ≤ 20) : (cutL ls k).flatten.length ≤ 100000 := by
  have h1 : ∀ l ∈ cutL ls k, l.length ≤ 5000 := by
    intro l hl
    obtain ⟨i, hi, rfl⟩ := List.getElem_of_mem hl
    obtain ⟨_, h⟩ := cutL_at (List.getElem?_eq_getElem hi)
    rw [h]; simp; omega
  have h2 := flatten_short h1
  have h3 : (cutL ls k).length = k := by simp [cutL]
  rw [h3] at h2
  have : k * 5000 ≤ 20 * 5000 := Nat.mul_le_mul_right _ hk
  omega

/-- A row of slices of the call's own, whose slices lie in old memory. -/
theorem bss_of_own {w w' : World} {base k : Nat} {e : TypeId} {v : Value} {vs : List Value} {ls : List (List UInt8)} (h : w'.ownsRow base e 1 v k vs) (hb : Below w.heap.size w w')
    (hv : ∀ i, i < k → ∃ Ai ni ci, vs[i]? = some (Value.slice Ai ni ci) ∧ Bs w Ai ni ((rowL ls i).take 5000) ∧ ni ≤ ci) : ∃ A c, v = .slice A k c ∧ k ≤ c ∧ Bss w' A k (cutL ls k) := by
  have hcells := @World.ownsRow.cells _ _ _ _ _ _ _ h
  rcases h.2 with ⟨rfl, h0⟩ | ⟨g, cap, cur, rfl, _, _, hle, _, _, _⟩
  · subst h0
    exact ⟨none, 0, rfl, Nat.le_refl _, Bss.nil _ _⟩
  · refine ⟨_, cap, rfl, hle, by simp [cutL], fun i l hl => ?_⟩
    obtain ⟨hik, rfl⟩ := cutL_at hl
    obtain ⟨Ai, ni, ci, hvi, hbs, hc⟩ := hv i hik
    have := hcells (g := g) rfl i _ hvi
    rw [Addr.add_none] at this
    exact ⟨g, 0, Ai, ni, ci, rfl, this, hbs.below hb, hc⟩

theorem snoc_rows {w : World} {k : Nat} {vs : List Value} {ls : List (List UInt8)} {X : Option Addr} {x c : Nat} (hl : vs.length = k)
    (h : ∀ i, i < k → ∃ Ai ni ci, vs[i]? = some (Value.slice Ai ni ci) ∧ Bs w Ai ni ((rowL ls i).take 5000) ∧ ni ≤ ci) (hb : Bs w X x ((rowL ls k).take 5000)) (hc : x ≤ c) :
    Hid (∀ i, i < k + 1 → ∃ Ai ni ci, (vs ++ [Value.slice X x c])[i]? = some (Value.slice Ai ni ci) ∧ Bs w Ai ni ((rowL ls i).take 5000) ∧ ni ≤ ci) := by
  intro i hi
  by_cases hik : i < k
  · obtain ⟨Ai, ni, ci, hv, r⟩ := h i hik
    exact ⟨Ai, ni, ci, by rw [List.getElem?_append_left (by omega)]; exact hv, r⟩
  · have : i = k := by omega
    subst this
    refine ⟨X, x, c, ?_, hb, hc⟩
    rw [List.getElem?_append_right (by omega), hl]; simp

set_option maxRecDepth 100000 in
set_option maxHeartbeats 1600000 in
theorem lawOrders (A B L : Option Addr) (n m p cA cB cL : Nat) (a b : List UInt8) (ls : List (List UInt8)) (w : World) (hA : Bs w A n a) (hB : Bs w B m b) (hL : Bss w L p ls) (hcA : n ≤ cA) (hcB : m ≤ cB) (hcL : p ≤ cL) :
    Calls Try.prog 5 #[.slice A n cA, .slice B m cB, .slice L p cL] w fun e w' => e = .returned (.bool true) ∧ Below w.heap.size w w' := by
  have hA' : Bs w A (min n 5000) (a.take (min n 5000)) := hA.take (by omega)
  have hB' : Bs w B (min m 5000) (b.take (min m 5000)) := hB.take (by omega)
  have h1 : min n 5000 ≤ 5000 := by omega
  have h2 : min m 5000 ≤ 5000 := by omega
  obtain ⟨i1, hi1, hz0, hz1, hz2⟩ := info_parts bs_info
  go_enter Try.func5, Try.ntmps5
  go_wp2_with fail
  refine (few1 A n cA _ hcA).mono ?_
  rintro e w0 ⟨rfl, rfl⟩
  go_wp2_with fail
  refine (few1 B m cB _ hcB).mono ?_
  rintro e w0 ⟨rfl, rfl⟩
  clear hA hB hcA hcB
  generalize min n 5000 = n' at *
  generalize min m 5000 = m' at *
  generalize a.take n' = a at *
  generalize b.take m' = b at *
  go_wp2_with fail
  go_loopw [7, 8] (fun v i wr => ∃ (k : Nat) (vs : List Value), k ≤ p ∧ k ≤ 20 ∧ i = .int .i64 k ∧ wr.ownsRow w.heap.size 22 1 v k vs ∧ Below w.heap.size w wr ∧
      Hid (∀ i, i < k → ∃ Ai ni ci, vs[i]? = some (Value.slice Ai ni ci) ∧ Bs w Ai ni ((rowL ls i).take 5000) ∧ ni ≤ ci)) (fun _ i _ => 20 - (intOf i).toNat)
  case atStart => exact ⟨0, [], Nat.zero_le _, Nat.zero_le _, rfl, World.ownsRow_nil _ _ _ _, Below.refl _ _, fun i hi => by omega⟩
  case round =>
    obtain ⟨k, vs, hkp, hk20, rfl, hown, hbel, hvs⟩ := hrel
    by_cases hlt : k < p ∧ k < 20
    · obtain ⟨hl1, hl2⟩ := hlt
      obtain ⟨bL, oL, Ai, ni, ci, rfl, hci, hbsi, hnci⟩ := hL.at_ hl1
      have hci' : (Below w.heap.size w wr) := hbel
      have hcr : wr.cell? ⟨bL, oL + k, none⟩ = some (.slice Ai ni ci) := (hbel.cell (World.block_lt_of_cell? w _ hci)).trans hci
      have g1 : (k : Int) < p := by omega
      have g2 : decide ((k : Int) < 20) = true := by simp; omega
      have hnew : Hid (Bs w Ai (min ni 5000) ((rowL ls k).take 5000)) := by
        have := hbsi.take (m := min ni 5000) (by omega)
        have hl := hbsi.len
        rw [show (rowL ls k).take (min ni 5000) = (rowL ls k).take 5000 by
          rw [← hl]
          by_cases h5 : (rowL ls k).length ≤ 5000
          · rw [Nat.min_eq_left h5, List.take_of_length_le (Nat.le_refl _), List.take_of_length_le h5]
          · rw [Nat.min_eq_right (by omega)]] at this
        exact this
      go_wp2_with fail
      refine (few1 Ai ni ci _ hnci).mono ?_
      rintro e w0 ⟨rfl, rfl⟩
      have hmc : min ni 5000 ≤ ci := by omega
      generalize min ni 5000 = ni' at *
      go_wp2_with (at_builtin; refine wpList_append_own _ rfl _ _ 41 rfl w.heap.size 22 i1 (.slice none 0 0) 1 24 Try.underlying41 hi1 hz0 hz1 hz2 rfl (by decide) _ k vs rfl (hown.alloc _) ⟨wr.heap.size, 0, none⟩ 1 1 [.slice Ai ni' ci] rfl rfl ?ap1 ?ap2 ?ap3 ?ap4 ?ap5 ?_)
      case ap1 =>
        exact cell_one_new _ _ _
      case ap2 => intro u hu; simp at hu; subst hu; rfl
      case ap3 => unfold maxLen; omega
      case ap4 => omega
      case ap5 => have := hbel.size; simp; omega
      intro v' w1 hown1 hg1 _
      have hlt' := World.ownsRow.lt hown
      have hbel1 : Below w.heap.size w w1 := (hbel.alloc hbel.size _).grown hg1 (by have := hbel.size; simp; omega) (fun k hk => (hlt' k hk).1)
      have hvs1 := snoc_rows (by have := hown.1; omega) hvs.out hnew.out hmc
      go_wp2
      go_roundw
      case rel => exact ⟨k + 1, _, by omega, by omega, by go_num, hown1, hbel1, hvs1⟩
      case measure => simp [intOf]; omega
    · obtain ⟨M, cM, rfl, hcM, hM⟩ := bss_of_own hown hbel hvs.out
      have hsh := cutL_short ls k
      have hfl := cutL_flat ls k hk20
      generalize cutL ls k = ms at *
      have hsh' : Short 1099511627776 ms := fun i => Nat.le_trans (hsh i) (by omega)
      by_cases hkp' : k < p
      · have g1 : (k : Int) < p := by omega
        have g2 : decide ((k : Int) < 20) = false := by simp; omega
        go_wp2_with fail
        refine (known1 _).mono ?_
        rintro e w1 ⟨rfl, b1⟩
        have B1 : Below w.heap.size w w1 := hbel.trans (b1.mono hbel.size)
        have hM1 := hM.below b1
        go_wp2_with fail
        refine (octCompare A B n' m' cA cB a b _ (hA'.below B1) (hB'.below B1)).mono ?_
        rintro e w0 ⟨rfl, rfl⟩
        go_wp2_with fail
        refine (refCompare A B n' m' cA cB a b _ (hA'.below B1) (hB'.below B1) (by omega) (by omega)).mono ?_
        rintro e w2 ⟨rfl, q2⟩
        have B2 : Below w.heap.size w w2 := B1.trans q2.below
        have hM2 := hM1.qt q2
        go_wp2_with fail
        refine (octEqual A B n' m' cA cB a b _ (hA'.below B2) (hB'.below B2)).mono ?_
        rintro e w0 ⟨rfl, rfl⟩
        go_wp2_with fail
        refine (refSame A B n' m' cA cB a b _ (hA'.below B2) (hB'.below B2) (by omega) (by omega)).mono ?_
        rintro e w3 ⟨rfl, q3⟩
        have B3 : Below w.heap.size w w3 := B2.trans q3.below
        have hM3 := hM2.qt q3
        go_wp2_with fail
        refine (octJoin M k cM ms _ hM3 (by omega) (by omega)).mono ?_
        rintro e w4 ⟨J, nj, cj, rfl, hobj, b4⟩
        have B4 : Below w.heap.size w w4 := B3.trans (b4.mono B3.size)
        have hM4 := hM3.below b4
        go_wp2_with fail
        refine (refJoin M k cM ms _ hM4 (by omega) (by omega)).mono ?_
        rintro e w5 ⟨J2, nj2, cj2, rfl, hobj2, b5⟩
        have B5 : Below w.heap.size w w5 := B4.trans (b5.mono B4.size)
        have hM5 := hM4.below b5
        obtain ⟨hJ, hncj⟩ := (hobj.below b5).bs
        obtain ⟨hJ2, hncj2⟩ := hobj2.bs
        have hnj : Hid (nj ≤ 1099511627776) := by unfold Hid; have := hJ.len; omega
        have hnj2 : Hid (nj2 ≤ 1099511627776) := by unfold Hid; have := hJ2.len; omega
        go_wp2_with fail
        refine (refSame J J2 nj nj2 cj cj2 _ _ _ hJ hJ2 hnj.out hnj2.out).mono ?_
        rintro e w6 ⟨rfl, q6⟩
        have B6 : Below w.heap.size w w6 := B5.trans q6.below
        have hM6 := hM5.qt q6
        go_wp2_with fail
        refine (octCommon M k cM ms _ hM6 hcM (by omega) hsh').mono ?_
        rintro e w7 ⟨rfl, q7⟩
        have B7 : Below w.heap.size w w7 := B6.trans q7.below
        have hM7 := hM6.qt q7
        go_wp2_with fail
        refine (refCommon M k cM ms _ hM7 (by omega) hsh').mono ?_
        rintro e w8 ⟨rfl, q8⟩
        have B8 : Below w.heap.size w w8 := B7.trans q8.below
        go_wp2
        go_ret
        exact ⟨rfl, B8⟩
      · have g1 : ¬ (k : Int) < p := by omega
        go_wp2_with fail
        refine (known1 _).mono ?_
        rintro e w1 ⟨rfl, b1⟩
        have B1 : Below w.heap.size w w1 := hbel.trans (b1.mono hbel.size)
        have hM1 := hM.below b1
        go_wp2_with fail
        refine (octCompare A B n' m' cA cB a b _ (hA'.below B1) (hB'.below B1)).mono ?_
        rintro e w0 ⟨rfl, rfl⟩
        go_wp2_with fail
        refine (refCompare A B n' m' cA cB a b _ (hA'.below B1) (hB'.below B1) (by omega) (by omega)).mono ?_
        rintro e w2 ⟨rfl, q2⟩
        have B2 : Below w.heap.size w w2 := B1.trans q2.below
        have hM2 := hM1.qt q2
        go_wp2_with fail
        refine (octEqual A B n' m' cA cB a b _ (hA'.below B2) (hB'.below B2)).mono ?_
        rintro e w0 ⟨rfl, rfl⟩
        go_wp2_with fail
        refine (refSame A B n' m' cA cB a b _ (hA'.below B2) (hB'.below B2) (by omega) (by omega)).mono ?_
        rintro e w3 ⟨rfl, q3⟩
        have B3 : Below w.heap.size w w3 := B2.trans q3.below
        have hM3 := hM2.qt q3
        go_wp2_with fail
        refine (octJoin M k cM ms _ hM3 (by omega) (by omega)).mono ?_
        rintro e w4 ⟨J, nj, cj, rfl, hobj, b4⟩
        have B4 : Below w.heap.size w w4 := B3.trans (b4.mono B3.size)
        have hM4 := hM3.below b4
        go_wp2_with fail
        refine (refJoin M k cM ms _ hM4 (by omega) (by omega)).mono ?_
        rintro e w5 ⟨J2, nj2, cj2, rfl, hobj2, b5⟩
        have B5 : Below w.heap.size w w5 := B4.trans (b5.mono B4.size)
        have hM5 := hM4.below b5
        obtain ⟨hJ, hncj⟩ := (hobj.below b5).bs
        obtain ⟨hJ2, hncj2⟩ := hobj2.bs
        have hnj : Hid (nj ≤ 1099511627776) := by unfold Hid; have := hJ.len; omega
        have hnj2 : Hid (nj2 ≤ 1099511627776) := by unfold Hid; have := hJ2.len; omega
        go_wp2_with fail
        refine (refSame J J2 nj nj2 cj cj2 _ _ _ hJ hJ2 hnj.out hnj2.out).mono ?_
        rintro e w6 ⟨rfl, q6⟩
        have B6 : Below w.heap.size w w6 := B5.trans q6.below
        have hM6 := hM5.qt q6
        go_wp2_with fail
        refine (octCommon M k cM ms _ hM6 hcM (by omega) hsh').mono ?_
        rintro e w7 ⟨rfl, q7⟩
        have B7 : Below w.heap.size w w7 := B6.trans q7.below
        have hM7 := hM6.qt q7
        go_wp2_with fail
        refine (refCommon M k cM ms _ hM7 (by omega) hsh').mono ?_
        rintro e w8 ⟨rfl, q8⟩
        have B8 : Below w.heap.size w w8 := B7.trans q8.below
        go_wp2
        go_ret
        exact ⟨rfl, B8⟩
end Go.Proofs.Ytcekglicepjjpaa
