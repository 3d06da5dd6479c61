/-
  The law TextReads: the next text of any bytes.
-/
import Derived.Test.YtoklonnajpjgjaaDoorUc
import Derived.Test.YtoklonnajpjgjaaDoorUd
import Derived.Test.YtoklonnajpjgjaaDoorTv
import Derived.Test.YtoklonnajpjgjaaDoorTj
import Derived.Deep.RegionHeld3
namespace Go.Proofs.YtoklonnajpjgjaaDoor
open Go.RowKit Go.Shelf
set_option linter.unusedVariables false
set_option linter.unusedSimpArgs false
set_option maxRecDepth 4000

theorem below_st6 {a b c : World} (h : Below a.heap.size a b) (k : Below b.heap.size b c) : Below a.heap.size a c := h.trans (Below.mono k h.size)
theorem cutTo6 (A : Option Addr) (n c k : Nat) (hk : k ≤ n) (hc : n ≤ c) (W : World) : (Instr.slice 22 (.slice A n c) none (some (.int .i64 (k : Int))) none).run Tryd.prog W = .ok (.slice A k c) W := by
  go_simp
  have h1 : k ≤ c := by omega
  cases A <;> simp [sliced, h1] <;> omega

set_option maxHeartbeats 6400000 in
theorem readsWalk6 (A : Option Addr) (n0 c : Nat) (l0 : List UInt8) (K : Option Addr) (m0 d : Nat) (ks0 : List Int) (w : World) (hT : Tb w) (h : Bs w A n0 l0) (hc : n0 ≤ c) (hz : Zs w K m0 ks0) (hd : m0 ≤ d) :
    Calls Tryd.prog 6 #[.slice A n0 c, .slice K m0 d] w fun e w' => e = .returned (.bool true) ∧ Below w.heap.size w w' := by
  obtain ⟨n, hnn⟩ : ∃ n, min n0 500 = n := ⟨_, rfl⟩
  obtain ⟨m, hmm⟩ : ∃ m, min m0 10 = m := ⟨_, rfl⟩
  have a1 : min (n0 : Int) 500 = (n : Int) := by omega
  have a2 : (if (500 : Int) < (n0 : Int) then (500 : Int) else (n0 : Int)) = (n : Int) := by split <;> omega
  have a3 : (if (n0 : Int) < 500 then (n0 : Int) else (500 : Int)) = (n : Int) := by split <;> omega
  have a4 : min (m0 : Int) 10 = (m : Int) := by omega
  have a5 : (if (10 : Int) < (m0 : Int) then (10 : Int) else (m0 : Int)) = (m : Int) := by split <;> omega
  have a6 : (if (m0 : Int) < 10 then (m0 : Int) else (10 : Int)) = (m : Int) := by split <;> omega
  have hs1 := cutTo6 A n0 c n (by omega) hc
  have hs2 := cutToI K m0 d m (by omega) hd
  have hl := h.take (m := n) (by omega)
  have hk := hz.take (m := m) (by omega)
  generalize l0.take n = b at hl
  generalize ks0.take m = ks at hk
  have HN : Hid (n ≤ 500 ∧ m ≤ 10 ∧ n ≤ c) := Lib.hid (by omega)
  have HL := Lib.hid hl
  have HK := Lib.hid hk
  have HT := Lib.hid hT
  have NW := Lib.hid (octNew A n c b w hl (by omega))
  have HLn := Lib.hid hl.len
  have RF : Hid (∀ W : World, Below w.heap.size w W → Calls Tryd.prog 27 #[.slice A n c, .int .i64 0, .slice K m d] W (RdT6 W (rdT b 0 (effK ks)))) := Lib.hid (fun W hW => ref6Read A n c 0 0 b K m d ks W (HL.out.below hW) HN.out.2.2 (by have := HN.out; omega) (by omega) rfl (HK.out.below hW) (by have := HN.out; omega))
  have TR : Hid (∀ (g : Nat) (s : Value) (W : World), w.heap.size ≤ g → Below w.heap.size w W → Cur W g s b 0 → Calls Tryd.prog 25 #[.pointer (some ⟨g, 0, none⟩), .slice K m d] W (fun e w' => ∃ (A : Option Addr) (n c : Nat), e = .returned (.tuple #[.agg #[.int .i64 (rdT b 0 (effK ks)).1.1, .slice A n c], .int .i64 (rdT b 0 (effK ks)).2.2]) ∧ Ob w' W.heap.size 5 (.slice A n c) (rdT b 0 (effK ks)).1.2 ∧ Cur w' g s b (rdT b 0 (effK ks)).2.1 ∧ Only g W w')) := Lib.hid (fun g s W hg hW hC => txRead g 0 b ks K m d W hC (fun W' hW' => HK.out.below (hW'.below hW hg hW.size)) (by have := HN.out; omega) (HT.out.below hW) (by have := HT.out.lt; omega) (by have := HN.out; have := HLn.out; omega))
  generalize rdT b 0 (effK ks) = R at RF TR
  obtain ⟨⟨u, bt⟩, p', E⟩ := R
  unfold RdT6 at RF
  simp only at RF TR
  clear h hc hz hd hl hk hT hnn hmm
  go_enter Tryd.func6, Tryd.ntmps6
  go_wp2_with fail
  refine NW.out.mono ?_
  rintro e w1 ⟨g, s, rfl, hg, c1, b1⟩
  clear a1 a2 a3 a4 a5 a6 hs1 hs2 NW
  go_wp2_with fail
  refine (TR.out g s w1 hg b1 c1).mono ?_
  rintro e w2 ⟨A3, n3, c3, rfl, ob2, c2, o2⟩
  have B2 := o2.below b1 hg b1.size
  have bs2 := ob2.bs.1
  have b3 := below_alloc1 w2 (.cells #[.int .i64 u, .slice A3 n3 c3] 25)
  have hX := Blk.new2 w2 (.int .i64 u) (.slice A3 n3 c3) 25
  have bs3 := bs2.below b3
  have c3' := c2.below b3
  have B3 := below_st6 B2 b3
  clear b1 c1 ob2 c2 o2 bs2 B2 b3 TR
  go_upto_region 5 with (fail)
  generalize (w2.alloc (Obj.cells #[.int .i64 u, .slice A3 n3 c3] 25)) = W3 at *
  generalize w2.heap.size = X at *
  go_wp2_with fail
  refine (RF.out W3 B3).mono ?_
  rintro e w4 ⟨A5, n5, c5, rfl, bs4, _, b4⟩
  have hX4 := hX.below b4
  have bs34 := bs3.below b4
  have c4 := c3'.below b4
  have B4 := below_st6 B3 b4
  have b5 := below_alloc1 w4 (.cells #[.int .i64 u, .slice A5 n5 c5] 24)
  have hY := Blk.new2 w4 (.int .i64 u) (.slice A5 n5 c5) 24
  have hX5 := hX4.below b5
  have bs35 := bs34.below b5
  have bs45 := bs4.below b5
  have c5' := c4.below b5
  have B5 := below_st6 B4 b5
  clear hX bs3 c3' B3 b4 hX4 bs34 c4 B4 b5 bs4 RF
  go_upto_region 6 with (fail)
  generalize (w4.alloc (Obj.cells #[.int .i64 u, .slice A5 n5 c5] 24)) = W6 at *
  generalize w4.heap.size = Y at *
  have ST6 : Hid (∀ W, Below W6.heap.size W6 W → (W.cell? ⟨X, 0, none⟩ = some (.int .i64 u) ∧ W.cell? ⟨X, 1, none⟩ = some (.slice A3 n3 c3) ∧ W.cell? ⟨Y, 0, none⟩ = some (.int .i64 u) ∧ W.cell? ⟨Y, 1, none⟩ = some (.slice A5 n5 c5)) ∧ Bs W A3 n3 bt ∧ Bs W A5 n5 bt ∧ Cur W g s b p' ∧ Tb W ∧ Below w.heap.size w W) := Lib.hid
    (fun W hW => ⟨⟨(hX5.below hW).two.1, (hX5.below hW).two.2.1, (hY.below hW).two.1, (hY.below hW).two.2.1⟩, bs35.below hW, bs45.below hW, c5'.below hW, HT.out.below (below_st6 B5 hW), below_st6 B5 hW⟩)
  clear hX5 hY bs35 bs45 c5' B5 HT
  refine wp_region_held_drew (S := fun w' => w'.cell? ⟨X, 0, none⟩ = some (.int .i64 u) ∧ w'.cell? ⟨X, 1, none⟩ = some (.slice A3 n3 c3) ∧ w'.cell? ⟨Y, 0, none⟩ = some (.int .i64 u) ∧ w'.cell? ⟨Y, 1, none⟩ = some (.slice A5 n5 c5)) (by kernel_rfl) ?_ (fun hHeld => ?_)
  · (try dsimp only); exact (ST6.out _ (Below.drew (Below.refl _ _))).1
  refine wpAnyH_ready (rs := [0]) (by kernel_rfl) (by simp) ?_
  refine AllReadyH.cons rfl (fun K hK => ?_) AllReadyH.nil
  go_simp
  refine (known6 _ (ST6.out _ (Below.drew (Below.refl _ _))).2.2.2.2.1).mono ?_
  rintro e w7 ⟨rfl, z7⟩
  have Z7 : Below W6.heap.size W6 w7 := Below.trans (Below.drew (Below.refl _ _)) z7
  go_wp2_with fail
  refine hK.out _ _ ?_ (fun hHeld => ?_)
  · (try dsimp only); exact (ST6.out _ Z7).1
  clear hK K
  try simp only [Act.put, List.setIfInBounds_toArray, List.set_cons_zero, List.set_cons_succ, List.getElem_toArray, List.getElem_cons_succ, List.getElem_cons_zero]
  refine wpAnyH_take (i := 1) (v := ?_) rfl (by kernel_rfl) (by kernel_rfl) (by kernel_rfl) (fun _ _ _ h => h) (Or.inl ⟨by kernel_rfl, ?_⟩) (by assumption) ?_
  rotate_left 1
  · (intro w hSw; (try dsimp only at hSw); go_simp) <;> (try with_reducible rfl)
  try simp only [Act.put, List.setIfInBounds_toArray, List.set_cons_zero, List.set_cons_succ, List.getElem_toArray, List.getElem_cons_succ, List.getElem_cons_zero]
  refine wpAnyH_take (i := 2) (v := ?_) rfl (by kernel_rfl) (by kernel_rfl) (by kernel_rfl) (fun _ _ _ h => h) (Or.inl ⟨by kernel_rfl, ?_⟩) (by assumption) ?_
  rotate_left 1
  · (intro w hSw; (try dsimp only at hSw); go_simp) <;> (try with_reducible rfl)
  try simp only [Act.put, List.setIfInBounds_toArray, List.set_cons_zero, List.set_cons_succ, List.getElem_toArray, List.getElem_cons_succ, List.getElem_cons_zero]
  refine wpAnyH_take (i := 3) (v := ?_) rfl (by kernel_rfl) (by kernel_rfl) (by kernel_rfl) (fun _ _ _ h => h) (Or.inl ⟨by kernel_rfl, ?_⟩) (by assumption) ?_
  rotate_left 1
  · (intro w hSw; (try dsimp only at hSw); go_simp) <;> (try with_reducible rfl)
  try simp only [Act.put, List.setIfInBounds_toArray, List.set_cons_zero, List.set_cons_succ, List.getElem_toArray, List.getElem_cons_succ, List.getElem_cons_zero]
  refine wpAnyH_take (i := 4) (v := ?_) rfl (by kernel_rfl) (by kernel_rfl) (by kernel_rfl) (fun _ _ _ h => h) (Or.inl ⟨by kernel_rfl, ?_⟩) (by assumption) ?_
  rotate_left 1
  · (intro w hSw; (try dsimp only at hSw); go_simp) <;> (try with_reducible rfl)
  try simp only [Act.put, List.setIfInBounds_toArray, List.set_cons_zero, List.set_cons_succ, List.getElem_toArray, List.getElem_cons_succ, List.getElem_cons_zero]
  refine wpAnyH_take (i := 5) (v := ?_) rfl (by kernel_rfl) (by kernel_rfl) (by kernel_rfl) (fun _ _ _ h => h) (Or.inl ⟨by kernel_rfl, ?_⟩) (by assumption) ?_
  rotate_left 1
  · (intro w hSw; (try dsimp only at hSw); go_simp) <;> (try with_reducible rfl)
  try simp only [Act.put, List.setIfInBounds_toArray, List.set_cons_zero, List.set_cons_succ, List.getElem_toArray, List.getElem_cons_succ, List.getElem_cons_zero]
  refine wpAnyH_take (i := 6) (v := ?_) rfl (by kernel_rfl) (by kernel_rfl) (by kernel_rfl) (fun _ _ _ h => h) (Or.inl ⟨by kernel_rfl, ?_⟩) (by assumption) ?_
  rotate_left 1
  · (intro w hSw; (try dsimp only at hSw); go_simp) <;> (try with_reducible rfl)
  try simp only [Act.put, List.setIfInBounds_toArray, List.set_cons_zero, List.set_cons_succ, List.getElem_toArray, List.getElem_cons_succ, List.getElem_cons_zero]
  refine wpAnyH_take (i := 7) (v := ?_) rfl (by kernel_rfl) (by kernel_rfl) (by kernel_rfl) (fun _ _ _ h => h) (Or.inl ⟨by kernel_rfl, ?_⟩) (by assumption) ?_
  rotate_left 1
  · (intro w hSw; (try dsimp only at hSw); go_simp) <;> (try with_reducible rfl)
  try simp only [Act.put, List.setIfInBounds_toArray, List.set_cons_zero, List.set_cons_succ, List.getElem_toArray, List.getElem_cons_succ, List.getElem_cons_zero]
  refine wpAnyH_take (i := 9) (v := ?_) rfl (by kernel_rfl) (by kernel_rfl) (by kernel_rfl) (fun _ _ _ h => h) (Or.inl ⟨by kernel_rfl, ?_⟩) (by assumption) ?_
  rotate_left 1
  · (intro w hSw; (try dsimp only at hSw); go_simp) <;> (try with_reducible rfl)
  try simp only [Act.put, List.setIfInBounds_toArray, List.set_cons_zero, List.set_cons_succ, List.getElem_toArray, List.getElem_cons_succ, List.getElem_cons_zero]
  refine wpAnyH_ready (rs := [8]) (by kernel_rfl) (by simp) ?_
  refine AllReadyH.cons rfl (fun K hK => ?_) AllReadyH.nil
  go_simp
  refine (lw6Of u A3 n3 c3 _).mono ?_
  rintro e w8 ⟨rfl, z8⟩
  have Z8 := below_st6 Z7 z8
  go_wp2_with fail
  refine hK.out _ _ ?_ (fun hHeld => ?_)
  · (try dsimp only); exact (ST6.out _ Z8).1
  clear hK K
  try simp only [Act.put, List.setIfInBounds_toArray, List.set_cons_zero, List.set_cons_succ, List.getElem_toArray, List.getElem_cons_succ, List.getElem_cons_zero]
  refine wpAnyH_ready (rs := [10]) (by kernel_rfl) (by simp) ?_
  refine AllReadyH.cons rfl (fun K hK => ?_) AllReadyH.nil
  go_simp
  refine (rf6SameT u A3 A5 n3 n5 c3 c5 bt _ (ST6.out _ Z8).2.1 (ST6.out _ Z8).2.2.1).mono ?_
  rintro e w9 ⟨rfl, z9⟩
  have Z9 := below_st6 Z8 z9
  go_wp2_with fail
  refine hK.out _ _ ?_ (fun hHeld => ?_)
  · (try dsimp only); exact (ST6.out _ Z9).1
  clear hK K
  try simp only [Act.put, List.setIfInBounds_toArray, List.set_cons_zero, List.set_cons_succ, List.getElem_toArray, List.getElem_cons_succ, List.getElem_cons_zero]
  refine wpAnyH_take (i := 11) (v := ?_) rfl (by kernel_rfl) (by kernel_rfl) (by kernel_rfl) (fun _ _ _ h => h) (Or.inl ⟨by kernel_rfl, ?_⟩) (by assumption) ?_
  rotate_left 1
  · (intro w hSw; (try dsimp only at hSw); go_simp) <;> (try with_reducible rfl)
  try simp only [Act.put, List.setIfInBounds_toArray, List.set_cons_zero, List.set_cons_succ, List.getElem_toArray, List.getElem_cons_succ, List.getElem_cons_zero]
  refine wpAnyH_take (i := 12) (v := ?_) rfl (by kernel_rfl) (by kernel_rfl) (by kernel_rfl) (fun _ _ _ h => h) (Or.inl ⟨by kernel_rfl, ?_⟩) (by assumption) ?_
  rotate_left 1
  · (intro w hSw; (try dsimp only at hSw); go_simp) <;> (try with_reducible rfl)
  try simp only [Act.put, List.setIfInBounds_toArray, List.set_cons_zero, List.set_cons_succ, List.getElem_toArray, List.getElem_cons_succ, List.getElem_cons_zero]
  refine wpAnyH_take (i := 13) (v := ?_) rfl (by kernel_rfl) (by kernel_rfl) (by kernel_rfl) (fun _ _ _ h => h) (Or.inl ⟨by kernel_rfl, ?_⟩) (by assumption) ?_
  rotate_left 1
  · (intro w hSw; (try dsimp only at hSw); go_simp) <;> (try with_reducible rfl)
  try simp only [Act.put, List.setIfInBounds_toArray, List.set_cons_zero, List.set_cons_succ, List.getElem_toArray, List.getElem_cons_succ, List.getElem_cons_zero]
  refine wpAnyH_take (i := 15) (v := ?_) rfl (by kernel_rfl) (by kernel_rfl) (by kernel_rfl) (fun _ _ _ h => h) (Or.inl ⟨by kernel_rfl, ?_⟩) (by assumption) ?_
  rotate_left 1
  · (intro w hSw; (try dsimp only at hSw); go_simp) <;> (try with_reducible rfl)
  try simp only [Act.put, List.setIfInBounds_toArray, List.set_cons_zero, List.set_cons_succ, List.getElem_toArray, List.getElem_cons_succ, List.getElem_cons_zero]
  refine wpAnyH_ready (rs := [14]) (by kernel_rfl) (by simp) ?_
  refine AllReadyH.cons rfl (fun K hK => ?_) AllReadyH.nil
  go_simp
  refine (curAt g _ _ _ (ST6.out _ Z9).2.2.2.1).mono ?_
  rintro e wa ⟨rfl, hwa⟩
  obtain rfl : w9 = wa := hwa
  go_wp2_with fail
  refine hK.out _ _ ?_ (fun hHeld => ?_)
  · (try dsimp only); exact (ST6.out _ Z9).1
  clear hK K
  try simp only [Act.put, List.setIfInBounds_toArray, List.set_cons_zero, List.set_cons_succ, List.getElem_toArray, List.getElem_cons_succ, List.getElem_cons_zero]
  refine wpAnyH_take (i := 16) (v := ?_) rfl (by kernel_rfl) (by kernel_rfl) (by kernel_rfl) (fun _ _ _ h => h) (Or.inl ⟨by kernel_rfl, ?_⟩) (by assumption) ?_
  rotate_left 1
  · (intro w hSw; (try dsimp only at hSw); go_simp) <;> (try with_reducible rfl)
  try simp only [Act.put, List.setIfInBounds_toArray, List.set_cons_zero, List.set_cons_succ, List.getElem_toArray, List.getElem_cons_succ, List.getElem_cons_zero]
  refine wpAnyH_take (i := 17) (v := ?_) rfl (by kernel_rfl) (by kernel_rfl) (by kernel_rfl) (fun _ _ _ h => h) (Or.inl ⟨by kernel_rfl, ?_⟩) (by assumption) ?_
  rotate_left 1
  · (intro w hSw; (try dsimp only at hSw); go_simp) <;> (try with_reducible rfl)
  try simp only [Act.put, List.setIfInBounds_toArray, List.set_cons_zero, List.set_cons_succ, List.getElem_toArray, List.getElem_cons_succ, List.getElem_cons_zero]
  refine wpAnyH_take (i := 18) (v := ?_) rfl (by kernel_rfl) (by kernel_rfl) (by kernel_rfl) (fun _ _ _ h => h) (Or.inl ⟨by kernel_rfl, ?_⟩) (by assumption) ?_
  rotate_left 1
  · (intro w hSw; (try dsimp only at hSw); go_simp) <;> (try with_reducible rfl)
  try simp only [Act.put, List.setIfInBounds_toArray, List.set_cons_zero, List.set_cons_succ, List.getElem_toArray, List.getElem_cons_succ, List.getElem_cons_zero]
  refine wpAnyH_done (by kernel_rfl) ?_ _
  have Z10 := (ST6.out _ Z9).2.2.2.2.2
  go_wp2
  go_ret
  exact ⟨rfl, Z10⟩
end Go.Proofs.YtoklonnajpjgjaaDoor
