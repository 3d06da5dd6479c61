/-
  The project's date: Text.
-/
import Derived.Test.YtepbjjhidemaiaaGreatDi
namespace Go.Proofs.YtepbjjhidemaiaaGreat
open Go.RowKit
set_option linter.unusedVariables false
set_option linter.unusedSimpArgs false
set_option maxRecDepth 4000

/-- A moment's text. -/
def txtB (y m d a b c : Int) : List UInt8 := tw (y / 100) ++ tw (y % 100) ++ [45] ++ (tw m ++ [45] ++ tw d) ++ [84] ++ (tw a ++ [58] ++ tw b ++ [58] ++ tw c) ++ [90]

set_option maxHeartbeats 800000 in
theorem dtTextNo (s : Int) (w : World) (hn : I64 s) (h : s < -62167219200 ∨ 253402300799 < s) :
    Calls Tryz.prog 24 #[.int .i64 s] w fun e w' => e = .returned (.tuple #[strV [], .int .i64 1]) ∧ Below w.heap.size w w' := by
  unfold strV
  have hC := Lib.hid (fun W => dtAtNo s W hn h)
  clear h
  unfold cv at hC
  go_enter Tryz.func24, Tryz.ntmps24
  go_wp2_with fail
  refine (hC.out _).mono ?_
  rintro e w1 ⟨rfl, hB⟩
  have HB := Lib.hid hB
  clear hB
  go_wp2
  go_ret2
  exact ⟨rfl, HB.out.alloc HB.out.size _⟩

set_option maxHeartbeats 3200000 in
theorem dtTextYes (s y m d a b c : Int) (w : World) (h0 : -62167219200 ≤ s) (h1 : s ≤ 253402300799) (hR : RgtC y m d a b c) (hs : sec y m d a b c = s) :
    Calls Tryz.prog 24 #[.int .i64 s] w fun e w' => e = .returned (.tuple #[strV (txtB y m d a b c), .int .i64 0]) ∧ Below w.heap.size w w' := by
  unfold strV
  have hC := Lib.hid (fun W => dtAtYes s W h0 h1)
  have hP2 := Lib.hid (fun (m : List UInt8) (g : Nat) (p q : Int) W hm (hp : 0 ≤ p ∧ p < 100) (hq : 0 ≤ q ∧ q < 100) h => dtPairs m g 2 [p, q] W hm (by omega) rfl (by intro z hz; simp at hz; rcases hz with rfl | rfl <;> assumption) h)
  have hP3 := Lib.hid (fun (m : List UInt8) (g : Nat) (p q r : Int) W hm (hp : 0 ≤ p ∧ p < 100) (hq : 0 ≤ q ∧ q < 100) (hr : 0 ≤ r ∧ r < 100) h => dtPairs m g 3 [p, q, r] W hm (by omega) rfl (by intro z hz; simp at hz; rcases hz with rfl | rfl | rfl <;> assumption) h)
  unfold strV at hP2 hP3
  have q1 : y.tdiv 100 = y / 100 := Int.tdiv_eq_ediv_of_nonneg hR.1.1
  have q2 : y.tmod 100 = y % 100 := Int.tmod_eq_emod_of_nonneg hR.1.1
  have hyy := hR.1
  have hmm := hR.1.month
  have hdd := (dys_le y m).2
  have hRR := hR.2
  obtain ⟨g1, g2, g3, g4⟩ := hyy
  have HR := Lib.hid hR
  have HS := Lib.hid hs
  clear hR hs
  go_enter Tryz.func24, Tryz.ntmps24
  go_wp2_with fail
  refine (hC.out _).mono ?_
  rintro e w1 ⟨⟨y', m', d', a', b', c', rfl, hR', hs'⟩, hB⟩
  have hEq : y' = y ∧ m' = m ∧ d' = d ∧ a' = a ∧ b' = b ∧ c' = c := by
    have hs2 := HS.out
    rw [← hs'] at hs2
    have hR2 := HR.out
    have hr1 := hR'.2; have hr2 := hR2.2
    unfold sec at hs2
    have hn : num y' m' d' = num y m d := by omega
    have := num_inj hR'.1 hR2.1 hn
    omega
  obtain ⟨rfl, rfl, rfl, rfl, rfl, rfl⟩ := hEq
  clear hR' hs' HS HR
  unfold cv
  have HB1 := Lib.hid (hB.alloc hB.size (.cells #[.int .i64 y', .int .i64 m', .int .i64 d', .int .i64 a', .int .i64 b', .int .i64 c'] 87))
  have hb1 := Blk.six_new w1 (.int .i64 y') (.int .i64 m') (.int .i64 d') (.int .i64 a') (.int .i64 b') (.int .i64 c') 87
  obtain ⟨c0, c1, c2, c3, c4, c5⟩ := hb1.six
  have Hb1 := Lib.hid hb1
  clear hB hb1 hC
  go_upto_region 4 with fail
  generalize w1.alloc (.cells #[.int .i64 y', .int .i64 m', .int .i64 d', .int .i64 a', .int .i64 b', .int .i64 c'] 87) = w2 at *
  generalize w1.heap.size = R at *
  have hbs : Hid (Blk (w2.alloc (.cells #[.int .i64 (y' / 100), .int .i64 (y' % 100)] 3)) w2.heap.size 3 ([y' / 100, y' % 100].map fun z => .int .i64 z)) := Blk.new w2 [.int .i64 (y' / 100), .int .i64 (y' % 100)] 3
  go_wp2_with fail
  refine (hP2.out [] _ _ _ _ (by simp) (by omega) (by omega) hbs.out).mono ?_
  rintro e w3 ⟨rfl, hB3⟩
  have Hb3 := Lib.hid ((Hb1.out.alloc (.cells #[.int .i64 (y' / 100), .int .i64 (y' % 100)] 3)).below hB3)
  have HB3 := Lib.hid ((HB1.out.alloc HB1.out.size (.cells #[.int .i64 (y' / 100), .int .i64 (y' % 100)] 3)).trans (hB3.mono (by have := HB1.out.size; simp; omega)))
  clear hB3 c0 c1 c2 c3 c4 c5 Hb1 HB1 hbs
  obtain ⟨Y, hY⟩ : ∃ Y, Y = prK [] [y' / 100, y' % 100] 2 := ⟨_, rfl⟩
  have HY := Lib.hid hY
  rw [← hY]
  have hYl : Y.length ≤ 100 := by rw [hY]; simp [prK, tw]
  clear hY
  go_upto_region 5 with fail
  have CEL : Hid (∀ W : World, Below w3.heap.size w3 W → W.cell? ⟨R, 1, none⟩ = some (.int .i64 m') ∧ W.cell? ⟨R, 2, none⟩ = some (.int .i64 d') ∧ W.cell? ⟨R, 3, none⟩ = some (.int .i64 a') ∧ W.cell? ⟨R, 4, none⟩ = some (.int .i64 b') ∧ W.cell? ⟨R, 5, none⟩ = some (.int .i64 c')) := by
    intro W hW
    obtain ⟨_, e1, e2, e3, e4, e5⟩ := (Hb3.out.below hW).six
    exact ⟨e1, e2, e3, e4, e5⟩
  have l1 : (prK [45] [m', d'] 2).length ≤ 100 := by simp [prK, tw]
  have l2 : (prK [58] [a', b', c'] 3).length ≤ 100 := by simp [prK, tw]
  have FIN : Hid ((⟨Y.toArray⟩ : ByteArray) ++ ⟨#[45]⟩ ++ ⟨(prK [45] [m', d'] 2).toArray⟩ ++ ⟨#[84]⟩ ++ ⟨(prK [58] [a', b', c'] 3).toArray⟩ ++ ⟨#[90]⟩ = ⟨(txtB y' m' d' a' b' c').toArray⟩) := by
    unfold Hid
    rw [HY.out]
    apply ByteArray.ext
    simp [txtB, prK]
  generalize hA : prK [45] [m', d'] 2 = YA at *
  generalize hBB : prK [58] [a', b', c'] 3 = YB at *
  have y1 : ¬ 9223372036854775807 < Y.length + 1 := by omega
  have y2 : ¬ 9223372036854775807 < Y.length + 1 + YA.length := by omega
  have y3 : ¬ 9223372036854775807 < Y.length + 1 + YA.length + 1 := by omega
  have y4 : ¬ 9223372036854775807 < Y.length + 1 + YA.length + 1 + YB.length := by omega
  have y5 : ¬ 9223372036854775807 < Y.length + 1 + YA.length + 1 + YB.length + 1 := by omega
  refine wp_region_held_drew (S := fun w' => w'.cell? ⟨R, 1, none⟩ = some (.int .i64 m') ∧ w'.cell? ⟨R, 2, none⟩ = some (.int .i64 d') ∧ w'.cell? ⟨R, 3, none⟩ = some (.int .i64 a') ∧ w'.cell? ⟨R, 4, none⟩ = some (.int .i64 b') ∧ w'.cell? ⟨R, 5, none⟩ = some (.int .i64 c')) (by kernel_rfl) ?hb0 (fun hHeld => ?_)
  case hb0 => (try dsimp only); exact CEL.out _ (below_drewN (Below.refl _ _) 1)
  refine wpAnyH_take (i := 0) (v := ?qv0) rfl (by kernel_rfl) (by kernel_rfl) (by kernel_rfl) (fun _ _ _ h => h) (Or.inl ⟨by kernel_rfl, ?qy0⟩) (by assumption) ?_
  case qy0 => (intro w hSw; (try dsimp only at hSw); go_simp) <;> (try with_reducible rfl)
  try simp only [Act.put, List.setIfInBounds_toArray, List.set_cons_zero, List.set_cons_succ, List.getElem_toArray, List.getElem_cons_succ, List.getElem_cons_zero]
  refine wpAnyH_take (i := 1) (v := ?qv1) rfl (by kernel_rfl) (by kernel_rfl) (by kernel_rfl) (fun _ _ _ h => h) (Or.inl ⟨by kernel_rfl, ?qy1⟩) (by assumption) ?_
  case qy1 => (intro w hSw; (try dsimp only at hSw); go_simp) <;> (try with_reducible rfl)
  try simp only [Act.put, List.setIfInBounds_toArray, List.set_cons_zero, List.set_cons_succ, List.getElem_toArray, List.getElem_cons_succ, List.getElem_cons_zero]
  refine wpAnyH_take (i := 2) (v := ?qv2) rfl (by kernel_rfl) (by kernel_rfl) (by kernel_rfl) (fun _ _ _ h => h) (Or.inl ⟨by kernel_rfl, ?qy2⟩) (by assumption) ?_
  case qy2 => (intro w hSw; (try dsimp only at hSw); go_simp) <;> (try with_reducible rfl)
  try simp only [Act.put, List.setIfInBounds_toArray, List.set_cons_zero, List.set_cons_succ, List.getElem_toArray, List.getElem_cons_succ, List.getElem_cons_zero]
  refine wpAnyH_take (i := 3) (v := ?qv3) rfl (by kernel_rfl) (by kernel_rfl) (by kernel_rfl) (fun _ _ _ h => h) (Or.inl ⟨by kernel_rfl, ?qy3⟩) (by assumption) ?_
  case qy3 => (intro w hSw; (try dsimp only at hSw); go_simp) <;> (try with_reducible rfl)
  try simp only [Act.put, List.setIfInBounds_toArray, List.set_cons_zero, List.set_cons_succ, List.getElem_toArray, List.getElem_cons_succ, List.getElem_cons_zero]
  refine wpAnyH_take (i := 4) (v := ?qv4) rfl (by kernel_rfl) (by kernel_rfl) (by kernel_rfl) (fun _ _ _ h => h) (Or.inl ⟨by kernel_rfl, ?qy4⟩) (by assumption) ?_
  case qy4 => (intro w hSw; (try dsimp only at hSw); go_simp) <;> (try with_reducible rfl)
  try simp only [Act.put, List.setIfInBounds_toArray, List.set_cons_zero, List.set_cons_succ, List.getElem_toArray, List.getElem_cons_succ, List.getElem_cons_zero]
  refine wpAnyH_take (i := 5) (v := ?qv5) rfl (by kernel_rfl) (by kernel_rfl) (by kernel_rfl) (fun _ _ _ h => h) (Or.inl ⟨by kernel_rfl, ?qy5⟩) (by assumption) ?_
  case qy5 => (intro w hSw; (try dsimp only at hSw); go_simp) <;> (try with_reducible rfl)
  try simp only [Act.put, List.setIfInBounds_toArray, List.set_cons_zero, List.set_cons_succ, List.getElem_toArray, List.getElem_cons_succ, List.getElem_cons_zero]
  refine wpAnyH_take (i := 6) (v := ?qv6) rfl (by kernel_rfl) (by kernel_rfl) (by kernel_rfl) (fun _ _ _ h => h) (Or.inl ⟨by kernel_rfl, ?qy6⟩) (by assumption) ?_
  case qy6 => (intro w hSw; (try dsimp only at hSw); go_simp) <;> (try with_reducible rfl)
  try simp only [Act.put, List.setIfInBounds_toArray, List.set_cons_zero, List.set_cons_succ, List.getElem_toArray, List.getElem_cons_succ, List.getElem_cons_zero]
  refine wpAnyH_take (i := 7) (v := ?qv7) rfl (by kernel_rfl) (by kernel_rfl) (by kernel_rfl) (fun _ _ _ h => h) (Or.inl ⟨by kernel_rfl, ?qy7⟩) (by assumption) ?_
  case qy7 => (intro w hSw; (try dsimp only at hSw); go_simp) <;> (try with_reducible rfl)
  try simp only [Act.put, List.setIfInBounds_toArray, List.set_cons_zero, List.set_cons_succ, List.getElem_toArray, List.getElem_cons_succ, List.getElem_cons_zero]
  refine wpAnyH_take (i := 12) (v := ?qv12) rfl (by kernel_rfl) (by kernel_rfl) (by kernel_rfl) (fun _ _ _ h => h) (Or.inl ⟨by kernel_rfl, ?qy12⟩) (by assumption) ?_
  case qy12 => (intro w hSw; (try dsimp only at hSw); go_simp) <;> (try with_reducible rfl)
  try simp only [Act.put, List.setIfInBounds_toArray, List.set_cons_zero, List.set_cons_succ, List.getElem_toArray, List.getElem_cons_succ, List.getElem_cons_zero]
  refine wpAnyH_take (i := 13) (v := ?qv13) rfl (by kernel_rfl) (by kernel_rfl) (by kernel_rfl) (fun _ _ _ h => h) (Or.inl ⟨by kernel_rfl, ?qy13⟩) (by assumption) ?_
  case qy13 => (intro w hSw; (try dsimp only at hSw); go_simp) <;> (try with_reducible rfl)
  try simp only [Act.put, List.setIfInBounds_toArray, List.set_cons_zero, List.set_cons_succ, List.getElem_toArray, List.getElem_cons_succ, List.getElem_cons_zero]
  refine wpAnyH_take (i := 14) (v := ?qv14) rfl (by kernel_rfl) (by kernel_rfl) (by kernel_rfl) (fun _ _ _ h => h) (Or.inl ⟨by kernel_rfl, ?qy14⟩) (by assumption) ?_
  case qy14 => (intro w hSw; (try dsimp only at hSw); go_simp) <;> (try with_reducible rfl)
  try simp only [Act.put, List.setIfInBounds_toArray, List.set_cons_zero, List.set_cons_succ, List.getElem_toArray, List.getElem_cons_succ, List.getElem_cons_zero]
  refine wpAnyH_take (i := 15) (v := ?qv15) rfl (by kernel_rfl) (by kernel_rfl) (by kernel_rfl) (fun _ _ _ h => h) (Or.inl ⟨by kernel_rfl, ?qy15⟩) (by assumption) ?_
  case qy15 => (intro w hSw; (try dsimp only at hSw); go_simp) <;> (try with_reducible rfl)
  try simp only [Act.put, List.setIfInBounds_toArray, List.set_cons_zero, List.set_cons_succ, List.getElem_toArray, List.getElem_cons_succ, List.getElem_cons_zero]
  refine wpAnyH_take (i := 16) (v := ?qv16) rfl (by kernel_rfl) (by kernel_rfl) (by kernel_rfl) (fun _ _ _ h => h) (Or.inl ⟨by kernel_rfl, ?qy16⟩) (by assumption) ?_
  case qy16 => (intro w hSw; (try dsimp only at hSw); go_simp) <;> (try with_reducible rfl)
  try simp only [Act.put, List.setIfInBounds_toArray, List.set_cons_zero, List.set_cons_succ, List.getElem_toArray, List.getElem_cons_succ, List.getElem_cons_zero]
  refine wpAnyH_take (i := 17) (v := ?qv17) rfl (by kernel_rfl) (by kernel_rfl) (by kernel_rfl) (fun _ _ _ h => h) (Or.inl ⟨by kernel_rfl, ?qy17⟩) (by assumption) ?_
  case qy17 => (intro w hSw; (try dsimp only at hSw); go_simp) <;> (try with_reducible rfl)
  try simp only [Act.put, List.setIfInBounds_toArray, List.set_cons_zero, List.set_cons_succ, List.getElem_toArray, List.getElem_cons_succ, List.getElem_cons_zero]
  refine wpAnyH_ready (rs := [8, 18]) (by kernel_rfl) (by simp) ?_
  refine AllReadyH.cons rfl (fun K hK => ?_) (AllReadyH.cons rfl (fun K hK => ?_) (AllReadyH.nil))
  · go_simp
    refine hK.out _ _ ?hs8a (fun hHeld => ?_)
    case hs8a => (try dsimp only); exact CEL.out _ (below_drewN (below_alloc1 w3 _) 1)
    clear hK K
    try simp only [Act.put, List.setIfInBounds_toArray, List.set_cons_zero, List.set_cons_succ, List.getElem_toArray, List.getElem_cons_succ, List.getElem_cons_zero]
    refine wpAnyH_ready (rs := [9, 18]) (by kernel_rfl) (by simp) ?_
    refine AllReadyH.cons rfl (fun K hK => ?_) (AllReadyH.cons rfl (fun K hK => ?_) (AllReadyH.nil))
    · go_simp
      refine (hP2.out [45] _ m' d' _ (by simp) (by omega) (by omega) ((Blk.new w3 [.int .i64 m', .int .i64 d'] 3).drew)).mono ?_
      rintro e w4 ⟨rfl, hB4⟩
      have hA4 : Below w3.heap.size w3 w4 := (below_drewN (below_alloc1 w3 (.cells #[.int .i64 m', .int .i64 d'] 3)) 1).trans (hB4.mono (by simp))
      refine hK.out _ _ ?hs9w8a (fun hHeld => ?_)
      case hs9w8a => (try dsimp only); exact CEL.out _ (hA4)
      clear hK K
      try simp only [Act.put, List.setIfInBounds_toArray, List.set_cons_zero, List.set_cons_succ, List.getElem_toArray, List.getElem_cons_succ, List.getElem_cons_zero]
      refine wpAnyH_take (i := 10) (v := ?qv10w8w9) rfl (by kernel_rfl) (by kernel_rfl) (by kernel_rfl) (fun _ _ _ h => h) (Or.inl ⟨by kernel_rfl, ?qy10w8w9⟩) (by assumption) ?_
      case qy10w8w9 => (intro w hSw; (try dsimp only at hSw); go_simp) <;> (try with_reducible rfl)
      try simp only [Act.put, List.setIfInBounds_toArray, List.set_cons_zero, List.set_cons_succ, List.getElem_toArray, List.getElem_cons_succ, List.getElem_cons_zero]
      refine wpAnyH_take (i := 11) (v := ?qv11w8w9) rfl (by kernel_rfl) (by kernel_rfl) (by kernel_rfl) (fun _ _ _ h => h) (Or.inl ⟨by kernel_rfl, ?qy11w8w9⟩) (by assumption) ?_
      case qy11w8w9 => (intro w hSw; (try dsimp only at hSw); go_simp) <;> (try with_reducible rfl)
      try simp only [Act.put, List.setIfInBounds_toArray, List.set_cons_zero, List.set_cons_succ, List.getElem_toArray, List.getElem_cons_succ, List.getElem_cons_zero]
      refine wpAnyH_ready (rs := [18]) (by kernel_rfl) (by simp) ?_
      refine AllReadyH.cons rfl (fun K hK => ?_) AllReadyH.nil
      go_simp
      refine hK.out _ _ ?hs18w8w9a (fun hHeld => ?_)
      case hs18w8w9a => (try dsimp only); exact CEL.out _ (hA4.alloc hA4.size _)
      clear hK K
      try simp only [Act.put, List.setIfInBounds_toArray, List.set_cons_zero, List.set_cons_succ, List.getElem_toArray, List.getElem_cons_succ, List.getElem_cons_zero]
      refine wpAnyH_ready (rs := [19]) (by kernel_rfl) (by simp) ?_
      refine AllReadyH.cons rfl (fun K hK => ?_) AllReadyH.nil
      go_simp
      refine (hP3.out [58] _ a' b' c' _ (by simp) (by omega) (by omega) (by omega) (Blk.new w4 [.int .i64 a', .int .i64 b', .int .i64 c'] 3)).mono ?_
      rintro e w5 ⟨rfl, hB5⟩
      have hA5 : Below w3.heap.size w3 w5 := (hA4.alloc hA4.size _).trans (hB5.mono (by have := hA4.size; simp; omega))
      refine hK.out _ _ ?hs19w8w9a (fun hHeld => ?_)
      case hs19w8w9a => (try dsimp only); exact CEL.out _ (hA5)
      clear hK K
      try simp only [Act.put, List.setIfInBounds_toArray, List.set_cons_zero, List.set_cons_succ, List.getElem_toArray, List.getElem_cons_succ, List.getElem_cons_zero]
      refine wpAnyH_take (i := 20) (v := ?qv20w8w9) rfl (by kernel_rfl) (by kernel_rfl) (by kernel_rfl) (fun _ _ _ h => h) (Or.inl ⟨by kernel_rfl, ?qy20w8w9⟩) (by assumption) ?_
      case qy20w8w9 => (intro w hSw; (try dsimp only at hSw); go_simp) <;> (try with_reducible rfl)
      try simp only [Act.put, List.setIfInBounds_toArray, List.set_cons_zero, List.set_cons_succ, List.getElem_toArray, List.getElem_cons_succ, List.getElem_cons_zero]
      refine wpAnyH_take (i := 21) (v := ?qv21w8w9) rfl (by kernel_rfl) (by kernel_rfl) (by kernel_rfl) (fun _ _ _ h => h) (Or.inl ⟨by kernel_rfl, ?qy21w8w9⟩) (by assumption) ?_
      case qy21w8w9 => (intro w hSw; (try dsimp only at hSw); go_simp) <;> (try with_reducible rfl)
      try simp only [Act.put, List.setIfInBounds_toArray, List.set_cons_zero, List.set_cons_succ, List.getElem_toArray, List.getElem_cons_succ, List.getElem_cons_zero]
      refine wpAnyH_take (i := 22) (v := ?qv22w8w9) rfl (by kernel_rfl) (by kernel_rfl) (by kernel_rfl) (fun _ _ _ h => h) (Or.inl ⟨by kernel_rfl, ?qy22w8w9⟩) (by assumption) ?_
      case qy22w8w9 => (intro w hSw; (try dsimp only at hSw); go_simp) <;> (try with_reducible rfl)
      try simp only [Act.put, List.setIfInBounds_toArray, List.set_cons_zero, List.set_cons_succ, List.getElem_toArray, List.getElem_cons_succ, List.getElem_cons_zero]
      refine wpAnyH_take (i := 23) (v := ?qv23w8w9) rfl (by kernel_rfl) (by kernel_rfl) (by kernel_rfl) (fun _ _ _ h => h) (Or.inl ⟨by kernel_rfl, ?qy23w8w9⟩) (by assumption) ?_
      case qy23w8w9 => (intro w hSw; (try dsimp only at hSw); go_simp) <;> (try with_reducible rfl)
      try simp only [Act.put, List.setIfInBounds_toArray, List.set_cons_zero, List.set_cons_succ, List.getElem_toArray, List.getElem_cons_succ, List.getElem_cons_zero]
      refine wpAnyH_done (by kernel_rfl) ?_ _
      go_wp2
      go_ret2
      exact ⟨by rw [← FIN.out]; rfl, HB3.out.trans ((hA5).mono HB3.out.size)⟩
    · go_simp
      refine hK.out _ _ ?hs18w8a (fun hHeld => ?_)
      case hs18w8a => (try dsimp only); exact CEL.out _ (below_drewN (below_alloc2 w3 (.cells #[.int .i64 m', .int .i64 d'] 3) (.cells #[.int .i64 a', .int .i64 b', .int .i64 c'] 3)) 1)
      clear hK K
      try simp only [Act.put, List.setIfInBounds_toArray, List.set_cons_zero, List.set_cons_succ, List.getElem_toArray, List.getElem_cons_succ, List.getElem_cons_zero]
      refine wpAnyH_ready (rs := [9]) (by kernel_rfl) (by simp) ?_
      refine AllReadyH.cons rfl (fun K hK => ?_) AllReadyH.nil
      go_simp
      refine (hP2.out [45] _ m' d' _ (by simp) (by omega) (by omega) (((Blk.new w3 [.int .i64 m', .int .i64 d'] 3).alloc (.cells #[.int .i64 a', .int .i64 b', .int .i64 c'] 3)).drew)).mono ?_
      rintro e w4 ⟨rfl, hB4⟩
      have hA4 : Below w3.heap.size w3 w4 := (below_drewN (below_alloc2 w3 (.cells #[.int .i64 m', .int .i64 d'] 3) (.cells #[.int .i64 a', .int .i64 b', .int .i64 c'] 3)) 1).trans (hB4.mono (by simp; omega))
      refine hK.out _ _ ?hs9w8w18a (fun hHeld => ?_)
      case hs9w8w18a => (try dsimp only); exact CEL.out _ (hA4)
      clear hK K
      try simp only [Act.put, List.setIfInBounds_toArray, List.set_cons_zero, List.set_cons_succ, List.getElem_toArray, List.getElem_cons_succ, List.getElem_cons_zero]
      refine wpAnyH_take (i := 10) (v := ?qv10w8w18) rfl (by kernel_rfl) (by kernel_rfl) (by kernel_rfl) (fun _ _ _ h => h) (Or.inl ⟨by kernel_rfl, ?qy10w8w18⟩) (by assumption) ?_
      case qy10w8w18 => (intro w hSw; (try dsimp only at hSw); go_simp) <;> (try with_reducible rfl)
      try simp only [Act.put, List.setIfInBounds_toArray, List.set_cons_zero, List.set_cons_succ, List.getElem_toArray, List.getElem_cons_succ, List.getElem_cons_zero]
      refine wpAnyH_take (i := 11) (v := ?qv11w8w18) rfl (by kernel_rfl) (by kernel_rfl) (by kernel_rfl) (fun _ _ _ h => h) (Or.inl ⟨by kernel_rfl, ?qy11w8w18⟩) (by assumption) ?_
      case qy11w8w18 => (intro w hSw; (try dsimp only at hSw); go_simp) <;> (try with_reducible rfl)
      try simp only [Act.put, List.setIfInBounds_toArray, List.set_cons_zero, List.set_cons_succ, List.getElem_toArray, List.getElem_cons_succ, List.getElem_cons_zero]
      refine wpAnyH_ready (rs := [19]) (by kernel_rfl) (by simp) ?_
      refine AllReadyH.cons rfl (fun K hK => ?_) AllReadyH.nil
      go_simp
      refine (hP3.out [58] _ a' b' c' _ (by simp) (by omega) (by omega) (by omega) (Blk.below (w := ((w3.alloc (.cells #[.int .i64 m', .int .i64 d'] 3)).alloc (.cells #[.int .i64 a', .int .i64 b', .int .i64 c'] 3)).drew) (by have h9 := Blk.new (w3.alloc (.cells #[.int .i64 m', .int .i64 d'] 3)) [.int .i64 a', .int .i64 b', .int .i64 c'] 3; rw [World.size_alloc] at h9; exact h9.drew) hB4)).mono ?_
      rintro e w5 ⟨rfl, hB5⟩
      have hA5 : Below w3.heap.size w3 w5 := hA4.trans (hB5.mono hA4.size)
      refine hK.out _ _ ?hs19w8w18a (fun hHeld => ?_)
      case hs19w8w18a => (try dsimp only); exact CEL.out _ (hA5)
      clear hK K
      try simp only [Act.put, List.setIfInBounds_toArray, List.set_cons_zero, List.set_cons_succ, List.getElem_toArray, List.getElem_cons_succ, List.getElem_cons_zero]
      refine wpAnyH_take (i := 20) (v := ?qv20w8w18) rfl (by kernel_rfl) (by kernel_rfl) (by kernel_rfl) (fun _ _ _ h => h) (Or.inl ⟨by kernel_rfl, ?qy20w8w18⟩) (by assumption) ?_
      case qy20w8w18 => (intro w hSw; (try dsimp only at hSw); go_simp) <;> (try with_reducible rfl)
      try simp only [Act.put, List.setIfInBounds_toArray, List.set_cons_zero, List.set_cons_succ, List.getElem_toArray, List.getElem_cons_succ, List.getElem_cons_zero]
      refine wpAnyH_take (i := 21) (v := ?qv21w8w18) rfl (by kernel_rfl) (by kernel_rfl) (by kernel_rfl) (fun _ _ _ h => h) (Or.inl ⟨by kernel_rfl, ?qy21w8w18⟩) (by assumption) ?_
      case qy21w8w18 => (intro w hSw; (try dsimp only at hSw); go_simp) <;> (try with_reducible rfl)
      try simp only [Act.put, List.setIfInBounds_toArray, List.set_cons_zero, List.set_cons_succ, List.getElem_toArray, List.getElem_cons_succ, List.getElem_cons_zero]
      refine wpAnyH_take (i := 22) (v := ?qv22w8w18) rfl (by kernel_rfl) (by kernel_rfl) (by kernel_rfl) (fun _ _ _ h => h) (Or.inl ⟨by kernel_rfl, ?qy22w8w18⟩) (by assumption) ?_
      case qy22w8w18 => (intro w hSw; (try dsimp only at hSw); go_simp) <;> (try with_reducible rfl)
      try simp only [Act.put, List.setIfInBounds_toArray, List.set_cons_zero, List.set_cons_succ, List.getElem_toArray, List.getElem_cons_succ, List.getElem_cons_zero]
      refine wpAnyH_take (i := 23) (v := ?qv23w8w18) rfl (by kernel_rfl) (by kernel_rfl) (by kernel_rfl) (fun _ _ _ h => h) (Or.inl ⟨by kernel_rfl, ?qy23w8w18⟩) (by assumption) ?_
      case qy23w8w18 => (intro w hSw; (try dsimp only at hSw); go_simp) <;> (try with_reducible rfl)
      try simp only [Act.put, List.setIfInBounds_toArray, List.set_cons_zero, List.set_cons_succ, List.getElem_toArray, List.getElem_cons_succ, List.getElem_cons_zero]
      refine wpAnyH_done (by kernel_rfl) ?_ _
      go_wp2
      go_ret2
      exact ⟨by rw [← FIN.out]; rfl, HB3.out.trans ((hA5).mono HB3.out.size)⟩
  · go_simp
    refine hK.out _ _ ?hs18a (fun hHeld => ?_)
    case hs18a => (try dsimp only); exact CEL.out _ (below_drewN (below_alloc1 w3 _) 1)
    clear hK K
    try simp only [Act.put, List.setIfInBounds_toArray, List.set_cons_zero, List.set_cons_succ, List.getElem_toArray, List.getElem_cons_succ, List.getElem_cons_zero]
    refine wpAnyH_ready (rs := [8]) (by kernel_rfl) (by simp) ?_
    refine AllReadyH.cons rfl (fun K hK => ?_) AllReadyH.nil
    go_simp
    refine hK.out _ _ ?hs8w18a (fun hHeld => ?_)
    case hs8w18a => (try dsimp only); exact CEL.out _ (below_drewN (below_alloc2 w3 (.cells #[.int .i64 a', .int .i64 b', .int .i64 c'] 3) (.cells #[.int .i64 m', .int .i64 d'] 3)) 1)
    clear hK K
    try simp only [Act.put, List.setIfInBounds_toArray, List.set_cons_zero, List.set_cons_succ, List.getElem_toArray, List.getElem_cons_succ, List.getElem_cons_zero]
    refine wpAnyH_ready (rs := [9]) (by kernel_rfl) (by simp) ?_
    refine AllReadyH.cons rfl (fun K hK => ?_) AllReadyH.nil
    go_simp
    refine (hP2.out [45] _ m' d' _ (by simp) (by omega) (by omega) (by have h9 := Blk.new (w3.alloc (.cells #[.int .i64 a', .int .i64 b', .int .i64 c'] 3)) [.int .i64 m', .int .i64 d'] 3; rw [World.size_alloc] at h9; exact h9.drew)).mono ?_
    rintro e w4 ⟨rfl, hB4⟩
    have hA4 : Below w3.heap.size w3 w4 := (below_drewN (below_alloc2 w3 (.cells #[.int .i64 a', .int .i64 b', .int .i64 c'] 3) (.cells #[.int .i64 m', .int .i64 d'] 3)) 1).trans (hB4.mono (by simp; omega))
    refine hK.out _ _ ?hs9w18a (fun hHeld => ?_)
    case hs9w18a => (try dsimp only); exact CEL.out _ (hA4)
    clear hK K
    try simp only [Act.put, List.setIfInBounds_toArray, List.set_cons_zero, List.set_cons_succ, List.getElem_toArray, List.getElem_cons_succ, List.getElem_cons_zero]
    refine wpAnyH_take (i := 10) (v := ?qv10w18) rfl (by kernel_rfl) (by kernel_rfl) (by kernel_rfl) (fun _ _ _ h => h) (Or.inl ⟨by kernel_rfl, ?qy10w18⟩) (by assumption) ?_
    case qy10w18 => (intro w hSw; (try dsimp only at hSw); go_simp) <;> (try with_reducible rfl)
    try simp only [Act.put, List.setIfInBounds_toArray, List.set_cons_zero, List.set_cons_succ, List.getElem_toArray, List.getElem_cons_succ, List.getElem_cons_zero]
    refine wpAnyH_take (i := 11) (v := ?qv11w18) rfl (by kernel_rfl) (by kernel_rfl) (by kernel_rfl) (fun _ _ _ h => h) (Or.inl ⟨by kernel_rfl, ?qy11w18⟩) (by assumption) ?_
    case qy11w18 => (intro w hSw; (try dsimp only at hSw); go_simp) <;> (try with_reducible rfl)
    try simp only [Act.put, List.setIfInBounds_toArray, List.set_cons_zero, List.set_cons_succ, List.getElem_toArray, List.getElem_cons_succ, List.getElem_cons_zero]
    refine wpAnyH_ready (rs := [19]) (by kernel_rfl) (by simp) ?_
    refine AllReadyH.cons rfl (fun K hK => ?_) AllReadyH.nil
    go_simp
    refine (hP3.out [58] _ a' b' c' _ (by simp) (by omega) (by omega) (by omega) (Blk.below (w := ((w3.alloc (.cells #[.int .i64 a', .int .i64 b', .int .i64 c'] 3)).alloc (.cells #[.int .i64 m', .int .i64 d'] 3)).drew) (((Blk.new w3 [.int .i64 a', .int .i64 b', .int .i64 c'] 3).alloc (.cells #[.int .i64 m', .int .i64 d'] 3)).drew) hB4)).mono ?_
    rintro e w5 ⟨rfl, hB5⟩
    have hA5 : Below w3.heap.size w3 w5 := hA4.trans (hB5.mono hA4.size)
    refine hK.out _ _ ?hs19w18a (fun hHeld => ?_)
    case hs19w18a => (try dsimp only); exact CEL.out _ (hA5)
    clear hK K
    try simp only [Act.put, List.setIfInBounds_toArray, List.set_cons_zero, List.set_cons_succ, List.getElem_toArray, List.getElem_cons_succ, List.getElem_cons_zero]
    refine wpAnyH_take (i := 20) (v := ?qv20w18) rfl (by kernel_rfl) (by kernel_rfl) (by kernel_rfl) (fun _ _ _ h => h) (Or.inl ⟨by kernel_rfl, ?qy20w18⟩) (by assumption) ?_
    case qy20w18 => (intro w hSw; (try dsimp only at hSw); go_simp) <;> (try with_reducible rfl)
    try simp only [Act.put, List.setIfInBounds_toArray, List.set_cons_zero, List.set_cons_succ, List.getElem_toArray, List.getElem_cons_succ, List.getElem_cons_zero]
    refine wpAnyH_take (i := 21) (v := ?qv21w18) rfl (by kernel_rfl) (by kernel_rfl) (by kernel_rfl) (fun _ _ _ h => h) (Or.inl ⟨by kernel_rfl, ?qy21w18⟩) (by assumption) ?_
    case qy21w18 => (intro w hSw; (try dsimp only at hSw); go_simp) <;> (try with_reducible rfl)
    try simp only [Act.put, List.setIfInBounds_toArray, List.set_cons_zero, List.set_cons_succ, List.getElem_toArray, List.getElem_cons_succ, List.getElem_cons_zero]
    refine wpAnyH_take (i := 22) (v := ?qv22w18) rfl (by kernel_rfl) (by kernel_rfl) (by kernel_rfl) (fun _ _ _ h => h) (Or.inl ⟨by kernel_rfl, ?qy22w18⟩) (by assumption) ?_
    case qy22w18 => (intro w hSw; (try dsimp only at hSw); go_simp) <;> (try with_reducible rfl)
    try simp only [Act.put, List.setIfInBounds_toArray, List.set_cons_zero, List.set_cons_succ, List.getElem_toArray, List.getElem_cons_succ, List.getElem_cons_zero]
    refine wpAnyH_take (i := 23) (v := ?qv23w18) rfl (by kernel_rfl) (by kernel_rfl) (by kernel_rfl) (fun _ _ _ h => h) (Or.inl ⟨by kernel_rfl, ?qy23w18⟩) (by assumption) ?_
    case qy23w18 => (intro w hSw; (try dsimp only at hSw); go_simp) <;> (try with_reducible rfl)
    try simp only [Act.put, List.setIfInBounds_toArray, List.set_cons_zero, List.set_cons_succ, List.getElem_toArray, List.getElem_cons_succ, List.getElem_cons_zero]
    refine wpAnyH_done (by kernel_rfl) ?_ _
    go_wp2
    go_ret2
    exact ⟨by rw [← FIN.out]; rfl, HB3.out.trans ((hA5).mono HB3.out.size)⟩
end Go.Proofs.YtepbjjhidemaiaaGreat
