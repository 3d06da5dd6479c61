/-
  The contracts of layer 5: Parse of the project and of the reference.
-/
import Derived.Test.YtjcddbcokiaehaaBj
namespace Go.Proofs.Ytjcddbcokiaehaa
open Go.RowKit
set_option linter.unusedVariables false
set_option linter.unusedSimpArgs false
set_option maxRecDepth 4000

theorem prsS_cons {b : List UInt8} (h : b.length ≠ 0) : prsS b = if rightS (nth b 0) (b.drop 1) = true then some (nth b 0, b.drop 1) else none := by
  match b, h with
  | x :: r, _ => rfl
theorem prsS_nil {b : List UInt8} (h : b.length = 0) : prsS b = none := by
  have : b = [] := List.eq_nil_of_length_eq_zero h
  subst this; rfl

set_option maxHeartbeats 1600000 in
theorem btParseA (A : Option Addr) (n c : Nat) (l : List UInt8) (w : World) (h : Bs w A n l) (hc : n ≤ c) (hn : n ≤ 1099511627) (h0 : l.length ≠ 0) (hr : rightS (nth l 0) (l.drop 1) = true) :
    Calls Try.prog 21 #[.slice A n c] w fun e w' => ∃ A' m' c', e = .returned (.tuple #[.agg #[.int .i64 (nth l 0), .slice A' m' c'], .int .i64 0]) ∧ Ob w' w.heap.size 5 (.slice A' m' c') (l.drop 1) ∧ Below w.heap.size w w' := by
  have hl := h.len
  have n1 : 1 ≤ n := by omega
  have n0 : ((n : Int) == 0) = false := by simp; omega
  have n2 : (0 : Int) < n := by omega
  have n3 : (1 : Int) ≤ c := by omega
  have n4 : 0 < n := by omega
  have hb0 := nth_bound l 0
  obtain ⟨A', hrun, hbs⟩ := cutB A n c 1 n1 hc
  have hrun' : ∀ (W : World), (Instr.slice 22 (.slice A n c) (some (.int .i64 1)) none none).run Try.prog W = .ok (.slice A' (n - 1) (c - 1)) W := hrun
  have hT := hbs w l h
  obtain ⟨b, o, rfl, hcw⟩ := h.at_ (k := 0) (by omega)
  rw [Nat.add_zero] at hcw
  have hP := Blk.new2 w (.int .i64 0) (.slice none 0 0) 25
  have hB := below_alloc1 w (.cells #[.int .i64 0, .slice none 0 0] 25)
  have hc0 := (hB.cell (World.block_lt_of_cell? _ _ hcw)).trans hcw
  have hT0 := hT.below hB
  have hbl := World.block_lt_of_cell? _ _ hcw
  have hwr : IntKind.i64.wrap (nth l 0) = nth l 0 := by simp [IntKind.wrap, IntKind.bits, IntKind.signed]; omega
  generalize hu : nth l 0 = u at *
  generalize l.drop 1 = t at *
  clear hu hl hrun hbs h hcw hT
  go_enter Try.func21, Try.ntmps21
  go_upto_region 3 with (fail)
  generalize (w.alloc (Obj.cells #[.int .i64 0, .slice none 0 0] 25)) = W0 at *
  have hc := hc0
  have hcA : (W0.alloc (.cells #[.int .i64 0, .slice none 0 0] 25)).cell? ⟨b, o, none⟩ = some (.int .u8 u) := ((below_alloc1 W0 _).cell (World.block_lt_of_cell? _ _ hc0)).trans hc0
  have hcB : (W0.alloc (.cells #[.int .i64 u, .slice A' (n - 1) (c - 1)] 25)).cell? ⟨b, o, none⟩ = some (.int .u8 u) := ((below_alloc1 W0 _).cell (World.block_lt_of_cell? _ _ hc0)).trans hc0
  refine wp_region_held_drew (S := fun w' => w'.cell? ⟨b, o, none⟩ = some (.int .u8 u)) (by kernel_rfl) ?hb0 (fun hHeld => ?_)
  case hb0 => (try dsimp only); exact hc
  refine wpAnyH_take (i := 0) (v := ?qv0) rfl (by kernel_rfl) (by kernel_rfl) (by kernel_rfl) (fun _ _ _ h => h) (Or.inl ⟨by kernel_rfl, ?qy0⟩) (by assumption) ?_
  case qy0 => (intro w hSw; (try dsimp only at hSw); go_simp) <;> (try with_reducible rfl)
  try simp only [Act.put, List.setIfInBounds_toArray, List.set_cons_zero, List.set_cons_succ, List.getElem_toArray, List.getElem_cons_succ, List.getElem_cons_zero]
  refine wpAnyH_take (i := 1) (v := ?qv1) rfl (by kernel_rfl) (by kernel_rfl) (by kernel_rfl) (fun _ _ _ h => h) (Or.inl ⟨by kernel_rfl, ?qy1⟩) (by assumption) ?_
  case qy1 => (intro w hSw; (try dsimp only at hSw); go_simp) <;> (try with_reducible rfl)
  try simp only [Act.put, List.setIfInBounds_toArray, List.set_cons_zero, List.set_cons_succ, List.getElem_toArray, List.getElem_cons_succ, List.getElem_cons_zero]
  refine wpAnyH_take (i := 2) (v := ?qv2) rfl (by kernel_rfl) (by kernel_rfl) (by kernel_rfl) (fun _ _ _ h => h) (Or.inl ⟨by kernel_rfl, ?qy2⟩) (by assumption) ?_
  case qy2 => (intro w hSw; (try dsimp only at hSw); go_simp) <;> (try with_reducible rfl)
  try simp only [Act.put, List.setIfInBounds_toArray, List.set_cons_zero, List.set_cons_succ, List.getElem_toArray, List.getElem_cons_succ, List.getElem_cons_zero]
  refine wpAnyH_take (i := 3) (v := ?qv3) rfl (by kernel_rfl) (by kernel_rfl) (by kernel_rfl) (fun _ _ _ h => h) (Or.inl ⟨by kernel_rfl, ?qy3⟩) (by assumption) ?_
  case qy3 => (intro w hSw; (try dsimp only at hSw); go_simp) <;> (try with_reducible rfl)
  try simp only [Act.put, List.setIfInBounds_toArray, List.set_cons_zero, List.set_cons_succ, List.getElem_toArray, List.getElem_cons_succ, List.getElem_cons_zero]
  refine wpAnyH_take (i := 4) (v := ?qv4) rfl (by kernel_rfl) (by kernel_rfl) (by kernel_rfl) (fun _ _ _ h => h) (Or.inl ⟨by kernel_rfl, ?qy4⟩) (by assumption) ?_
  case qy4 => (intro w hSw; (try dsimp only at hSw); go_simp) <;> (try with_reducible rfl)
  try simp only [Act.put, List.setIfInBounds_toArray, List.set_cons_zero, List.set_cons_succ, List.getElem_toArray, List.getElem_cons_succ, List.getElem_cons_zero]
  refine wpAnyH_take (i := 5) (v := ?qv5) rfl (by kernel_rfl) (by kernel_rfl) (by kernel_rfl) (fun _ _ _ h => h) (Or.inl ⟨by kernel_rfl, ?qy5⟩) (by assumption) ?_
  case qy5 => (intro w hSw; (try dsimp only at hSw); go_simp) <;> (try with_reducible rfl)
  try simp only [Act.put, List.setIfInBounds_toArray, List.set_cons_zero, List.set_cons_succ, List.getElem_toArray, List.getElem_cons_succ, List.getElem_cons_zero]
  refine wpAnyH_take (i := 6) (v := ?qv6) rfl (by kernel_rfl) (by kernel_rfl) (by kernel_rfl) (fun _ _ _ h => h) (Or.inl ⟨by kernel_rfl, ?qy6⟩) (by assumption) ?_
  case qy6 => (intro w hSw; (try dsimp only at hSw); go_simp) <;> (try with_reducible rfl)
  try simp only [Act.put, List.setIfInBounds_toArray, List.set_cons_zero, List.set_cons_succ, List.getElem_toArray, List.getElem_cons_succ, List.getElem_cons_zero]
  refine wpAnyH_ready (rs := [7]) (by kernel_rfl) (by simp) ?_
  refine AllReadyH.cons rfl (fun K hK => ?_) AllReadyH.nil
  go_simp
  refine hK.out _ _ ?hs7a (fun hHeld => ?_)
  case hs7a => (try dsimp only); exact hcA
  clear hK K
  try simp only [Act.put, List.setIfInBounds_toArray, List.set_cons_zero, List.set_cons_succ, List.getElem_toArray, List.getElem_cons_succ, List.getElem_cons_zero]
  refine wpAnyH_ready (rs := [8]) (by kernel_rfl) (by simp) ?_
  refine AllReadyH.cons rfl (fun K hK => ?_) AllReadyH.nil
  go_simp
  refine hK.out _ _ ?hs8a (fun hHeld => ?_)
  case hs8a => (try dsimp only); exact hcB
  clear hK K
  try simp only [Act.put, List.setIfInBounds_toArray, List.set_cons_zero, List.set_cons_succ, List.getElem_toArray, List.getElem_cons_succ, List.getElem_cons_zero]
  refine wpAnyH_done (by kernel_rfl) ?_ _
  have hP1 := hP.alloc (.cells #[.int .i64 u, .slice A' (n - 1) (c - 1)] 25)
  have hX := Blk.new2 W0 (.int .i64 u) (.slice A' (n - 1) (c - 1)) 25
  have hT1 := hT0.below (below_alloc1 W0 (.cells #[.int .i64 u, .slice A' (n - 1) (c - 1)] 25))
  have hB1 := hB.alloc hB.size (.cells #[.int .i64 u, .slice A' (n - 1) (c - 1)] 25)
  have hne : w.heap.size ≠ W0.heap.size := by have := hP.lt; omega
  have hle : w.heap.size ≤ W0.heap.size := hB.size
  generalize hW1 : (W0.alloc (.cells #[.int .i64 u, .slice A' (n - 1) (c - 1)] 25)) = W1 at *
  generalize W0.heap.size = X at *
  clear hcA hcB hc0 hc hP hT0 hB hHeld hrun' hW1
  obtain ⟨x0, x1, _, _⟩ := hX.two
  have hR := btRight u A' (n - 1) (c - 1) t W1.drew hT1 (by omega)
  rw [hr] at hR
  go_wp2_with fail
  refine hR.mono ?_
  rintro e w2 ⟨rfl, hb2⟩
  have hb2 := Below.trans (Below.drew (Below.refl _ _)) hb2
  have hP2 := hP1.below hb2
  have hX2 := hX.below hb2
  have hT2 := hT1.below hb2
  have hB2 := hB1.trans (Below.mono hb2 hB1.size)
  clear hR x0 x1 hP1 hX hT1 hB1 hb2
  obtain ⟨x0, x1, y0, y1⟩ := hX2.two
  go_wp2_with fail
  refine (bytesClone A' (n - 1) (c - 1) t _ hT2 (by omega)).mono ?_
  rintro e w3 ⟨A3, n3, c3, rfl, hob, hb3⟩
  have hP3 := hP2.below hb3
  have hX3 := hX2.below hb3
  have hob := hob.mono (base' := w.heap.size) hB2.size
  have hB3 := hB2.trans (Below.mono hb3 hB2.size)
  clear x0 x1 y0 y1 hP2 hX2 hT2 hB2 hb3
  obtain ⟨x0, x1, y0, y1⟩ := hX3.two
  have hP4 := hP3.setOther hne 1 (.slice A3 n3 c3)
  have hX4 := hX3.set 1 (.slice A3 n3 c3)
  have hob4 : Ob (w3.setCell ⟨X, 1, none⟩ (.slice A3 n3 c3)) w.heap.size 5 (.slice A3 n3 c3) t := ownsRow_setCell_other hob (hX3.notRow hob (by decide)) _
  have hB4 : Below w.heap.size w (w3.setCell ⟨X, 1, none⟩ (.slice A3 n3 c3)) := Only.below ((Only.refl X w3).setCell rfl _) hB3 hle (by have := hB3.size; omega)
  go_upto_region 7 with (fail)
  generalize w3.setCell ⟨X, 1, none⟩ (.slice A3 n3 c3) = W4 at *
  clear hP3 hX3 x0 x1 y0 y1 hob hB3
  obtain ⟨x0, x1, _, _⟩ := Blk.two (show Blk W4 X 25 [.int .i64 u, .slice A3 n3 c3] from hX4)
  obtain ⟨p0, p1, p2, p3⟩ := hP4.two
  obtain ⟨q0, q1, _, _⟩ := (hP4.put (.int .i64 u) (.slice A3 n3 c3)).two
  have hob5 := hob4.put hP4 (by decide) (.int .i64 u) (.slice A3 n3 c3)
  have hB5 := below_set2 (R := w.heap.size) hB4 hB4.size (Nat.le_refl _) (.int .i64 u) (.slice A3 n3 c3)
  clear hP4 hX4 hob4 hB4
  go_wp2
  refine bodyPost_ret (v := .tuple #[.agg #[.int .i64 u, .slice A3 n3 c3], .int .i64 0]) (by simp [results, Try.results21, go_sem, q0, q1]) rfl ?_
  exact ⟨A3, n3, c3, rfl, hob5, hB5⟩

set_option maxHeartbeats 1600000 in
theorem btParseB (A : Option Addr) (n c : Nat) (l : List UInt8) (w : World) (h : Bs w A n l) (hc : n ≤ c) (hn : n ≤ 1099511627) (h0 : l.length ≠ 0) (hr : rightS (nth l 0) (l.drop 1) = false) :
    Calls Try.prog 21 #[.slice A n c] w fun e w' => e = .returned (.tuple #[.agg #[.int .i64 0, .slice none 0 0], .int .i64 6]) ∧ Below w.heap.size w w' := by
  have hl := h.len
  have n1 : 1 ≤ n := by omega
  have n0 : ((n : Int) == 0) = false := by simp; omega
  have n2 : (0 : Int) < n := by omega
  have n3 : (1 : Int) ≤ c := by omega
  have n4 : 0 < n := by omega
  have hb0 := nth_bound l 0
  obtain ⟨A', hrun, hbs⟩ := cutB A n c 1 n1 hc
  have hrun' : ∀ (W : World), (Instr.slice 22 (.slice A n c) (some (.int .i64 1)) none none).run Try.prog W = .ok (.slice A' (n - 1) (c - 1)) W := hrun
  have hT := hbs w l h
  obtain ⟨b, o, rfl, hcw⟩ := h.at_ (k := 0) (by omega)
  rw [Nat.add_zero] at hcw
  have hP := Blk.new2 w (.int .i64 0) (.slice none 0 0) 25
  have hB := below_alloc1 w (.cells #[.int .i64 0, .slice none 0 0] 25)
  have hc0 := (hB.cell (World.block_lt_of_cell? _ _ hcw)).trans hcw
  have hT0 := hT.below hB
  have hbl := World.block_lt_of_cell? _ _ hcw
  have hwr : IntKind.i64.wrap (nth l 0) = nth l 0 := by simp [IntKind.wrap, IntKind.bits, IntKind.signed]; omega
  generalize hu : nth l 0 = u at *
  generalize l.drop 1 = t at *
  clear hu hl hrun hbs h hcw hT
  go_enter Try.func21, Try.ntmps21
  go_upto_region 3 with (fail)
  generalize (w.alloc (Obj.cells #[.int .i64 0, .slice none 0 0] 25)) = W0 at *
  have hc := hc0
  have hcA : (W0.alloc (.cells #[.int .i64 0, .slice none 0 0] 25)).cell? ⟨b, o, none⟩ = some (.int .u8 u) := ((below_alloc1 W0 _).cell (World.block_lt_of_cell? _ _ hc0)).trans hc0
  have hcB : (W0.alloc (.cells #[.int .i64 u, .slice A' (n - 1) (c - 1)] 25)).cell? ⟨b, o, none⟩ = some (.int .u8 u) := ((below_alloc1 W0 _).cell (World.block_lt_of_cell? _ _ hc0)).trans hc0
  refine wp_region_held_drew (S := fun w' => w'.cell? ⟨b, o, none⟩ = some (.int .u8 u)) (by kernel_rfl) ?hb0 (fun hHeld => ?_)
  case hb0 => (try dsimp only); exact hc
  refine wpAnyH_take (i := 0) (v := ?qv0) rfl (by kernel_rfl) (by kernel_rfl) (by kernel_rfl) (fun _ _ _ h => h) (Or.inl ⟨by kernel_rfl, ?qy0⟩) (by assumption) ?_
  case qy0 => (intro w hSw; (try dsimp only at hSw); go_simp) <;> (try with_reducible rfl)
  try simp only [Act.put, List.setIfInBounds_toArray, List.set_cons_zero, List.set_cons_succ, List.getElem_toArray, List.getElem_cons_succ, List.getElem_cons_zero]
  refine wpAnyH_take (i := 1) (v := ?qv1) rfl (by kernel_rfl) (by kernel_rfl) (by kernel_rfl) (fun _ _ _ h => h) (Or.inl ⟨by kernel_rfl, ?qy1⟩) (by assumption) ?_
  case qy1 => (intro w hSw; (try dsimp only at hSw); go_simp) <;> (try with_reducible rfl)
  try simp only [Act.put, List.setIfInBounds_toArray, List.set_cons_zero, List.set_cons_succ, List.getElem_toArray, List.getElem_cons_succ, List.getElem_cons_zero]
  refine wpAnyH_take (i := 2) (v := ?qv2) rfl (by kernel_rfl) (by kernel_rfl) (by kernel_rfl) (fun _ _ _ h => h) (Or.inl ⟨by kernel_rfl, ?qy2⟩) (by assumption) ?_
  case qy2 => (intro w hSw; (try dsimp only at hSw); go_simp) <;> (try with_reducible rfl)
  try simp only [Act.put, List.setIfInBounds_toArray, List.set_cons_zero, List.set_cons_succ, List.getElem_toArray, List.getElem_cons_succ, List.getElem_cons_zero]
  refine wpAnyH_take (i := 3) (v := ?qv3) rfl (by kernel_rfl) (by kernel_rfl) (by kernel_rfl) (fun _ _ _ h => h) (Or.inl ⟨by kernel_rfl, ?qy3⟩) (by assumption) ?_
  case qy3 => (intro w hSw; (try dsimp only at hSw); go_simp) <;> (try with_reducible rfl)
  try simp only [Act.put, List.setIfInBounds_toArray, List.set_cons_zero, List.set_cons_succ, List.getElem_toArray, List.getElem_cons_succ, List.getElem_cons_zero]
  refine wpAnyH_take (i := 4) (v := ?qv4) rfl (by kernel_rfl) (by kernel_rfl) (by kernel_rfl) (fun _ _ _ h => h) (Or.inl ⟨by kernel_rfl, ?qy4⟩) (by assumption) ?_
  case qy4 => (intro w hSw; (try dsimp only at hSw); go_simp) <;> (try with_reducible rfl)
  try simp only [Act.put, List.setIfInBounds_toArray, List.set_cons_zero, List.set_cons_succ, List.getElem_toArray, List.getElem_cons_succ, List.getElem_cons_zero]
  refine wpAnyH_take (i := 5) (v := ?qv5) rfl (by kernel_rfl) (by kernel_rfl) (by kernel_rfl) (fun _ _ _ h => h) (Or.inl ⟨by kernel_rfl, ?qy5⟩) (by assumption) ?_
  case qy5 => (intro w hSw; (try dsimp only at hSw); go_simp) <;> (try with_reducible rfl)
  try simp only [Act.put, List.setIfInBounds_toArray, List.set_cons_zero, List.set_cons_succ, List.getElem_toArray, List.getElem_cons_succ, List.getElem_cons_zero]
  refine wpAnyH_take (i := 6) (v := ?qv6) rfl (by kernel_rfl) (by kernel_rfl) (by kernel_rfl) (fun _ _ _ h => h) (Or.inl ⟨by kernel_rfl, ?qy6⟩) (by assumption) ?_
  case qy6 => (intro w hSw; (try dsimp only at hSw); go_simp) <;> (try with_reducible rfl)
  try simp only [Act.put, List.setIfInBounds_toArray, List.set_cons_zero, List.set_cons_succ, List.getElem_toArray, List.getElem_cons_succ, List.getElem_cons_zero]
  refine wpAnyH_ready (rs := [7]) (by kernel_rfl) (by simp) ?_
  refine AllReadyH.cons rfl (fun K hK => ?_) AllReadyH.nil
  go_simp
  refine hK.out _ _ ?hs7a (fun hHeld => ?_)
  case hs7a => (try dsimp only); exact hcA
  clear hK K
  try simp only [Act.put, List.setIfInBounds_toArray, List.set_cons_zero, List.set_cons_succ, List.getElem_toArray, List.getElem_cons_succ, List.getElem_cons_zero]
  refine wpAnyH_ready (rs := [8]) (by kernel_rfl) (by simp) ?_
  refine AllReadyH.cons rfl (fun K hK => ?_) AllReadyH.nil
  go_simp
  refine hK.out _ _ ?hs8a (fun hHeld => ?_)
  case hs8a => (try dsimp only); exact hcB
  clear hK K
  try simp only [Act.put, List.setIfInBounds_toArray, List.set_cons_zero, List.set_cons_succ, List.getElem_toArray, List.getElem_cons_succ, List.getElem_cons_zero]
  refine wpAnyH_done (by kernel_rfl) ?_ _
  have hP1 := hP.alloc (.cells #[.int .i64 u, .slice A' (n - 1) (c - 1)] 25)
  have hX := Blk.new2 W0 (.int .i64 u) (.slice A' (n - 1) (c - 1)) 25
  have hT1 := hT0.below (below_alloc1 W0 (.cells #[.int .i64 u, .slice A' (n - 1) (c - 1)] 25))
  have hB1 := hB.alloc hB.size (.cells #[.int .i64 u, .slice A' (n - 1) (c - 1)] 25)
  have hne : w.heap.size ≠ W0.heap.size := by have := hP.lt; omega
  have hle : w.heap.size ≤ W0.heap.size := hB.size
  generalize hW1 : (W0.alloc (.cells #[.int .i64 u, .slice A' (n - 1) (c - 1)] 25)) = W1 at *
  generalize W0.heap.size = X at *
  clear hcA hcB hc0 hc hP hT0 hB hHeld hrun' hW1
  obtain ⟨x0, x1, _, _⟩ := hX.two
  have hR := btRight u A' (n - 1) (c - 1) t W1.drew hT1 (by omega)
  rw [hr] at hR
  go_wp2_with fail
  refine hR.mono ?_
  rintro e w2 ⟨rfl, hb2⟩
  have hb2 := Below.trans (Below.drew (Below.refl _ _)) hb2
  have hP2 := hP1.below hb2
  have hX2 := hX.below hb2
  have hT2 := hT1.below hb2
  have hB2 := hB1.trans (Below.mono hb2 hB1.size)
  clear hR x0 x1 hP1 hX hT1 hB1 hb2
  obtain ⟨p0, p1, p2, p3⟩ := hP2.two
  obtain ⟨q0, q1, _, _⟩ := (hP2.put (.int .i64 0) (.slice none 0 0)).two
  have hB5 := below_set2 (R := w.heap.size) hB2 hB2.size (Nat.le_refl _) (.int .i64 0) (.slice none 0 0)
  clear hP2 hX2 hT2 hB2
  go_wp2
  refine bodyPost_ret (v := .tuple #[.agg #[.int .i64 0, .slice none 0 0], .int .i64 6]) (by simp [results, Try.results21, go_sem, q0, q1]) rfl ?_
  exact ⟨rfl, hB5⟩

set_option maxHeartbeats 800000 in
theorem btParseN (A : Option Addr) (n c : Nat) (w : World) (h0 : n = 0) :
    Calls Try.prog 21 #[.slice A n c] w fun e w' => e = .returned (.tuple #[.agg #[.int .i64 0, .slice none 0 0], .int .i64 6]) ∧ Below w.heap.size w w' := by
  subst h0
  have hP := Blk.new2 w (.int .i64 0) (.slice none 0 0) 25
  have hB := below_alloc1 w (.cells #[.int .i64 0, .slice none 0 0] 25)
  obtain ⟨p0, p1, p2, p3⟩ := hP.two
  obtain ⟨q0, q1, _, _⟩ := (hP.put (.int .i64 0) (.slice none 0 0)).two
  have hB5 := below_set2 (R := w.heap.size) hB hB.size (Nat.le_refl _) (.int .i64 0) (.slice none 0 0)
  clear hP
  go_enter Try.func21, Try.ntmps21
  go_upto_region 1 with (fail)
  generalize (w.alloc (Obj.cells #[.int .i64 0, .slice none 0 0] 25)) = W0 at *
  go_wp2
  refine bodyPost_ret (v := .tuple #[.agg #[.int .i64 0, .slice none 0 0], .int .i64 6]) (by simp [results, Try.results21, go_sem, q0, q1]) rfl ?_
  exact ⟨rfl, hB5⟩

/-- What Parse hands back. -/
def prsP (w : World) (b : List UInt8) (e : Ending) (w' : World) : Prop :=
  (∀ u l, prsS b = some (u, l) → ∃ A' m' c', e = .returned (.tuple #[.agg #[.int .i64 u, .slice A' m' c'], .int .i64 0]) ∧ Ob w' w.heap.size 5 (.slice A' m' c') l) ∧ (prsS b = none → e = .returned (.tuple #[.agg #[.int .i64 0, .slice none 0 0], .int .i64 6])) ∧ Below w.heap.size w w'
theorem btParse (A : Option Addr) (n c : Nat) (l : List UInt8) (w : World) (h : Bs w A n l) (hc : n ≤ c) (hn : n ≤ 1099511627) :
    Calls Try.prog 21 #[.slice A n c] w (prsP w l) := by
  have hl := h.len
  by_cases h0 : l.length = 0
  · refine (btParseN A n c w (by omega)).mono ?_
    rintro e w' ⟨rfl, hb⟩
    exact ⟨fun u t h => (by rw [prsS_nil h0] at h; cases h), fun _ => rfl, hb⟩
  · have hp := prsS_cons h0
    cases hr : rightS (nth l 0) (l.drop 1)
    · rw [hr, if_neg (by simp)] at hp
      refine (btParseB A n c l w h hc hn h0 hr).mono ?_
      rintro e w' ⟨rfl, hb⟩
      exact ⟨fun u t h => (by rw [hp] at h; cases h), fun _ => rfl, hb⟩
    · rw [hr, if_pos rfl] at hp
      refine (btParseA A n c l w h hc hn h0 hr).mono ?_
      rintro e w' ⟨A', m', c', he, hob, hb⟩
      exact ⟨fun u t h => (by rw [hp] at h; cases h; exact ⟨A', m', c', he, hob⟩), fun h => (by rw [hp] at h; cases h), hb⟩

end Go.Proofs.Ytjcddbcokiaehaa
