/-
  The contract of layer 5's reference: Parse.
-/
import Derived.Test.YtjcddbcokiaehaaBk
namespace Go.Proofs.Ytjcddbcokiaehaa
open Go.RowKit
set_option linter.unusedVariables false
set_option linter.unusedSimpArgs false
set_option maxRecDepth 4000

/-- What the reference's Parse has behind its region. -/
def PrsMid (w : World) (u : Int) (t : List UInt8) (v : Value) (wc : World) : Prop :=
  ∃ X A m c, v = .pointer (some ⟨X, 0, none⟩) ∧ w.heap.size < X ∧ Blk wc X 24 [.int .i64 u, .slice A m c] ∧ Blk wc w.heap.size 24 [.int .i64 0, .slice none 0 0] ∧ Ob wc w.heap.size 5 (.slice A m c) t ∧ Below w.heap.size w wc

set_option maxHeartbeats 3200000 in
theorem rf5ParseC (rr : Bool) (A : Option Addr) (n c : Nat) (l : List UInt8) (w : World) (h : Bs w A n l) (hc : n ≤ c) (hn : n ≤ 1099511) (h0 : l.length ≠ 0) (hr : rightS (nth l 0) (l.drop 1) = rr) :
    Calls Try.prog 22 #[.slice A n c] w fun e w' => (rr = true → ∃ A' m' c', e = .returned (.tuple #[.agg #[.int .i64 (nth l 0), .slice A' m' c'], .bool true]) ∧ Ob w' w.heap.size 5 (.slice A' m' c') (l.drop 1)) ∧ (rr = false → e = .returned (.tuple #[.agg #[.int .i64 0, .slice none 0 0], .bool false])) ∧ Below w.heap.size w w' := by
  obtain ⟨i0, hi, hz0, hz1, hz2⟩ := info_parts u8_info
  have hl := h.len
  have n1 : 1 ≤ n := by omega
  have n0 : ((n : Int) == 0) = false := by simp; omega
  have n2 : (0 : Int) < n := by omega
  have n3 : (1 : Int) ≤ c := by omega
  have n4 : 0 < n := by omega
  have hb0 := nth_bound l 0
  obtain ⟨A', hrun, hbs⟩ := cutB A n c 1 n1 hc
  have hrun' : ∀ (W : World), (Instr.slice 22 (.slice A n c) (some (.int .i64 1)) none none).run Try.prog W = .ok (.slice A' (n - 1) (c - 1)) W := hrun
  have hT := hbs w l h
  obtain ⟨b, o, rfl, hcw⟩ := h.at_ (k := 0) (by omega)
  rw [Nat.add_zero] at hcw
  have hP := Blk.new2 w (.int .i64 0) (.slice none 0 0) 24
  have hB := below_alloc1 w (.cells #[.int .i64 0, .slice none 0 0] 24)
  have hc0 := (hB.cell (World.block_lt_of_cell? _ _ hcw)).trans hcw
  have hT0 := hT.below hB
  have hbl : b < w.heap.size := World.block_lt_of_cell? _ _ hcw
  have hwr : IntKind.i64.wrap (nth l 0) = nth l 0 := by simp [IntKind.wrap, IntKind.bits, IntKind.signed]; omega
  generalize hu : nth l 0 = u at *
  have htl : (l.drop 1).length = n - 1 := by simp; omega
  generalize l.drop 1 = t at *
  clear hu hl hrun hbs h hcw hT
  go_enter Try.func22, Try.ntmps22
  go_upto_region 3 with (fail)
  have hW0s : w.heap.size + 1 = (w.alloc (Obj.cells #[.int .i64 0, .slice none 0 0] 24)).heap.size := by simp
  generalize (w.alloc (Obj.cells #[.int .i64 0, .slice none 0 0] 24)) = W0 at *
  have hle0 : w.heap.size ≤ W0.heap.size := hB.size
  have hlt0 : w.heap.size < W0.heap.size := by omega
  have CEL : Hid (∀ W, Below W0.heap.size W0 W → W.cell? ⟨b, o, none⟩ = some (.int .u8 u)) := fun W hW => (hW.cell (World.block_lt_of_cell? _ _ hc0)).trans hc0
  have BSA : Hid (∀ W, Below W0.heap.size W0 W → Bs W A' (n - 1) t) := fun W hW => hT0.below hW
  have hX1 := (Blk.new2 W0 (.int .i64 0) (.slice none 0 0) 24).alloc (.cells #[] 5)
  have hX2 := Blk.new2 (W0.alloc (.cells #[] 5)) (.int .i64 0) (.slice none 0 0) 24
  rw [World.size_alloc] at hX2
  clear hW0s hc0 hT0
  go_cut [4] from 5 (fun v4 wc => PrsMid w u t v4 wc)
  case first =>
    refine wp_region_held_drew (S := fun w' => w'.cell? ⟨b, o, none⟩ = some (.int .u8 u)) (by kernel_rfl) ?hb0 (fun hHeld => ?_)
    case hb0 => (try dsimp only); exact CEL.out _ (Below.refl _ _).drew
    refine wpAnyH_take (i := 0) (v := ?qv0) rfl (by kernel_rfl) (by kernel_rfl) (by kernel_rfl) (fun _ _ _ h => h) (Or.inl ⟨by kernel_rfl, ?qy0⟩) (by assumption) ?_
    case qy0 => (intro w hSw; (try dsimp only at hSw); go_simp) <;> (try with_reducible rfl)
    try simp only [Act.put, List.setIfInBounds_toArray, List.set_cons_zero, List.set_cons_succ, List.getElem_toArray, List.getElem_cons_succ, List.getElem_cons_zero]
    refine wpAnyH_take (i := 1) (v := ?qv1) rfl (by kernel_rfl) (by kernel_rfl) (by kernel_rfl) (fun _ _ _ h => h) (Or.inl ⟨by kernel_rfl, ?qy1⟩) (by assumption) ?_
    case qy1 => (intro w hSw; (try dsimp only at hSw); go_simp) <;> (try with_reducible rfl)
    try simp only [Act.put, List.setIfInBounds_toArray, List.set_cons_zero, List.set_cons_succ, List.getElem_toArray, List.getElem_cons_succ, List.getElem_cons_zero]
    refine wpAnyH_take (i := 2) (v := ?qv2) rfl (by kernel_rfl) (by kernel_rfl) (by kernel_rfl) (fun _ _ _ h => h) (Or.inl ⟨by kernel_rfl, ?qy2⟩) (by assumption) ?_
    case qy2 => (intro w hSw; (try dsimp only at hSw); go_simp) <;> (try with_reducible rfl)
    try simp only [Act.put, List.setIfInBounds_toArray, List.set_cons_zero, List.set_cons_succ, List.getElem_toArray, List.getElem_cons_succ, List.getElem_cons_zero]
    refine wpAnyH_take (i := 3) (v := ?qv3) rfl (by kernel_rfl) (by kernel_rfl) (by kernel_rfl) (fun _ _ _ h => h) (Or.inl ⟨by kernel_rfl, ?qy3⟩) (by assumption) ?_
    case qy3 => (intro w hSw; (try dsimp only at hSw); go_simp) <;> (try with_reducible rfl)
    try simp only [Act.put, List.setIfInBounds_toArray, List.set_cons_zero, List.set_cons_succ, List.getElem_toArray, List.getElem_cons_succ, List.getElem_cons_zero]
    refine wpAnyH_take (i := 5) (v := ?qv5) rfl (by kernel_rfl) (by kernel_rfl) (by kernel_rfl) (fun _ _ _ h => h) (Or.inl ⟨by kernel_rfl, ?qy5⟩) (by assumption) ?_
    case qy5 => (intro w hSw; (try dsimp only at hSw); go_simp) <;> (try with_reducible rfl)
    try simp only [Act.put, List.setIfInBounds_toArray, List.set_cons_zero, List.set_cons_succ, List.getElem_toArray, List.getElem_cons_succ, List.getElem_cons_zero]
    refine wpAnyH_take (i := 6) (v := ?qv6) rfl (by kernel_rfl) (by kernel_rfl) (by kernel_rfl) (fun _ _ _ h => h) (Or.inl ⟨by kernel_rfl, ?qy6⟩) (by assumption) ?_
    case qy6 => (intro w hSw; (try dsimp only at hSw); go_simp) <;> (try with_reducible rfl)
    try simp only [Act.put, List.setIfInBounds_toArray, List.set_cons_zero, List.set_cons_succ, List.getElem_toArray, List.getElem_cons_succ, List.getElem_cons_zero]
    refine wpAnyH_ready (rs := [4, 9]) (by kernel_rfl) (by simp) ?_
    refine AllReadyH.cons rfl (fun K hK => ?_) (AllReadyH.cons rfl (fun K hK => ?_) (AllReadyH.nil))
    · go_simp
      refine hK.out _ _ ?hs4a (fun hHeld => ?_)
      case hs4a => (try dsimp only); exact CEL.out _ ((below_alloc1 W0 _).drew)
      clear hK K
      try simp only [Act.put, List.setIfInBounds_toArray, List.set_cons_zero, List.set_cons_succ, List.getElem_toArray, List.getElem_cons_succ, List.getElem_cons_zero]
      refine wpAnyH_ready (rs := [7, 9]) (by kernel_rfl) (by simp) ?_
      refine AllReadyH.cons rfl (fun K hK => ?_) (AllReadyH.cons rfl (fun K hK => ?_) (AllReadyH.nil))
      · have hoA : Ob (W0.alloc (.cells #[] 5)).drew w.heap.size 5 (.slice (some ⟨W0.heap.size, 0, none⟩) 0 0) [] := World.ownsRow_made W0 #[] 0 hle0 (Nat.zero_le _) rfl
        have hbA := BSA.out (W0.alloc (.cells #[] 5)).drew ((below_alloc1 W0 _).drew)
        refine step_appendB rfl _ _ 22 rfl w.heap.size 5 i0 (.int .u8 0) Try.underlying22 hi hz0 hz1 hz2 rfl _ [] rfl hoA _ _ _ t rfl hbA (by simp; omega) (by have := hle0; simp; omega) ?_
        intro v7 w7 hob7 hg7 _ _
        have hgrow7 : (W0.alloc (.cells #[] 5)).drew.grownBy w7 (some (W0.heap.size)) := hg7
        rw [List.nil_append] at hob7
        obtain ⟨A7, c7, rfl, hc7, _⟩ := hob7.slice
        rw [htl] at hob7 ⊢
        clear hg7
        have hB7 : Below W0.heap.size W0 w7 := ((below_alloc1 W0 _).drew).grown hgrow7 (by simp <;> omega) (by intro k hk; simp at hk; omega)
        refine hK.out _ _ ?hs7w4a (fun hHeld => ?_)
        case hs7w4a => (try dsimp only);  exact CEL.out _ hB7
        clear hK K
        try simp only [Act.put, List.setIfInBounds_toArray, List.set_cons_zero, List.set_cons_succ, List.getElem_toArray, List.getElem_cons_succ, List.getElem_cons_zero]
        refine wpAnyH_take (i := 8) (v := ?qv8w4w7) rfl (by kernel_rfl) (by kernel_rfl) (by kernel_rfl) (fun _ _ _ h => h) (Or.inl ⟨by kernel_rfl, ?qy8w4w7⟩) (by assumption) ?_
        case qy8w4w7 => (intro w hSw; (try dsimp only at hSw); go_simp) <;> (try with_reducible rfl)
        try simp only [Act.put, List.setIfInBounds_toArray, List.set_cons_zero, List.set_cons_succ, List.getElem_toArray, List.getElem_cons_succ, List.getElem_cons_zero]
        refine wpAnyH_ready (rs := [9]) (by kernel_rfl) (by simp) ?_
        refine AllReadyH.cons rfl (fun K hK => ?_) AllReadyH.nil
        go_simp
        refine hK.out _ _ ?hs9w4w7a (fun hHeld => ?_)
        case hs9w4w7a => (try dsimp only); exact CEL.out _ (hB7.alloc hB7.size _)
        clear hK K
        try simp only [Act.put, List.setIfInBounds_toArray, List.set_cons_zero, List.set_cons_succ, List.getElem_toArray, List.getElem_cons_succ, List.getElem_cons_zero]
        refine wpAnyH_ready (rs := [10]) (by kernel_rfl) (by simp) ?_
        refine AllReadyH.cons rfl (fun K hK => ?_) AllReadyH.nil
        go_simp
        refine hK.out _ _ ?hs10w4w7a (fun hHeld => ?_)
        case hs10w4w7a => (try dsimp only); exact CEL.out _ (hB7.alloc hB7.size _)
        clear hK K
        try simp only [Act.put, List.setIfInBounds_toArray, List.set_cons_zero, List.set_cons_succ, List.getElem_toArray, List.getElem_cons_succ, List.getElem_cons_zero]
        refine wpAnyH_done (by kernel_rfl) ?_ _
        go_wp2_with fail
        go_meet
        exact ⟨w7.heap.size, A7, _, c7, rfl, by have := hB7.size; omega, Blk.new2 w7 _ _ _, (hP.below hB7).alloc _, hob7.alloc _, (hB.trans (Below.mono hB7 hB.size)).alloc (by have := hB7.size; omega) _⟩
      · go_simp
        refine hK.out _ _ ?hs9w4a (fun hHeld => ?_)
        case hs9w4a => (try dsimp only); exact CEL.out _ ((below_alloc2 W0 _ _).drew)
        clear hK K
        try simp only [Act.put, List.setIfInBounds_toArray, List.set_cons_zero, List.set_cons_succ, List.getElem_toArray, List.getElem_cons_succ, List.getElem_cons_zero]
        refine wpAnyH_ready (rs := [7]) (by kernel_rfl) (by simp) ?_
        refine AllReadyH.cons rfl (fun K hK => ?_) AllReadyH.nil
        have hoA : Ob ((W0.alloc (.cells #[] 5)).alloc (.cells #[.int .i64 0, .slice none 0 0] 24)).drew w.heap.size 5 (.slice (some ⟨W0.heap.size, 0, none⟩) 0 0) [] := World.ownsRow.alloc (World.ownsRow_made W0 #[] 0 hle0 (Nat.zero_le _) rfl) _
        have hbA := BSA.out ((W0.alloc (.cells #[] 5)).alloc (.cells #[.int .i64 0, .slice none 0 0] 24)).drew ((below_alloc2 W0 _ _).drew)
        refine step_appendB rfl _ _ 22 rfl w.heap.size 5 i0 (.int .u8 0) Try.underlying22 hi hz0 hz1 hz2 rfl _ [] rfl hoA _ _ _ t rfl hbA (by simp; omega) (by have := hle0; simp; omega) ?_
        intro v7 w7 hob7 hg7 _ _
        have hgrow7 : ((W0.alloc (.cells #[] 5)).alloc (.cells #[.int .i64 0, .slice none 0 0] 24)).drew.grownBy w7 (some (W0.heap.size)) := hg7
        rw [List.nil_append] at hob7
        obtain ⟨A7, c7, rfl, hc7, _⟩ := hob7.slice
        rw [htl] at hob7 ⊢
        clear hg7
        have hB7 : Below W0.heap.size W0 w7 := ((below_alloc2 W0 _ _).drew).grown hgrow7 (by simp <;> omega) (by intro k hk; simp at hk; omega)
        refine hK.out _ _ ?hs7w4w9a (fun hHeld => ?_)
        case hs7w4w9a => (try dsimp only);  exact CEL.out _ hB7
        clear hK K
        try simp only [Act.put, List.setIfInBounds_toArray, List.set_cons_zero, List.set_cons_succ, List.getElem_toArray, List.getElem_cons_succ, List.getElem_cons_zero]
        refine wpAnyH_take (i := 8) (v := ?qv8w4w9) rfl (by kernel_rfl) (by kernel_rfl) (by kernel_rfl) (fun _ _ _ h => h) (Or.inl ⟨by kernel_rfl, ?qy8w4w9⟩) (by assumption) ?_
        case qy8w4w9 => (intro w hSw; (try dsimp only at hSw); go_simp) <;> (try with_reducible rfl)
        try simp only [Act.put, List.setIfInBounds_toArray, List.set_cons_zero, List.set_cons_succ, List.getElem_toArray, List.getElem_cons_succ, List.getElem_cons_zero]
        refine wpAnyH_ready (rs := [10]) (by kernel_rfl) (by simp) ?_
        refine AllReadyH.cons rfl (fun K hK => ?_) AllReadyH.nil
        have hX7 : Blk w7 (W0.heap.size + 1) 24 [.int .i64 0, .slice none 0 0] := (hgrow7.block _ (by simp) (by simp)).trans hX2
        obtain ⟨z0, z1, z2, z3⟩ := hX7.two
        go_simp
        refine hK.out _ _ ?hs10w4w9a (fun hHeld => ?_)
        case hs10w4w9a => (try dsimp only); exact (cell_set2 (by omega) _).trans (CEL.out _ hB7)
        clear hK K
        try simp only [Act.put, List.setIfInBounds_toArray, List.set_cons_zero, List.set_cons_succ, List.getElem_toArray, List.getElem_cons_succ, List.getElem_cons_zero]
        refine wpAnyH_done (by kernel_rfl) ?_ _
        go_wp2_with fail
        go_meet
        exact ⟨W0.heap.size + 1, A7, _, c7, rfl, by omega, hX7.put _ _, (hP.below hB7).putOther (by omega) _ _, hob7.put hX7 (by decide) _ _, below_set2 (hB.trans (Below.mono hB7 hB.size)) (by have := hB7.size; omega) (by omega) _ _⟩
    · go_simp
      refine hK.out _ _ ?hs9a (fun hHeld => ?_)
      case hs9a => (try dsimp only); exact CEL.out _ ((below_alloc1 W0 _).drew)
      clear hK K
      try simp only [Act.put, List.setIfInBounds_toArray, List.set_cons_zero, List.set_cons_succ, List.getElem_toArray, List.getElem_cons_succ, List.getElem_cons_zero]
      refine wpAnyH_ready (rs := [4]) (by kernel_rfl) (by simp) ?_
      refine AllReadyH.cons rfl (fun K hK => ?_) AllReadyH.nil
      go_simp
      refine hK.out _ _ ?hs4w9a (fun hHeld => ?_)
      case hs4w9a => (try dsimp only);  exact CEL.out _ ((below_alloc2 W0 _ _).drew)
      clear hK K
      try simp only [Act.put, List.setIfInBounds_toArray, List.set_cons_zero, List.set_cons_succ, List.getElem_toArray, List.getElem_cons_succ, List.getElem_cons_zero]
      refine wpAnyH_ready (rs := [7]) (by kernel_rfl) (by simp) ?_
      refine AllReadyH.cons rfl (fun K hK => ?_) AllReadyH.nil
      have hoA : Ob ((W0.alloc (.cells #[.int .i64 0, .slice none 0 0] 24)).alloc (.cells #[] 5)).drew w.heap.size 5 (.slice (some ⟨W0.heap.size + 1, 0, none⟩) 0 0) [] := by have := World.ownsRow_made (base := w.heap.size) (e := 5) (size := 1) (W0.alloc (.cells #[.int .i64 0, .slice none 0 0] 24)) #[] 0 (by simp; omega) (Nat.zero_le _) rfl; rw [World.size_alloc] at this; exact this
      have hbA := BSA.out ((W0.alloc (.cells #[.int .i64 0, .slice none 0 0] 24)).alloc (.cells #[] 5)).drew ((below_alloc2 W0 _ _).drew)
      refine step_appendB rfl _ _ 22 rfl w.heap.size 5 i0 (.int .u8 0) Try.underlying22 hi hz0 hz1 hz2 rfl _ [] rfl hoA _ _ _ t rfl hbA (by simp; omega) (by have := hle0; simp; omega) ?_
      intro v7 w7 hob7 hg7 _ _
      have hgrow7 : ((W0.alloc (.cells #[.int .i64 0, .slice none 0 0] 24)).alloc (.cells #[] 5)).drew.grownBy w7 (some (W0.heap.size + 1)) := hg7
      rw [List.nil_append] at hob7
      obtain ⟨A7, c7, rfl, hc7, _⟩ := hob7.slice
      rw [htl] at hob7 ⊢
      clear hg7
      have hB7 : Below W0.heap.size W0 w7 := ((below_alloc2 W0 _ _).drew).grown hgrow7 (by simp <;> omega) (by intro k hk; simp at hk; omega)
      refine hK.out _ _ ?hs7w9a (fun hHeld => ?_)
      case hs7w9a => (try dsimp only);  exact CEL.out _ hB7
      clear hK K
      try simp only [Act.put, List.setIfInBounds_toArray, List.set_cons_zero, List.set_cons_succ, List.getElem_toArray, List.getElem_cons_succ, List.getElem_cons_zero]
      refine wpAnyH_take (i := 8) (v := ?qv8w9) rfl (by kernel_rfl) (by kernel_rfl) (by kernel_rfl) (fun _ _ _ h => h) (Or.inl ⟨by kernel_rfl, ?qy8w9⟩) (by assumption) ?_
      case qy8w9 => (intro w hSw; (try dsimp only at hSw); go_simp) <;> (try with_reducible rfl)
      try simp only [Act.put, List.setIfInBounds_toArray, List.set_cons_zero, List.set_cons_succ, List.getElem_toArray, List.getElem_cons_succ, List.getElem_cons_zero]
      refine wpAnyH_ready (rs := [10]) (by kernel_rfl) (by simp) ?_
      refine AllReadyH.cons rfl (fun K hK => ?_) AllReadyH.nil
      have hX7 : Blk w7 W0.heap.size 24 [.int .i64 0, .slice none 0 0] := (hgrow7.block _ (by simp; omega) (by simp)).trans hX1
      obtain ⟨z0, z1, z2, z3⟩ := hX7.two
      go_simp
      refine hK.out _ _ ?hs10w9a (fun hHeld => ?_)
      case hs10w9a => (try dsimp only); exact (cell_set2 (by omega) _).trans (CEL.out _ hB7)
      clear hK K
      try simp only [Act.put, List.setIfInBounds_toArray, List.set_cons_zero, List.set_cons_succ, List.getElem_toArray, List.getElem_cons_succ, List.getElem_cons_zero]
      refine wpAnyH_done (by kernel_rfl) ?_ _
      go_wp2_with fail
      go_meet
      exact ⟨W0.heap.size, A7, _, c7, rfl, by omega, hX7.put _ _, (hP.below hB7).putOther (by omega) _ _, hob7.put hX7 (by decide) _ _, below_set2 (hB.trans (Below.mono hB7 hB.size)) (by have := hB7.size; omega) (by omega) _ _⟩
  case rest =>
    obtain ⟨X, A3, m3, c3, rfl, hXlt, hX3, hP3, hob, hB3⟩ := hcut
    clear CEL BSA hX1 hX2 hP hB
    have hob1 := hob.bs
    have hm3 : m3 ≤ 1099511 := by have := hob1.1.len; omega
    have hR := rf5Right u A3 m3 c3 t wc hob1.1 hob1.2 hm3
    rw [hr] at hR
    obtain ⟨x0, x1, _, _⟩ := hX3.two
    go_wp2_with fail
    refine hR.mono ?_
    rintro e w4 ⟨rfl, hb4⟩
    have hP4 := hP3.below hb4
    have hX4 := hX3.below hb4
    have hob4 := hob.below hb4
    have hB4 := hB3.trans (Below.mono hb4 hB3.size)
    clear hR hob1 x0 x1 hX3 hP3 hob hB3 hb4
    obtain ⟨x0, x1, _, _⟩ := hX4.two
    obtain ⟨p0, p1, p2, p3⟩ := hP4.two
    cases rr
    · obtain ⟨q0, q1, _, _⟩ := (hP4.put (.int .i64 0) (.slice none 0 0)).two
      have hB5 := below_set2 (R := w.heap.size) hB4 hB4.size (Nat.le_refl _) (.int .i64 0) (.slice none 0 0)
      clear hP4 hX4 hob4 hB4
      go_wp2
      refine bodyPost_ret (v := .tuple #[.agg #[.int .i64 0, .slice none 0 0], .bool false]) (by simp [results, Try.results22, go_sem, q0, q1]) rfl ?_
      exact ⟨rfl, hB5⟩
    · obtain ⟨q0, q1, _, _⟩ := (hP4.put (.int .i64 u) (.slice A3 m3 c3)).two
      have hob5 := hob4.put hP4 (by decide) (.int .i64 u) (.slice A3 m3 c3)
      have hB5 := below_set2 (R := w.heap.size) hB4 hB4.size (Nat.le_refl _) (.int .i64 u) (.slice A3 m3 c3)
      clear hP4 hX4 hob4 hB4
      go_wp2
      refine bodyPost_ret (v := .tuple #[.agg #[.int .i64 u, .slice A3 m3 c3], .bool true]) (by simp [results, Try.results22, go_sem, q0, q1]) rfl ?_
      exact ⟨⟨A3, m3, c3, rfl, hob5⟩, hB5⟩

set_option maxHeartbeats 800000 in
theorem rf5ParseN (A : Option Addr) (n c : Nat) (w : World) (h0 : n = 0) :
    Calls Try.prog 22 #[.slice A n c] w fun e w' => e = .returned (.tuple #[.agg #[.int .i64 0, .slice none 0 0], .bool false]) ∧ Below w.heap.size w w' := by
  subst h0
  have hP := Blk.new2 w (.int .i64 0) (.slice none 0 0) 24
  have hB := below_alloc1 w (.cells #[.int .i64 0, .slice none 0 0] 24)
  obtain ⟨p0, p1, p2, p3⟩ := hP.two
  obtain ⟨q0, q1, _, _⟩ := (hP.put (.int .i64 0) (.slice none 0 0)).two
  have hB5 := below_set2 (R := w.heap.size) hB hB.size (Nat.le_refl _) (.int .i64 0) (.slice none 0 0)
  clear hP
  go_enter Try.func22, Try.ntmps22
  go_upto_region 1 with (fail)
  generalize (w.alloc (Obj.cells #[.int .i64 0, .slice none 0 0] 24)) = W0 at *
  go_wp2
  refine bodyPost_ret (v := .tuple #[.agg #[.int .i64 0, .slice none 0 0], .bool false]) (by simp [results, Try.results22, go_sem, q0, q1]) rfl ?_
  exact ⟨rfl, hB5⟩

/-- What Parse of the reference hands back. -/
def prsV (w : World) (b : List UInt8) (e : Ending) (w' : World) : Prop :=
  (∀ u l, prsS b = some (u, l) → ∃ A' m' c', e = .returned (.tuple #[.agg #[.int .i64 u, .slice A' m' c'], .bool true]) ∧ Ob w' w.heap.size 5 (.slice A' m' c') l) ∧ (prsS b = none → e = .returned (.tuple #[.agg #[.int .i64 0, .slice none 0 0], .bool false])) ∧ Below w.heap.size w w'
theorem rf5Parse (A : Option Addr) (n c : Nat) (l : List UInt8) (w : World) (h : Bs w A n l) (hc : n ≤ c) (hn : n ≤ 1099511) :
    Calls Try.prog 22 #[.slice A n c] w (prsV w l) := by
  have hl := h.len
  by_cases h0 : l.length = 0
  · refine (rf5ParseN A n c w (by omega)).mono ?_
    rintro e w' ⟨rfl, hb⟩
    exact ⟨fun u t h => (by rw [prsS_nil h0] at h; cases h), fun _ => rfl, hb⟩
  · refine (rf5ParseC _ A n c l w h hc hn h0 rfl).mono ?_
    rintro e w' ⟨h1, h2, hb⟩
    have hp := prsS_cons h0
    refine ⟨fun u t ht => ?_, fun hno => ?_, hb⟩
    · rw [hp] at ht
      split at ht
      · rename_i hr
        cases ht
        exact h1 hr
      · cases ht
    · rw [hp] at hno
      split at hno
      · cases hno
      · rename_i hr
        exact h2 (by simpa using hr)

end Go.Proofs.Ytjcddbcokiaehaa
