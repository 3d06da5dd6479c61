/-
  The law TextWrites: texts as wholes; the least kind.
-/
import Derived.Test.YtalhdjjebcmloaaDoorTr
import Derived.Test.YtalhdjjebcmloaaDoorTs
import Derived.Test.YtalhdjjebcmloaaDoorWrp
import Derived.Deep.RegionHeld3
namespace Go.Proofs.YtalhdjjebcmloaaDoor
open Go.RowKit Go.Shelf
set_option linter.unusedVariables false
set_option linter.unusedSimpArgs false
set_option maxRecDepth 4000

theorem below_st {a b c : World} (h : Below a.heap.size a b) (k : Below b.heap.size b c) : Below a.heap.size a c := h.trans (Below.mono k h.size)

theorem wlen6 (t : Tg) (l : List UInt8) : (wrapB t l).length ≤ l.length + 100 := by
  unfold wrapB tagB lenB
  simp only [List.length_append]
  repeat' split
  all_goals first | (simp; omega) | simp | omega
/-- The law's own kind, when q kinds have been tried. -/
def kindAt (l : List UInt8) (q : Nat) : Int := if q = 0 then 20 else if q = 1 then (if rightT 12 l = true then 12 else 20) else leastK l

set_option maxHeartbeats 6400000 in
theorem writesWalk (k : Int) (A : Option Addr) (n0 c : Nat) (l0 : List UInt8) (s0 : ByteArray) (w : World) (hT : Tb w) (h : Bs w A n0 l0) (hc : n0 ≤ c) :
    Calls Tryd.prog 7 #[.agg #[.int .i64 k, .slice A n0 c], .string s0] w fun e w' => e = .returned (.bool true) ∧ Below w.heap.size w w' := by
  have hTo := lw6To k A n0 c (w.alloc (.cells #[.int .i64 k, .slice A n0 c] 24)) hc
  obtain ⟨n, hnn⟩ : ∃ n, min n0 500 = n := ⟨_, rfl⟩
  rw [hnn] at hTo
  have hn500 : n ≤ 500 := by omega
  have hnc : n ≤ c := by omega
  have hl := h.take (m := n) (by omega)
  generalize l0.take n = l at hl
  obtain ⟨ms, hms⟩ : ∃ ms, min s0.size 500 = ms := ⟨_, rfl⟩
  have hm1 : min (s0.size : Int) 500 = (ms : Int) := by omega
  have hm2 : (if (500 : Int) < (s0.size : Int) then (500 : Int) else (s0.size : Int)) = (ms : Int) := by split <;> omega
  have hm3 : (if (s0.size : Int) < 500 then (s0.size : Int) else (500 : Int)) = (ms : Int) := by split <;> omega
  have hsl : ∀ W : World, (Instr.slice 9 (.string s0) none (some (.int .i64 (ms : Int))) none).run Tryd.prog W = .ok (.string (s0.extract 0 ms)) W := fun W => by
    rw [run_slice_string_to_if W 9 s0 .i64 (ms : Int) Tryd.underlying9, if_pos (by omega), Int.toNat_natCast]
  have hs1 : (s0.extract 0 ms).size ≤ 500 := by simp; omega
  generalize s0.extract 0 ms = s1 at *
  have hb0 := below_alloc1 w (.cells #[.int .i64 k, .slice A n0 c] 24)
  obtain ⟨o0, o1, _, _⟩ := (Blk.new2 w (.int .i64 k) (.slice A n0 c) 24).two
  clear hnn h hc hms
  have hH5 := Lib.hid hn500
  have hHc := Lib.hid hnc
  have hHs := Lib.hid hs1
  clear hn500 hnc hs1
  go_enter Tryd.func7, Tryd.ntmps7
  go_wp2_with fail
  refine hTo.mono ?_
  rintro e w1 ⟨rfl, hb1⟩
  have hB1 : Below w.heap.size w w1 := hb0.trans (Below.mono hb1 (by simp))
  clear hTo hb0 hb1 o0 o1
  obtain ⟨W2, hW2⟩ : ∃ W2, w1.alloc (.cells #[.int .i64 k, .slice A n c] 25) = W2 := ⟨_, rfl⟩
  have hb2 : Below w1.heap.size w1 W2 := by rw [← hW2]; exact below_alloc1 _ _
  have hX2 : Blk W2 w1.heap.size 25 [.int .i64 k, .slice A n c] := by rw [← hW2]; exact Blk.new2 _ _ _ _
  have hB2 := hB1.trans (Below.mono hb2 hB1.size)
  have hl2 := hl.below hB2
  have hT2 := hT.below hB2
  obtain ⟨x0, x1, _, _⟩ := hX2.two
  clear hb2 hB1 hT hl
  generalize hgX : w1.heap.size = X at *
  have OF : Hid (∀ (u : Int) (A : Option Addr) (n c : Nat) (W : World), Calls Tryd.prog 14 #[.agg #[.int .i64 u, .slice A n c]] W fun e w' => e = .returned (.agg #[.int .i64 u, .slice A n c]) ∧ Below W.heap.size W w') := Lib.hid (fun u A n c W => lw6Of u A n c W)
  have hlen := Lib.hid hl2.len
  cases hr : rightT k l
  · have hWr := txWriteNo k A n c l W2 hT2 hl2 (by have := hH5.out; omega) hHc.out hr
    have hHr := Lib.hid hr
    clear hr
    go_wp2_with fail
    refine hWr.mono ?_
    rintro e w5 ⟨rfl, hb5⟩
    have hX5 := hX2.below hb5
    have hl5 := hl2.below hb5
    have hT5 := hT2.below hb5
    have hB5 := hB2.trans (Below.mono hb5 hB2.size)
    clear hW2 hWr hX2 hl2 hT2 hB2 hb5 x0 x1 hgX
    obtain ⟨x0, x1, _, _⟩ := hX5.two
    go_wp2_with fail
    refine (OF.out _ _ _ _ _).mono ?_
    rintro e w6 ⟨rfl, hb6⟩
    have hX6 := hX5.below hb6
    have hl6 := hl5.below hb6
    have hT6 := hT5.below hb6
    have hB6 := hB5.trans (Below.mono hb6 hB5.size)
    clear hX5 hl5 hT5 hB5 hb6 x0 x1
    have hSg := ref6Signs k A n c l w6 hl6 (by have := hH5.out; omega)
    go_wp2_with fail
    refine hSg.mono ?_
    rintro e w8 ⟨_, hno, hb8⟩
    obtain rfl := hno hHr.out
    have hX8 := hX6.below hb8
    have hT8 := hT6.below hb8
    have hB8 := hB6.trans (Below.mono hb8 hB6.size)
    clear hno hSg hX6 hl6 hT6 hB6 hb8
    have K8 : Hid (∀ W : World, Below w8.heap.size w8 W → (W.cell? ⟨X, 0, none⟩ = some (.int .i64 k) ∧ W.cell? ⟨X, 1, none⟩ = some (.slice A n c)) ∧ True) := Lib.hid (fun W hW => ⟨⟨(hX8.below hW).two.1, (hX8.below hW).two.2.1⟩, trivial⟩)
    go_wp2_with fail
    refine wp_region_held_drew (S := fun w' => w'.cell? ⟨X, 0, none⟩ = some (.int .i64 k) ∧ w'.cell? ⟨X, 1, none⟩ = some (.slice A n c)) (by kernel_rfl) ?_ (fun hHeld => ?_)
    · (try dsimp only); exact (K8.out _ (Below.drew (Below.refl _ _))).1
    refine wpAnyH_take (i := 0) (v := ?_) rfl (by kernel_rfl) (by kernel_rfl) (by kernel_rfl) (fun _ _ _ h => h) (Or.inl ⟨by kernel_rfl, ?_⟩) (by assumption) ?_
    rotate_left 1
    · (intro w hSw; (try dsimp only at hSw); go_simp) <;> (try with_reducible rfl)
    try simp only [Act.put, List.setIfInBounds_toArray, List.set_cons_zero, List.set_cons_succ, List.getElem_toArray, List.getElem_cons_succ, List.getElem_cons_zero]
    refine wpAnyH_take (i := 1) (v := ?_) rfl (by kernel_rfl) (by kernel_rfl) (by kernel_rfl) (fun _ _ _ h => h) (Or.inl ⟨by kernel_rfl, ?_⟩) (by assumption) ?_
    rotate_left 1
    · (intro w hSw; (try dsimp only at hSw); go_simp) <;> (try with_reducible rfl)
    try simp only [Act.put, List.setIfInBounds_toArray, List.set_cons_zero, List.set_cons_succ, List.getElem_toArray, List.getElem_cons_succ, List.getElem_cons_zero]
    refine wpAnyH_take (i := 2) (v := undef) rfl (by kernel_rfl) (by kernel_rfl) (by kernel_rfl) (fun _ _ _ h => h) (Or.inr ⟨by kernel_rfl, rfl⟩) (by assumption) ?_
    try simp only [Act.put, List.setIfInBounds_toArray, List.set_cons_zero, List.set_cons_succ, List.getElem_toArray, List.getElem_cons_succ, List.getElem_cons_zero]
    refine wpAnyH_take (i := 3) (v := undef) rfl (by kernel_rfl) (by kernel_rfl) (by kernel_rfl) (fun _ _ _ h => h) (Or.inr ⟨by kernel_rfl, rfl⟩) (by assumption) ?_
    try simp only [Act.put, List.setIfInBounds_toArray, List.set_cons_zero, List.set_cons_succ, List.getElem_toArray, List.getElem_cons_succ, List.getElem_cons_zero]
    refine wpAnyH_take (i := 4) (v := undef) rfl (by kernel_rfl) (by kernel_rfl) (by kernel_rfl) (fun _ _ _ h => h) (Or.inr ⟨by kernel_rfl, rfl⟩) (by assumption) ?_
    try simp only [Act.put, List.setIfInBounds_toArray, List.set_cons_zero, List.set_cons_succ, List.getElem_toArray, List.getElem_cons_succ, List.getElem_cons_zero]
    refine wpAnyH_take (i := 5) (v := undef) rfl (by kernel_rfl) (by kernel_rfl) (by kernel_rfl) (fun _ _ _ h => h) (Or.inr ⟨by kernel_rfl, rfl⟩) (by assumption) ?_
    try simp only [Act.put, List.setIfInBounds_toArray, List.set_cons_zero, List.set_cons_succ, List.getElem_toArray, List.getElem_cons_succ, List.getElem_cons_zero]
    refine wpAnyH_take (i := 6) (v := undef) rfl (by kernel_rfl) (by kernel_rfl) (by kernel_rfl) (fun _ _ _ h => h) (Or.inr ⟨by kernel_rfl, rfl⟩) (by assumption) ?_
    try simp only [Act.put, List.setIfInBounds_toArray, List.set_cons_zero, List.set_cons_succ, List.getElem_toArray, List.getElem_cons_succ, List.getElem_cons_zero]
    refine wpAnyH_take (i := 7) (v := undef) rfl (by kernel_rfl) (by kernel_rfl) (by kernel_rfl) (fun _ _ _ h => h) (Or.inr ⟨by kernel_rfl, rfl⟩) (by assumption) ?_
    try simp only [Act.put, List.setIfInBounds_toArray, List.set_cons_zero, List.set_cons_succ, List.getElem_toArray, List.getElem_cons_succ, List.getElem_cons_zero]
    refine wpAnyH_take (i := 8) (v := undef) rfl (by kernel_rfl) (by kernel_rfl) (by kernel_rfl) (fun _ _ _ h => h) (Or.inr ⟨by kernel_rfl, rfl⟩) (by assumption) ?_
    try simp only [Act.put, List.setIfInBounds_toArray, List.set_cons_zero, List.set_cons_succ, List.getElem_toArray, List.getElem_cons_succ, List.getElem_cons_zero]
    refine wpAnyH_take (i := 9) (v := undef) rfl (by kernel_rfl) (by kernel_rfl) (by kernel_rfl) (fun _ _ _ h => h) (Or.inr ⟨by kernel_rfl, rfl⟩) (by assumption) ?_
    try simp only [Act.put, List.setIfInBounds_toArray, List.set_cons_zero, List.set_cons_succ, List.getElem_toArray, List.getElem_cons_succ, List.getElem_cons_zero]
    refine wpAnyH_take (i := 10) (v := undef) rfl (by kernel_rfl) (by kernel_rfl) (by kernel_rfl) (fun _ _ _ h => h) (Or.inr ⟨by kernel_rfl, rfl⟩) (by assumption) ?_
    try simp only [Act.put, List.setIfInBounds_toArray, List.set_cons_zero, List.set_cons_succ, List.getElem_toArray, List.getElem_cons_succ, List.getElem_cons_zero]
    refine wpAnyH_take (i := 11) (v := undef) rfl (by kernel_rfl) (by kernel_rfl) (by kernel_rfl) (fun _ _ _ h => h) (Or.inr ⟨by kernel_rfl, rfl⟩) (by assumption) ?_
    try simp only [Act.put, List.setIfInBounds_toArray, List.set_cons_zero, List.set_cons_succ, List.getElem_toArray, List.getElem_cons_succ, List.getElem_cons_zero]
    refine wpAnyH_take (i := 12) (v := undef) rfl (by kernel_rfl) (by kernel_rfl) (by kernel_rfl) (fun _ _ _ h => h) (Or.inr ⟨by kernel_rfl, rfl⟩) (by assumption) ?_
    try simp only [Act.put, List.setIfInBounds_toArray, List.set_cons_zero, List.set_cons_succ, List.getElem_toArray, List.getElem_cons_succ, List.getElem_cons_zero]
    refine wpAnyH_take (i := 13) (v := undef) rfl (by kernel_rfl) (by kernel_rfl) (by kernel_rfl) (fun _ _ _ h => h) (Or.inr ⟨by kernel_rfl, rfl⟩) (by assumption) ?_
    try simp only [Act.put, List.setIfInBounds_toArray, List.set_cons_zero, List.set_cons_succ, List.getElem_toArray, List.getElem_cons_succ, List.getElem_cons_zero]
    refine wpAnyH_take (i := 14) (v := undef) rfl (by kernel_rfl) (by kernel_rfl) (by kernel_rfl) (fun _ _ _ h => h) (Or.inr ⟨by kernel_rfl, rfl⟩) (by assumption) ?_
    try simp only [Act.put, List.setIfInBounds_toArray, List.set_cons_zero, List.set_cons_succ, List.getElem_toArray, List.getElem_cons_succ, List.getElem_cons_zero]
    refine wpAnyH_take (i := 15) (v := ?_) rfl (by kernel_rfl) (by kernel_rfl) (by kernel_rfl) (fun _ _ _ h => h) (Or.inl ⟨by kernel_rfl, ?_⟩) (by assumption) ?_
    rotate_left 1
    · (intro w hSw; (try dsimp only at hSw); go_simp) <;> (try with_reducible rfl)
    try simp only [Act.put, List.setIfInBounds_toArray, List.set_cons_zero, List.set_cons_succ, List.getElem_toArray, List.getElem_cons_succ, List.getElem_cons_zero]
    refine wpAnyH_take (i := 16) (v := ?_) rfl (by kernel_rfl) (by kernel_rfl) (by kernel_rfl) (fun _ _ _ h => h) (Or.inl ⟨by kernel_rfl, ?_⟩) (by assumption) ?_
    rotate_left 1
    · (intro w hSw; (try dsimp only at hSw); go_simp) <;> (try with_reducible rfl)
    try simp only [Act.put, List.setIfInBounds_toArray, List.set_cons_zero, List.set_cons_succ, List.getElem_toArray, List.getElem_cons_succ, List.getElem_cons_zero]
    refine wpAnyH_take (i := 17) (v := ?_) rfl (by kernel_rfl) (by kernel_rfl) (by kernel_rfl) (fun _ _ _ h => h) (Or.inl ⟨by kernel_rfl, ?_⟩) (by assumption) ?_
    rotate_left 1
    · (intro w hSw; (try dsimp only at hSw); go_simp) <;> (try with_reducible rfl)
    try simp only [Act.put, List.setIfInBounds_toArray, List.set_cons_zero, List.set_cons_succ, List.getElem_toArray, List.getElem_cons_succ, List.getElem_cons_zero]
    refine wpAnyH_take (i := 18) (v := ?_) rfl (by kernel_rfl) (by kernel_rfl) (by kernel_rfl) (fun _ _ _ h => h) (Or.inl ⟨by kernel_rfl, ?_⟩) (by assumption) ?_
    rotate_left 1
    · (intro w hSw; (try dsimp only at hSw); go_simp) <;> (try with_reducible rfl)
    try simp only [Act.put, List.setIfInBounds_toArray, List.set_cons_zero, List.set_cons_succ, List.getElem_toArray, List.getElem_cons_succ, List.getElem_cons_zero]
    refine wpAnyH_take (i := 19) (v := ?_) rfl (by kernel_rfl) (by kernel_rfl) (by kernel_rfl) (fun _ _ _ h => h) (Or.inl ⟨by kernel_rfl, ?_⟩) (by assumption) ?_
    rotate_left 1
    · (intro w hSw; (try dsimp only at hSw); go_simp) <;> (try with_reducible rfl)
    try simp only [Act.put, List.setIfInBounds_toArray, List.set_cons_zero, List.set_cons_succ, List.getElem_toArray, List.getElem_cons_succ, List.getElem_cons_zero]
    refine wpAnyH_take (i := 20) (v := ?_) rfl (by kernel_rfl) (by kernel_rfl) (by kernel_rfl) (fun _ _ _ h => h) (Or.inl ⟨by kernel_rfl, ?_⟩) (by assumption) ?_
    rotate_left 1
    · (intro w hSw; (try dsimp only at hSw); go_simp) <;> (try with_reducible rfl)
    try simp only [Act.put, List.setIfInBounds_toArray, List.set_cons_zero, List.set_cons_succ, List.getElem_toArray, List.getElem_cons_succ, List.getElem_cons_zero]
    refine wpAnyH_take (i := 21) (v := ?_) rfl (by kernel_rfl) (by kernel_rfl) (by kernel_rfl) (fun _ _ _ h => h) (Or.inl ⟨by kernel_rfl, ?_⟩) (by assumption) ?_
    rotate_left 1
    · (intro w hSw; (try dsimp only at hSw); go_simp) <;> (try with_reducible rfl)
    try simp only [Act.put, List.setIfInBounds_toArray, List.set_cons_zero, List.set_cons_succ, List.getElem_toArray, List.getElem_cons_succ, List.getElem_cons_zero]
    refine wpAnyH_take (i := 22) (v := ?_) rfl (by kernel_rfl) (by kernel_rfl) (by kernel_rfl) (fun _ _ _ h => h) (Or.inl ⟨by kernel_rfl, ?_⟩) (by assumption) ?_
    rotate_left 1
    · (intro w hSw; (try dsimp only at hSw); go_simp) <;> (try with_reducible rfl)
    try simp only [Act.put, List.setIfInBounds_toArray, List.set_cons_zero, List.set_cons_succ, List.getElem_toArray, List.getElem_cons_succ, List.getElem_cons_zero]
    refine wpAnyH_take (i := 23) (v := ?_) rfl (by kernel_rfl) (by kernel_rfl) (by kernel_rfl) (fun _ _ _ h => h) (Or.inl ⟨by kernel_rfl, ?_⟩) (by assumption) ?_
    rotate_left 1
    · (intro w hSw; (try dsimp only at hSw); go_simp) <;> (try with_reducible rfl)
    try simp only [Act.put, List.setIfInBounds_toArray, List.set_cons_zero, List.set_cons_succ, List.getElem_toArray, List.getElem_cons_succ, List.getElem_cons_zero]
    refine wpAnyH_take (i := 24) (v := ?_) rfl (by kernel_rfl) (by kernel_rfl) (by kernel_rfl) (fun _ _ _ h => h) (Or.inl ⟨by kernel_rfl, ?_⟩) (by assumption) ?_
    rotate_left 1
    · (intro w hSw; (try dsimp only at hSw); go_simp) <;> (try with_reducible rfl)
    try simp only [Act.put, List.setIfInBounds_toArray, List.set_cons_zero, List.set_cons_succ, List.getElem_toArray, List.getElem_cons_succ, List.getElem_cons_zero]
    refine wpAnyH_take (i := 25) (v := ?_) rfl (by kernel_rfl) (by kernel_rfl) (by kernel_rfl) (fun _ _ _ h => h) (Or.inl ⟨by kernel_rfl, ?_⟩) (by assumption) ?_
    rotate_left 1
    · (intro w hSw; (try dsimp only at hSw); go_simp) <;> (try with_reducible rfl)
    try simp only [Act.put, List.setIfInBounds_toArray, List.set_cons_zero, List.set_cons_succ, List.getElem_toArray, List.getElem_cons_succ, List.getElem_cons_zero]
    refine wpAnyH_take (i := 26) (v := ?_) rfl (by kernel_rfl) (by kernel_rfl) (by kernel_rfl) (fun _ _ _ h => h) (Or.inl ⟨by kernel_rfl, ?_⟩) (by assumption) ?_
    rotate_left 1
    · (intro w hSw; (try dsimp only at hSw); go_simp) <;> (try with_reducible rfl)
    try simp only [Act.put, List.setIfInBounds_toArray, List.set_cons_zero, List.set_cons_succ, List.getElem_toArray, List.getElem_cons_succ, List.getElem_cons_zero]
    refine wpAnyH_take (i := 27) (v := ?_) rfl (by kernel_rfl) (by kernel_rfl) (by kernel_rfl) (fun _ _ _ h => h) (Or.inl ⟨by kernel_rfl, ?_⟩) (by assumption) ?_
    rotate_left 1
    · (intro w hSw; (try dsimp only at hSw); go_simp) <;> (try with_reducible rfl)
    try simp only [Act.put, List.setIfInBounds_toArray, List.set_cons_zero, List.set_cons_succ, List.getElem_toArray, List.getElem_cons_succ, List.getElem_cons_zero]
    refine wpAnyH_take (i := 28) (v := ?_) rfl (by kernel_rfl) (by kernel_rfl) (by kernel_rfl) (fun _ _ _ h => h) (Or.inl ⟨by kernel_rfl, ?_⟩) (by assumption) ?_
    rotate_left 1
    · (intro w hSw; (try dsimp only at hSw); go_simp) <;> (try with_reducible rfl)
    try simp only [Act.put, List.setIfInBounds_toArray, List.set_cons_zero, List.set_cons_succ, List.getElem_toArray, List.getElem_cons_succ, List.getElem_cons_zero]
    refine wpAnyH_done (by kernel_rfl) ?_ _

    have bz : Below w8.heap.size w8 w8.drew := Below.drew (Below.refl _ _)
    have kz : True := trivial
    generalize hwz : w8.drew = wz at *
    clear hwz K8 hX8
    have hBz := hB8.trans (Below.mono bz hB8.size)
    have hTz := hT8.below bz
    clear kz
    obtain ⟨W9, hW9⟩ : ∃ W9, wz.alloc (.cells #[.int .i64 12, .int .i64 19] 3) = W9 := ⟨_, rfl⟩
    have hb9 : Below wz.heap.size wz W9 := by rw [← hW9]; exact below_alloc1 _ _
    have hL9 : Blk W9 wz.heap.size 3 [.int .i64 12, .int .i64 19] := by rw [← hW9]; exact Blk.new2 _ _ _ _
    have hB9 := hBz.trans (Below.mono hb9 hBz.size)
    have hT9 := hTz.below hb9
    generalize hgL : wz.heap.size = G at *
    clear hb9 hBz hTz bz
    go_wp2
    go_loopw [10, 64] (fun kd i wr => ∃ q : Nat, q ≤ 2 ∧ i = .int .i64 (q : Int) ∧ kd = .int .i64 (kindAt s1.data.toList q) ∧ Below W9.heap.size W9 wr) (fun kd i _ => 2 - (intOf i).toNat)
    case atStart => exact ⟨0, by omega, rfl, rfl, Below.refl _ _⟩
    case round =>
      clear hW9 hgL
      obtain ⟨q, hq, rfl, rfl, hbr⟩ := hrel
      have hLr := hL9.below hbr
      have l0 := hLr.cell 0
      have l1 := hLr.cell 1
      simp only [List.getElem?_cons_zero, List.getElem?_cons_succ] at l0 l1
      have hTr := hT9.below hbr
      have hq3 : q = 0 ∨ q = 1 ∨ q = 2 := by omega
      rcases hq3 with rfl | rfl | rfl
      · obtain ⟨cs, Wc, hcv, hcs, hbs, hbc, _⟩ := strBytes s1 wr
        have hSg := ref6Signs 12 _ s1.size cs _ Wc hbs (by have := hHs.out; omega)
        have hbW := hbr.trans (Below.mono hbc hbr.size)
        cases hr12 : rightT 12 s1.data.toList
        · have hHr := Lib.hid hr12
          clear hr12
          go_wp2_with fail
          refine hSg.mono ?_
          rintro e w6 ⟨_, hno, hb6⟩
          obtain rfl := hno hHr.out
          have hb7 := hbW.trans (Below.mono hb6 hbW.size)
          clear hno hSg hcv l0 l1 hbs hb6
          go_wp2
          go_roundw
          case rel => exact ⟨1, by omega, by first | rfl | go_num, by simp [kindAt, hHr.out], hb7⟩
          case measure => simp [intOf]
        · have hHr := Lib.hid hr12
          clear hr12
          go_wp2_with fail
          refine hSg.mono ?_
          rintro e w6 ⟨hyes, _, hb6⟩
          obtain ⟨v6, rfl, _⟩ := hyes hHr.out
          have hb7 := hbW.trans (Below.mono hb6 hbW.size)
          clear hyes hSg hcv l0 l1 hbs hb6
          go_wp2
          go_roundw
          case rel => exact ⟨1, by omega, by first | rfl | go_num, by simp [kindAt, hHr.out], hb7⟩
          case measure => simp [intOf]
      · obtain ⟨cs, Wc, hcv, hcs, hbs, hbc, _⟩ := strBytes s1 wr
        have hSg := ref6Signs 19 _ s1.size cs _ Wc hbs (by have := hHs.out; omega)
        have hbW := hbr.trans (Below.mono hbc hbr.size)
        cases hr19 : rightT 19 s1.data.toList
        · have hHr := Lib.hid hr19
          clear hr19
          go_wp2_with fail
          refine hSg.mono ?_
          rintro e w6 ⟨_, hno, hb6⟩
          obtain rfl := hno hHr.out
          have hb7 := hbW.trans (Below.mono hb6 hbW.size)
          clear hno hSg hcv l0 l1 hbs hb6
          go_wp2
          go_roundw
          case rel => exact ⟨2, by omega, by first | rfl | go_num, by simp [kindAt, leastK, hHr.out], hb7⟩
          case measure => simp [intOf]
        · have hHr := Lib.hid hr19
          clear hr19
          go_wp2_with fail
          refine hSg.mono ?_
          rintro e w6 ⟨hyes, _, hb6⟩
          obtain ⟨v6, rfl, _⟩ := hyes hHr.out
          have hb7 := hbW.trans (Below.mono hb6 hbW.size)
          clear hyes hSg hcv l0 l1 hbs hb6
          go_wp2
          go_roundw
          case rel => exact ⟨2, by omega, by first | rfl | go_num, by simp [kindAt, leastK, hHr.out], hb7⟩
          case measure => simp [intOf]
      · rw [show kindAt s1.data.toList 2 = leastK s1.data.toList from rfl]
        have KN := known6 wr hTr
        go_wp2_with fail
        refine KN.mono ?_
        rintro e wa ⟨rfl, hba⟩
        have hbA := hbr.trans (Below.mono hba hbr.size)
        have hLs := txLeast s1 wa (hT9.below hbA) (by have := hHs.out; omega)
        clear KN hba l0 l1
        go_wp2_with fail
        refine hLs.mono ?_
        rintro e wb ⟨Al, cl, rfl, hbl, hcl, hbb⟩
        have hbB := hbA.trans (Below.mono hbb hbA.size)
        clear hLs hbb
        go_wp2_with fail
        refine (OF.out _ _ _ _ _).mono ?_
        rintro e wd ⟨rfl, hbd⟩
        have hbD := hbB.trans (Below.mono hbd hbB.size)
        have hbl2 := hbl.below hbd
        obtain ⟨cs, Wc, hcv, hcs, hbs, hbc, _⟩ := strBytes s1 wd
        have hbE := hbD.trans (Below.mono hbc hbD.size)
        have hSm := rf6Same (leastK s1.data.toList) (leastK s1.data.toList) _ _ s1.size s1.size cl cs _ _ Wc (hbl2.below hbc) hbs
        rw [decide_eq_true rfl] at hSm
        clear hbd hbl hbc
        go_wp2_with fail
        refine hSm.mono ?_
        rintro e wf ⟨rfl, hbf⟩
        have hbF := hbE.trans (Below.mono hbf hbE.size)
        clear hSm hcv
        go_wp2
        go_ret
        exact ⟨rfl, hB9.trans (Below.mono hbF hB9.size)⟩
  · have hWr := txWriteYes k A n c l W2 hT2 hl2 (by have := hH5.out; omega) hHc.out hr
    have hk : isK k = true := by unfold rightT at hr; simp only [Bool.and_eq_true] at hr; exact hr.1
    have hHrt : Hid (tg6 k).right := Lib.hid (((Tg.rightB_iff _).1 (tg6_right hk)))
    have hHr := Lib.hid hr
    clear hr hk
    go_wp2_with fail
    refine hWr.mono ?_
    rintro e w5 ⟨Aw, nw, cw, rfl, hob5, hb5⟩
    have hbw5 := hob5.bs.1
    have hX5 := hX2.below hb5
    have hl5 := hl2.below hb5
    have hT5 := hT2.below hb5
    have hB5 := hB2.trans (Below.mono hb5 hB2.size)
    have hHnw : Hid (nw ≤ 1099511) := Lib.hid (by have := hbw5.len; have := wlen6 (tg6 k) l; have := hlen.out; have := hH5.out; omega)
    have hHnw2 : Hid ((wrapB (tg6 k) l).length ≤ 1099511) := Lib.hid (by have := wlen6 (tg6 k) l; have := hlen.out; have := hH5.out; omega)
    clear hW2 hWr hX2 hl2 hT2 hB2 hb5 x0 x1 hgX hob5
    obtain ⟨x0, x1, _, _⟩ := hX5.two
    go_wp2_with fail
    refine (OF.out _ _ _ _ _).mono ?_
    rintro e w6 ⟨rfl, hb6⟩
    have hX6 := hX5.below hb6
    have hl6 := hl5.below hb6
    have hT6 := hT5.below hb6
    have hbw6 := hbw5.below hb6
    have hB6 := hB5.trans (Below.mono hb6 hB5.size)
    clear hX5 hl5 hT5 hB5 hb6 x0 x1 hbw5
    have hSg := ref6Signs k A n c l w6 hl6 (by have := hH5.out; omega)
    go_wp2_with fail
    refine hSg.mono ?_
    rintro e w8 ⟨hyes, _, hb8⟩
    obtain ⟨v8, rfl, _⟩ := hyes hHr.out
    have hX8 := hX6.below hb8
    have hT8 := hT6.below hb8
    have hl8 := hl6.below hb8
    have hbw8 := hbw6.below hb8
    have hB8 := hB6.trans (Below.mono hb8 hB6.size)
    clear hyes hSg hX6 hl6 hT6 hB6 hb8 hbw6
    have K8 : Hid (∀ W : World, Below w8.heap.size w8 W → (W.cell? ⟨X, 0, none⟩ = some (.int .i64 k) ∧ W.cell? ⟨X, 1, none⟩ = some (.slice A n c)) ∧ Bs W Aw nw (wrapB (tg6 k) l) ∧ Bs W A n l ∧ True) := Lib.hid (fun W hW => ⟨⟨(hX8.below hW).two.1, (hX8.below hW).two.2.1⟩, hbw8.below hW, hl8.below hW, trivial⟩)
    go_wp2_with fail
    refine wp_region_held_drew (S := fun w' => w'.cell? ⟨X, 0, none⟩ = some (.int .i64 k) ∧ w'.cell? ⟨X, 1, none⟩ = some (.slice A n c)) (by kernel_rfl) ?_ (fun hHeld => ?_)
    · (try dsimp only); exact (K8.out _ (Below.drew (Below.refl _ _))).1
    refine wpAnyH_take (i := 0) (v := ?_) rfl (by kernel_rfl) (by kernel_rfl) (by kernel_rfl) (fun _ _ _ h => h) (Or.inl ⟨by kernel_rfl, ?_⟩) (by assumption) ?_
    rotate_left 1
    · (intro w hSw; (try dsimp only at hSw); go_simp) <;> (try with_reducible rfl)
    try simp only [Act.put, List.setIfInBounds_toArray, List.set_cons_zero, List.set_cons_succ, List.getElem_toArray, List.getElem_cons_succ, List.getElem_cons_zero]
    refine wpAnyH_take (i := 1) (v := ?_) rfl (by kernel_rfl) (by kernel_rfl) (by kernel_rfl) (fun _ _ _ h => h) (Or.inl ⟨by kernel_rfl, ?_⟩) (by assumption) ?_
    rotate_left 1
    · (intro w hSw; (try dsimp only at hSw); go_simp) <;> (try with_reducible rfl)
    try simp only [Act.put, List.setIfInBounds_toArray, List.set_cons_zero, List.set_cons_succ, List.getElem_toArray, List.getElem_cons_succ, List.getElem_cons_zero]
    refine wpAnyH_take (i := 2) (v := ?_) rfl (by kernel_rfl) (by kernel_rfl) (by kernel_rfl) (fun _ _ _ h => h) (Or.inl ⟨by kernel_rfl, ?_⟩) (by assumption) ?_
    rotate_left 1
    · (intro w hSw; (try dsimp only at hSw); go_simp) <;> (try with_reducible rfl)
    try simp only [Act.put, List.setIfInBounds_toArray, List.set_cons_zero, List.set_cons_succ, List.getElem_toArray, List.getElem_cons_succ, List.getElem_cons_zero]
    refine wpAnyH_take (i := 3) (v := ?_) rfl (by kernel_rfl) (by kernel_rfl) (by kernel_rfl) (fun _ _ _ h => h) (Or.inl ⟨by kernel_rfl, ?_⟩) (by assumption) ?_
    rotate_left 1
    · (intro w hSw; (try dsimp only at hSw); go_simp) <;> (try with_reducible rfl)
    try simp only [Act.put, List.setIfInBounds_toArray, List.set_cons_zero, List.set_cons_succ, List.getElem_toArray, List.getElem_cons_succ, List.getElem_cons_zero]
    refine wpAnyH_take (i := 4) (v := ?_) rfl (by kernel_rfl) (by kernel_rfl) (by kernel_rfl) (fun _ _ _ h => h) (Or.inl ⟨by kernel_rfl, ?_⟩) (by assumption) ?_
    rotate_left 1
    · (intro w hSw; (try dsimp only at hSw); go_simp) <;> (try with_reducible rfl)
    try simp only [Act.put, List.setIfInBounds_toArray, List.set_cons_zero, List.set_cons_succ, List.getElem_toArray, List.getElem_cons_succ, List.getElem_cons_zero]
    refine wpAnyH_take (i := 5) (v := ?_) rfl (by kernel_rfl) (by kernel_rfl) (by kernel_rfl) (fun _ _ _ h => h) (Or.inl ⟨by kernel_rfl, ?_⟩) (by assumption) ?_
    rotate_left 1
    · (intro w hSw; (try dsimp only at hSw); go_simp) <;> (try with_reducible rfl)
    try simp only [Act.put, List.setIfInBounds_toArray, List.set_cons_zero, List.set_cons_succ, List.getElem_toArray, List.getElem_cons_succ, List.getElem_cons_zero]
    refine wpAnyH_take (i := 6) (v := ?_) rfl (by kernel_rfl) (by kernel_rfl) (by kernel_rfl) (fun _ _ _ h => h) (Or.inl ⟨by kernel_rfl, ?_⟩) (by assumption) ?_
    rotate_left 1
    · (intro w hSw; (try dsimp only at hSw); go_simp) <;> (try with_reducible rfl)
    try simp only [Act.put, List.setIfInBounds_toArray, List.set_cons_zero, List.set_cons_succ, List.getElem_toArray, List.getElem_cons_succ, List.getElem_cons_zero]
    refine wpAnyH_take (i := 7) (v := ?_) rfl (by kernel_rfl) (by kernel_rfl) (by kernel_rfl) (fun _ _ _ h => h) (Or.inl ⟨by kernel_rfl, ?_⟩) (by assumption) ?_
    rotate_left 1
    · (intro w hSw; (try dsimp only at hSw); go_simp) <;> (try with_reducible rfl)
    try simp only [Act.put, List.setIfInBounds_toArray, List.set_cons_zero, List.set_cons_succ, List.getElem_toArray, List.getElem_cons_succ, List.getElem_cons_zero]
    refine wpAnyH_take (i := 9) (v := ?_) rfl (by kernel_rfl) (by kernel_rfl) (by kernel_rfl) (fun _ _ _ h => h) (Or.inl ⟨by kernel_rfl, ?_⟩) (by assumption) ?_
    rotate_left 1
    · (intro w hSw; (try dsimp only at hSw); go_simp) <;> (try with_reducible rfl)
    try simp only [Act.put, List.setIfInBounds_toArray, List.set_cons_zero, List.set_cons_succ, List.getElem_toArray, List.getElem_cons_succ, List.getElem_cons_zero]
    refine wpAnyH_take (i := 10) (v := ?_) rfl (by kernel_rfl) (by kernel_rfl) (by kernel_rfl) (fun _ _ _ h => h) (Or.inl ⟨by kernel_rfl, ?_⟩) (by assumption) ?_
    rotate_left 1
    · (intro w hSw; (try dsimp only at hSw); go_simp) <;> (try with_reducible rfl)
    try simp only [Act.put, List.setIfInBounds_toArray, List.set_cons_zero, List.set_cons_succ, List.getElem_toArray, List.getElem_cons_succ, List.getElem_cons_zero]
    refine wpAnyH_ready (rs := [8]) (by kernel_rfl) (by simp) ?_
    refine AllReadyH.cons rfl (fun K hK => ?_) AllReadyH.nil
    go_simp
    refine (refOf k _).mono ?_
    rintro e wq1 ⟨rfl, bq1⟩
    have bq1 := Below.trans (Below.drew (Below.refl _ _)) bq1
    have kq1 := K8.out _ bq1
    go_wp2_with fail
    refine hK.out _ _ ?_ (fun hHeld => ?_)
    · (try dsimp only); exact kq1.1
    clear hK K
    try simp only [Act.put, List.setIfInBounds_toArray, List.set_cons_zero, List.set_cons_succ, List.getElem_toArray, List.getElem_cons_succ, List.getElem_cons_zero]
    refine wpAnyH_ready (rs := [11]) (by kernel_rfl) (by simp) ?_
    refine AllReadyH.cons rfl (fun K hK => ?_) AllReadyH.nil
    go_simp
    refine (refWrap (tg6 k) A n c l _ hHrt.out kq1.2.2.1 (by have := hH5.out; omega)).mono ?_
    rintro e wq2 ⟨Aw2, nw2, cw2, rfl, obq2, bq2⟩
    have bq2 := bq1.trans (Below.mono bq2 bq1.size)
    have kq2 := K8.out _ bq2
    have bsq2 := obq2.bs.1
    go_wp2_with fail
    refine hK.out _ _ ?_ (fun hHeld => ?_)
    · (try dsimp only); exact kq2.1
    clear hK K
    try simp only [Act.put, List.setIfInBounds_toArray, List.set_cons_zero, List.set_cons_succ, List.getElem_toArray, List.getElem_cons_succ, List.getElem_cons_zero]
    refine wpAnyH_ready (rs := [12]) (by kernel_rfl) (by simp) ?_
    refine AllReadyH.cons rfl (fun K hK => ?_) AllReadyH.nil
    go_simp
    refine (refSame Aw Aw2 nw nw2 cw cw2 _ _ _ kq2.2.1 bsq2 (by have := hHnw.out; omega) (by have := bsq2.len; have := hHnw2.out; omega)).mono ?_
    rw [decide_eq_true rfl]
    rintro e wq3 ⟨rfl, qq3⟩
    have bq3 := bq2.trans (Below.mono qq3.below bq2.size)
    have kq3 := K8.out _ bq3
    go_wp2_with fail
    refine hK.out _ _ ?_ (fun hHeld => ?_)
    · (try dsimp only); exact kq3.1
    clear hK K
    try simp only [Act.put, List.setIfInBounds_toArray, List.set_cons_zero, List.set_cons_succ, List.getElem_toArray, List.getElem_cons_succ, List.getElem_cons_zero]
    refine wpAnyH_take (i := 13) (v := ?_) rfl (by kernel_rfl) (by kernel_rfl) (by kernel_rfl) (fun _ _ _ h => h) (Or.inl ⟨by kernel_rfl, ?_⟩) (by assumption) ?_
    rotate_left 1
    · (intro w hSw; (try dsimp only at hSw); go_simp) <;> (try with_reducible rfl)
    try simp only [Act.put, List.setIfInBounds_toArray, List.set_cons_zero, List.set_cons_succ, List.getElem_toArray, List.getElem_cons_succ, List.getElem_cons_zero]
    refine wpAnyH_take (i := 14) (v := ?_) rfl (by kernel_rfl) (by kernel_rfl) (by kernel_rfl) (fun _ _ _ h => h) (Or.inl ⟨by kernel_rfl, ?_⟩) (by assumption) ?_
    rotate_left 1
    · (intro w hSw; (try dsimp only at hSw); go_simp) <;> (try with_reducible rfl)
    try simp only [Act.put, List.setIfInBounds_toArray, List.set_cons_zero, List.set_cons_succ, List.getElem_toArray, List.getElem_cons_succ, List.getElem_cons_zero]
    refine wpAnyH_take (i := 15) (v := ?_) rfl (by kernel_rfl) (by kernel_rfl) (by kernel_rfl) (fun _ _ _ h => h) (Or.inl ⟨by kernel_rfl, ?_⟩) (by assumption) ?_
    rotate_left 1
    · (intro w hSw; (try dsimp only at hSw); go_simp) <;> (try with_reducible rfl)
    try simp only [Act.put, List.setIfInBounds_toArray, List.set_cons_zero, List.set_cons_succ, List.getElem_toArray, List.getElem_cons_succ, List.getElem_cons_zero]
    refine wpAnyH_take (i := 16) (v := ?_) rfl (by kernel_rfl) (by kernel_rfl) (by kernel_rfl) (fun _ _ _ h => h) (Or.inl ⟨by kernel_rfl, ?_⟩) (by assumption) ?_
    rotate_left 1
    · (intro w hSw; (try dsimp only at hSw); go_simp) <;> (try with_reducible rfl)
    try simp only [Act.put, List.setIfInBounds_toArray, List.set_cons_zero, List.set_cons_succ, List.getElem_toArray, List.getElem_cons_succ, List.getElem_cons_zero]
    refine wpAnyH_take (i := 17) (v := ?_) rfl (by kernel_rfl) (by kernel_rfl) (by kernel_rfl) (fun _ _ _ h => h) (Or.inl ⟨by kernel_rfl, ?_⟩) (by assumption) ?_
    rotate_left 1
    · (intro w hSw; (try dsimp only at hSw); go_simp) <;> (try with_reducible rfl)
    try simp only [Act.put, List.setIfInBounds_toArray, List.set_cons_zero, List.set_cons_succ, List.getElem_toArray, List.getElem_cons_succ, List.getElem_cons_zero]
    refine wpAnyH_take (i := 18) (v := ?_) rfl (by kernel_rfl) (by kernel_rfl) (by kernel_rfl) (fun _ _ _ h => h) (Or.inl ⟨by kernel_rfl, ?_⟩) (by assumption) ?_
    rotate_left 1
    · (intro w hSw; (try dsimp only at hSw); go_simp) <;> (try with_reducible rfl)
    try simp only [Act.put, List.setIfInBounds_toArray, List.set_cons_zero, List.set_cons_succ, List.getElem_toArray, List.getElem_cons_succ, List.getElem_cons_zero]
    refine wpAnyH_take (i := 19) (v := ?_) rfl (by kernel_rfl) (by kernel_rfl) (by kernel_rfl) (fun _ _ _ h => h) (Or.inl ⟨by kernel_rfl, ?_⟩) (by assumption) ?_
    rotate_left 1
    · (intro w hSw; (try dsimp only at hSw); go_simp) <;> (try with_reducible rfl)
    try simp only [Act.put, List.setIfInBounds_toArray, List.set_cons_zero, List.set_cons_succ, List.getElem_toArray, List.getElem_cons_succ, List.getElem_cons_zero]
    refine wpAnyH_take (i := 20) (v := undef) rfl (by kernel_rfl) (by kernel_rfl) (by kernel_rfl) (fun _ _ _ h => h) (Or.inr ⟨by kernel_rfl, rfl⟩) (by assumption) ?_
    try simp only [Act.put, List.setIfInBounds_toArray, List.set_cons_zero, List.set_cons_succ, List.getElem_toArray, List.getElem_cons_succ, List.getElem_cons_zero]
    refine wpAnyH_take (i := 21) (v := undef) rfl (by kernel_rfl) (by kernel_rfl) (by kernel_rfl) (fun _ _ _ h => h) (Or.inr ⟨by kernel_rfl, rfl⟩) (by assumption) ?_
    try simp only [Act.put, List.setIfInBounds_toArray, List.set_cons_zero, List.set_cons_succ, List.getElem_toArray, List.getElem_cons_succ, List.getElem_cons_zero]
    refine wpAnyH_take (i := 22) (v := undef) rfl (by kernel_rfl) (by kernel_rfl) (by kernel_rfl) (fun _ _ _ h => h) (Or.inr ⟨by kernel_rfl, rfl⟩) (by assumption) ?_
    try simp only [Act.put, List.setIfInBounds_toArray, List.set_cons_zero, List.set_cons_succ, List.getElem_toArray, List.getElem_cons_succ, List.getElem_cons_zero]
    refine wpAnyH_take (i := 23) (v := undef) rfl (by kernel_rfl) (by kernel_rfl) (by kernel_rfl) (fun _ _ _ h => h) (Or.inr ⟨by kernel_rfl, rfl⟩) (by assumption) ?_
    try simp only [Act.put, List.setIfInBounds_toArray, List.set_cons_zero, List.set_cons_succ, List.getElem_toArray, List.getElem_cons_succ, List.getElem_cons_zero]
    refine wpAnyH_take (i := 24) (v := undef) rfl (by kernel_rfl) (by kernel_rfl) (by kernel_rfl) (fun _ _ _ h => h) (Or.inr ⟨by kernel_rfl, rfl⟩) (by assumption) ?_
    try simp only [Act.put, List.setIfInBounds_toArray, List.set_cons_zero, List.set_cons_succ, List.getElem_toArray, List.getElem_cons_succ, List.getElem_cons_zero]
    refine wpAnyH_take (i := 25) (v := undef) rfl (by kernel_rfl) (by kernel_rfl) (by kernel_rfl) (fun _ _ _ h => h) (Or.inr ⟨by kernel_rfl, rfl⟩) (by assumption) ?_
    try simp only [Act.put, List.setIfInBounds_toArray, List.set_cons_zero, List.set_cons_succ, List.getElem_toArray, List.getElem_cons_succ, List.getElem_cons_zero]
    refine wpAnyH_take (i := 26) (v := undef) rfl (by kernel_rfl) (by kernel_rfl) (by kernel_rfl) (fun _ _ _ h => h) (Or.inr ⟨by kernel_rfl, rfl⟩) (by assumption) ?_
    try simp only [Act.put, List.setIfInBounds_toArray, List.set_cons_zero, List.set_cons_succ, List.getElem_toArray, List.getElem_cons_succ, List.getElem_cons_zero]
    refine wpAnyH_take (i := 27) (v := ?_) rfl (by kernel_rfl) (by kernel_rfl) (by kernel_rfl) (fun _ _ _ h => h) (Or.inl ⟨by kernel_rfl, ?_⟩) (by assumption) ?_
    rotate_left 1
    · (intro w hSw; (try dsimp only at hSw); go_simp) <;> (try with_reducible rfl)
    try simp only [Act.put, List.setIfInBounds_toArray, List.set_cons_zero, List.set_cons_succ, List.getElem_toArray, List.getElem_cons_succ, List.getElem_cons_zero]
    refine wpAnyH_take (i := 28) (v := ?_) rfl (by kernel_rfl) (by kernel_rfl) (by kernel_rfl) (fun _ _ _ h => h) (Or.inl ⟨by kernel_rfl, ?_⟩) (by assumption) ?_
    rotate_left 1
    · (intro w hSw; (try dsimp only at hSw); go_simp) <;> (try with_reducible rfl)
    try simp only [Act.put, List.setIfInBounds_toArray, List.set_cons_zero, List.set_cons_succ, List.getElem_toArray, List.getElem_cons_succ, List.getElem_cons_zero]
    refine wpAnyH_done (by kernel_rfl) ?_ _

    have bz := bq3
    have kz : True := trivial
    generalize hwz : wq3 = wz at *
    clear hwz K8 hX8 hbw8 hl8 kq1 kq2 kq3 bq1 bq2 qq3 bsq2 obq2 bq3
    have hBz := hB8.trans (Below.mono bz hB8.size)
    have hTz := hT8.below bz
    clear kz
    obtain ⟨W9, hW9⟩ : ∃ W9, wz.alloc (.cells #[.int .i64 12, .int .i64 19] 3) = W9 := ⟨_, rfl⟩
    have hb9 : Below wz.heap.size wz W9 := by rw [← hW9]; exact below_alloc1 _ _
    have hL9 : Blk W9 wz.heap.size 3 [.int .i64 12, .int .i64 19] := by rw [← hW9]; exact Blk.new2 _ _ _ _
    have hB9 := hBz.trans (Below.mono hb9 hBz.size)
    have hT9 := hTz.below hb9
    generalize hgL : wz.heap.size = G at *
    clear hb9 hBz hTz bz
    go_wp2
    go_loopw [10, 64] (fun kd i wr => ∃ q : Nat, q ≤ 2 ∧ i = .int .i64 (q : Int) ∧ kd = .int .i64 (kindAt s1.data.toList q) ∧ Below W9.heap.size W9 wr) (fun kd i _ => 2 - (intOf i).toNat)
    case atStart => exact ⟨0, by omega, rfl, rfl, Below.refl _ _⟩
    case round =>
      clear hW9 hgL
      obtain ⟨q, hq, rfl, rfl, hbr⟩ := hrel
      have hLr := hL9.below hbr
      have l0 := hLr.cell 0
      have l1 := hLr.cell 1
      simp only [List.getElem?_cons_zero, List.getElem?_cons_succ] at l0 l1
      have hTr := hT9.below hbr
      have hq3 : q = 0 ∨ q = 1 ∨ q = 2 := by omega
      rcases hq3 with rfl | rfl | rfl
      · obtain ⟨cs, Wc, hcv, hcs, hbs, hbc, _⟩ := strBytes s1 wr
        have hSg := ref6Signs 12 _ s1.size cs _ Wc hbs (by have := hHs.out; omega)
        have hbW := hbr.trans (Below.mono hbc hbr.size)
        cases hr12 : rightT 12 s1.data.toList
        · have hHr := Lib.hid hr12
          clear hr12
          go_wp2_with fail
          refine hSg.mono ?_
          rintro e w6 ⟨_, hno, hb6⟩
          obtain rfl := hno hHr.out
          have hb7 := hbW.trans (Below.mono hb6 hbW.size)
          clear hno hSg hcv l0 l1 hbs hb6
          go_wp2
          go_roundw
          case rel => exact ⟨1, by omega, by first | rfl | go_num, by simp [kindAt, hHr.out], hb7⟩
          case measure => simp [intOf]
        · have hHr := Lib.hid hr12
          clear hr12
          go_wp2_with fail
          refine hSg.mono ?_
          rintro e w6 ⟨hyes, _, hb6⟩
          obtain ⟨v6, rfl, _⟩ := hyes hHr.out
          have hb7 := hbW.trans (Below.mono hb6 hbW.size)
          clear hyes hSg hcv l0 l1 hbs hb6
          go_wp2
          go_roundw
          case rel => exact ⟨1, by omega, by first | rfl | go_num, by simp [kindAt, hHr.out], hb7⟩
          case measure => simp [intOf]
      · obtain ⟨cs, Wc, hcv, hcs, hbs, hbc, _⟩ := strBytes s1 wr
        have hSg := ref6Signs 19 _ s1.size cs _ Wc hbs (by have := hHs.out; omega)
        have hbW := hbr.trans (Below.mono hbc hbr.size)
        cases hr19 : rightT 19 s1.data.toList
        · have hHr := Lib.hid hr19
          clear hr19
          go_wp2_with fail
          refine hSg.mono ?_
          rintro e w6 ⟨_, hno, hb6⟩
          obtain rfl := hno hHr.out
          have hb7 := hbW.trans (Below.mono hb6 hbW.size)
          clear hno hSg hcv l0 l1 hbs hb6
          go_wp2
          go_roundw
          case rel => exact ⟨2, by omega, by first | rfl | go_num, by simp [kindAt, leastK, hHr.out], hb7⟩
          case measure => simp [intOf]
        · have hHr := Lib.hid hr19
          clear hr19
          go_wp2_with fail
          refine hSg.mono ?_
          rintro e w6 ⟨hyes, _, hb6⟩
          obtain ⟨v6, rfl, _⟩ := hyes hHr.out
          have hb7 := hbW.trans (Below.mono hb6 hbW.size)
          clear hyes hSg hcv l0 l1 hbs hb6
          go_wp2
          go_roundw
          case rel => exact ⟨2, by omega, by first | rfl | go_num, by simp [kindAt, leastK, hHr.out], hb7⟩
          case measure => simp [intOf]
      · rw [show kindAt s1.data.toList 2 = leastK s1.data.toList from rfl]
        have KN := known6 wr hTr
        go_wp2_with fail
        refine KN.mono ?_
        rintro e wa ⟨rfl, hba⟩
        have hbA := hbr.trans (Below.mono hba hbr.size)
        have hLs := txLeast s1 wa (hT9.below hbA) (by have := hHs.out; omega)
        clear KN hba l0 l1
        go_wp2_with fail
        refine hLs.mono ?_
        rintro e wb ⟨Al, cl, rfl, hbl, hcl, hbb⟩
        have hbB := hbA.trans (Below.mono hbb hbA.size)
        clear hLs hbb
        go_wp2_with fail
        refine (OF.out _ _ _ _ _).mono ?_
        rintro e wd ⟨rfl, hbd⟩
        have hbD := hbB.trans (Below.mono hbd hbB.size)
        have hbl2 := hbl.below hbd
        obtain ⟨cs, Wc, hcv, hcs, hbs, hbc, _⟩ := strBytes s1 wd
        have hbE := hbD.trans (Below.mono hbc hbD.size)
        have hSm := rf6Same (leastK s1.data.toList) (leastK s1.data.toList) _ _ s1.size s1.size cl cs _ _ Wc (hbl2.below hbc) hbs
        rw [decide_eq_true rfl] at hSm
        clear hbd hbl hbc
        go_wp2_with fail
        refine hSm.mono ?_
        rintro e wf ⟨rfl, hbf⟩
        have hbF := hbE.trans (Below.mono hbf hbE.size)
        clear hSm hcv
        go_wp2
        go_ret
        exact ⟨rfl, hB9.trans (Below.mono hbF hB9.size)⟩
end Go.Proofs.YtalhdjjebcmloaaDoor
