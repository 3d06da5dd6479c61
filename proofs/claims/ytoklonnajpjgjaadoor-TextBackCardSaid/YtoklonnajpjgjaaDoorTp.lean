/-
  The contracts of the law's To and Of, and of the reference's Same and Copy.
-/
import Derived.Test.YtoklonnajpjgjaaDoorTo
import Derived.Test.YtoklonnajpjgjaaDoorJoin
import Derived.Deep.RegionHeld3
import Derived.Deep.DeepCutAuto
import Derived.Deep.RegionLaw
namespace Go.Proofs.YtoklonnajpjgjaaDoor
open Go.RowKit Go.Shelf
set_option linter.unusedVariables false
set_option linter.unusedSimpArgs false
set_option maxRecDepth 4000

set_option maxHeartbeats 1600000 in
theorem lw6To (u : Int) (A : Option Addr) (n c : Nat) (w : World) (hc : n ≤ c) :
    Calls Tryd.prog 9 #[.agg #[.int .i64 u, .slice A n c]] w fun e w' => e = .returned (.agg #[.int .i64 u, .slice A (min n 500) c]) ∧ Below w.heap.size w w' := by
  have hO := (Blk.new2 w (.int .i64 u) (.slice A n c) 24).alloc (.cells #[.int .i64 0, .slice none 0 0] 25)
  have hP := Blk.new2 (w.alloc (.cells #[.int .i64 u, .slice A n c] 24)) (.int .i64 0) (.slice none 0 0) 25
  have hB := below_alloc2 w (.cells #[.int .i64 u, .slice A n c] 24) (.cells #[.int .i64 0, .slice none 0 0] 25)
  rw [World.size_alloc] at hP
  obtain ⟨o0, o1, _, _⟩ := hO.two
  obtain ⟨p0, p1, f0, f1⟩ := hP.two
  obtain ⟨m, hm⟩ : ∃ m, m = min n 500 := ⟨_, rfl⟩
  rw [← hm]
  have hmin : min (n : Int) 500 = (m : Int) := by omega
  have hmin2 : (if (500 : Int) < (n : Int) then (500 : Int) else (n : Int)) = (m : Int) := by split <;> omega
  have m0 : (0 : Int) ≤ (m : Int) := by omega
  have m1 : (m : Int) ≤ (c : Int) := by omega
  clear hm hO
  go_enter Tryd.func9, Tryd.ntmps9
  go_wp2
  generalize ((w.alloc (Obj.cells #[.int .i64 u, .slice A n c] 24)).alloc (Obj.cells #[.int .i64 0, .slice none 0 0] 25)) = W0 at *
  refine wp_region_held_drew (S := fun w' => w'.cell? ⟨w.heap.size, 0, none⟩ = some (.int .i64 u) ∧ w'.cell? ⟨w.heap.size, 1, none⟩ = some (.slice A n c)) (by kernel_rfl) ?hb0 (fun hHeld => ?_)
  case hb0 => (try dsimp only); exact ⟨o0, o1⟩
  refine wpAnyH_take (i := 0) (v := ?qv0) rfl (by kernel_rfl) (by kernel_rfl) (by kernel_rfl) (fun _ _ _ h => h) (Or.inl ⟨by kernel_rfl, ?qy0⟩) (by assumption) ?_
  case qy0 => (intro w hSw; (try dsimp only at hSw); go_simp) <;> (try with_reducible rfl)
  try simp only [Act.put, List.setIfInBounds_toArray, List.set_cons_zero, List.set_cons_succ, List.getElem_toArray, List.getElem_cons_succ, List.getElem_cons_zero]
  refine wpAnyH_take (i := 1) (v := ?qv1) rfl (by kernel_rfl) (by kernel_rfl) (by kernel_rfl) (fun _ _ _ h => h) (Or.inl ⟨by kernel_rfl, ?qy1⟩) (by assumption) ?_
  case qy1 => (intro w hSw; (try dsimp only at hSw); go_simp) <;> (try with_reducible rfl)
  try simp only [Act.put, List.setIfInBounds_toArray, List.set_cons_zero, List.set_cons_succ, List.getElem_toArray, List.getElem_cons_succ, List.getElem_cons_zero]
  refine wpAnyH_take (i := 2) (v := ?qv2) rfl (by kernel_rfl) (by kernel_rfl) (by kernel_rfl) (fun _ _ _ h => h) (Or.inl ⟨by kernel_rfl, ?qy2⟩) (by assumption) ?_
  case qy2 => (intro w hSw; (try dsimp only at hSw); go_simp) <;> (try with_reducible rfl)
  try simp only [Act.put, List.setIfInBounds_toArray, List.set_cons_zero, List.set_cons_succ, List.getElem_toArray, List.getElem_cons_succ, List.getElem_cons_zero]
  refine wpAnyH_take (i := 3) (v := ?qv3) rfl (by kernel_rfl) (by kernel_rfl) (by kernel_rfl) (fun _ _ _ h => h) (Or.inl ⟨by kernel_rfl, ?qy3⟩) (by assumption) ?_
  case qy3 => (intro w hSw; (try dsimp only at hSw); go_simp) <;> (try with_reducible rfl)
  try simp only [Act.put, List.setIfInBounds_toArray, List.set_cons_zero, List.set_cons_succ, List.getElem_toArray, List.getElem_cons_succ, List.getElem_cons_zero]
  refine wpAnyH_take (i := 4) (v := ?qv4) rfl (by kernel_rfl) (by kernel_rfl) (by kernel_rfl) (fun _ _ _ h => h) (Or.inl ⟨by kernel_rfl, ?qy4⟩) (by assumption) ?_
  case qy4 => (intro w hSw; (try dsimp only at hSw); go_simp) <;> (try with_reducible rfl)
  try simp only [Act.put, List.setIfInBounds_toArray, List.set_cons_zero, List.set_cons_succ, List.getElem_toArray, List.getElem_cons_succ, List.getElem_cons_zero]
  refine wpAnyH_take (i := 5) (v := ?qv5) rfl (by kernel_rfl) (by kernel_rfl) (by kernel_rfl) (fun _ _ _ h => h) (Or.inl ⟨by kernel_rfl, ?qy5⟩) (by assumption) ?_
  case qy5 => (intro w hSw; (try dsimp only at hSw); go_simp) <;> (try with_reducible rfl)
  try simp only [Act.put, List.setIfInBounds_toArray, List.set_cons_zero, List.set_cons_succ, List.getElem_toArray, List.getElem_cons_succ, List.getElem_cons_zero]
  refine wpAnyH_take (i := 6) (v := ?qv6) rfl (by kernel_rfl) (by kernel_rfl) (by kernel_rfl) (fun _ _ _ h => h) (Or.inl ⟨by kernel_rfl, ?qy6⟩) (by assumption) ?_
  case qy6 => (intro w hSw; (try dsimp only at hSw); go_simp) <;> (try with_reducible rfl)
  try simp only [Act.put, List.setIfInBounds_toArray, List.set_cons_zero, List.set_cons_succ, List.getElem_toArray, List.getElem_cons_succ, List.getElem_cons_zero]
  refine wpAnyH_take (i := 7) (v := ?qv7) rfl (by kernel_rfl) (by kernel_rfl) (by kernel_rfl) (fun _ _ _ h => h) (Or.inl ⟨by kernel_rfl, ?qy7⟩) (by assumption) ?_
  case qy7 => (intro w hSw; (try dsimp only at hSw); go_simp) <;> (try with_reducible rfl)
  try simp only [Act.put, List.setIfInBounds_toArray, List.set_cons_zero, List.set_cons_succ, List.getElem_toArray, List.getElem_cons_succ, List.getElem_cons_zero]
  refine wpAnyH_take (i := 8) (v := ?qv8) rfl (by kernel_rfl) (by kernel_rfl) (by kernel_rfl) (fun _ _ _ h => h) (Or.inl ⟨by kernel_rfl, ?qy8⟩) (by assumption) ?_
  case qy8 => (intro w hSw; (try dsimp only at hSw); go_simp) <;> (try with_reducible rfl)
  try simp only [Act.put, List.setIfInBounds_toArray, List.set_cons_zero, List.set_cons_succ, List.getElem_toArray, List.getElem_cons_succ, List.getElem_cons_zero]
  refine wpAnyH_take (i := 9) (v := ?qv9) rfl (by kernel_rfl) (by kernel_rfl) (by kernel_rfl) (fun _ _ _ h => h) (Or.inl ⟨by kernel_rfl, ?qy9⟩) (by assumption) ?_
  case qy9 => (intro w hSw; (try dsimp only at hSw); go_simp) <;> (try with_reducible rfl)
  try simp only [Act.put, List.setIfInBounds_toArray, List.set_cons_zero, List.set_cons_succ, List.getElem_toArray, List.getElem_cons_succ, List.getElem_cons_zero]
  refine wpAnyH_ready (rs := [10]) (by kernel_rfl) (by simp) ?_
  refine AllReadyH.cons rfl (fun K hK => ?_) AllReadyH.nil
  go_simp
  refine hK.out _ _ ?hs10a (fun hHeld => ?_)
  case hs10a => (try dsimp only); exact ⟨(cell_set2 (by omega) 0).trans o0, (cell_set2 (by omega) 1).trans o1⟩
  clear hK K
  try simp only [Act.put, List.setIfInBounds_toArray, List.set_cons_zero, List.set_cons_succ, List.getElem_toArray, List.getElem_cons_succ, List.getElem_cons_zero]
  refine wpAnyH_done (by kernel_rfl) ?_ _
  have hP2 := hP.put (.int .i64 u) (.slice A m c)
  have hB2 := below_set2 (R := w.heap.size + 1) hB hB.size (by omega) (.int .i64 u) (.slice A m c)
  obtain ⟨q0, q1, _, _⟩ := hP2.two
  generalize (W0.setCell ⟨w.heap.size + 1, 0, none⟩ (.int .i64 u)).setCell ⟨w.heap.size + 1, 1, none⟩ (.slice A m c) = W1 at *
  go_wp2
  refine bodyPost_ret (v := .agg #[.int .i64 u, .slice A m c]) (by simp [results, Tryd.results9, go_sem, q0, q1]) rfl ?_
  exact ⟨rfl, hB2.drew⟩

set_option maxHeartbeats 1600000 in
theorem lw6Of (u : Int) (A : Option Addr) (n c : Nat) (w : World) :
    Calls Tryd.prog 14 #[.agg #[.int .i64 u, .slice A n c]] w fun e w' => e = .returned (.agg #[.int .i64 u, .slice A n c]) ∧ Below w.heap.size w w' := by
  have hP := Blk.new2 (w.alloc (.cells #[.int .i64 u, .slice A n c] 25)) (.int .i64 0) (.slice none 0 0) 24
  have hB := below_alloc2 w (.cells #[.int .i64 u, .slice A n c] 25) (.cells #[.int .i64 0, .slice none 0 0] 24)
  rw [World.size_alloc] at hP
  have hO := (Blk.new2 w (.int .i64 u) (.slice A n c) 25).alloc (.cells #[.int .i64 0, .slice none 0 0] 24)
  obtain ⟨o0, o1, _, _⟩ := hO.two
  obtain ⟨p0, p1, f0, f1⟩ := hP.two
  have hP2 := hP.put (.int .i64 u) (.slice A n c)
  have hB2 := below_set2 (R := w.heap.size + 1) hB hB.size (by omega) (.int .i64 u) (.slice A n c)
  obtain ⟨q0, q1, _, _⟩ := hP2.two
  clear hP hO hP2
  go_enter Tryd.func14, Tryd.ntmps14
  go_upto_region 1 with (fail)
  generalize ((w.alloc (Obj.cells #[.int .i64 u, .slice A n c] 25)).alloc (Obj.cells #[.int .i64 0, .slice none 0 0] 24)) = W0 at *
  go_wp2
  refine bodyPost_ret (v := .agg #[.int .i64 u, .slice A n c]) (by simp [results, Tryd.results14, go_sem, q0, q1]) rfl ?_
  exact ⟨rfl, hB2⟩

set_option maxHeartbeats 1600000 in
theorem rf6Same (u v : Int) (A B : Option Addr) (n m c d : Nat) (a b : List UInt8) (w : World) (ha : Bs w A n a) (hb : Bs w B m b) :
    Calls Tryd.prog 23 #[.agg #[.int .i64 u, .slice A n c], .agg #[.int .i64 v, .slice B m d]] w fun e w' => e = .returned (.bool (decide ((u, a) = (v, b)))) ∧ Below w.heap.size w w' := by
  have k1 := fun (W : World) (A : Option Addr) (n c : Nat) (l : List UInt8) (h : Bs W A n l) => h.convert (P := Tryd.prog) c 22 9 5 Tryd.underlying22 Tryd.underlying5 Tryd.underlying9
  have c1 := k1 ((w.alloc (.cells #[.int .i64 u, .slice A n c] 24)).alloc (.cells #[.int .i64 v, .slice B m d] 24)) A n c a (ha.below (below_alloc2 _ _ _))
  have c2 := k1 ((w.alloc (.cells #[.int .i64 u, .slice A n c] 24)).alloc (.cells #[.int .i64 v, .slice B m d] 24)) B m d b (hb.below (below_alloc2 _ _ _))
  clear k1
  by_cases he : u = v
  · subst he
    have e1 : (u == u) = true := by simp
    go_enter Tryd.func23, Tryd.ntmps23
    go_wp2
    go_ret
    refine ⟨?_, below_alloc2 _ _ _⟩
    have : (a == b) = decide ((u, a) = (u, b)) := by
      by_cases hab : a = b
      · subst hab; simp
      · simp [hab]
    rw [← this]
    rfl
  · have e1 : (u == v) = false := by simpa using he
    have hF : Hid (decide ((u, a) = (v, b)) = false) := decide_eq_false fun e => he (by cases e; rfl)
    go_enter Tryd.func23, Tryd.ntmps23
    go_wp2
    go_ret
    exact ⟨by rw [hF.out]; rfl, below_alloc2 _ _ _⟩

set_option maxHeartbeats 800000 in
theorem refCopy (A : Option Addr) (n c : Nat) (l : List UInt8) (w : World) (h : Bs w A n l) (hn : n ≤ 1099511627776) :
    Calls Tryd.prog 10 #[.slice A n c] w (NewBs w l) := by
  obtain ⟨i0, hi, hz0, hz1, hz2⟩ := info_parts u8_info
  have H := h.below (w' := w.alloc (.cells #[] 5)) ((Below.refl _ _).alloc (Nat.le_refl _) _)
  have ho : Ob (w.alloc (.cells #[] 5)) w.heap.size 5 (.slice (some ⟨w.heap.size, 0, none⟩) 0 0) [] := World.ownsRow_made w #[] 0 (Nat.le_refl _) (Nat.zero_le _) rfl
  go_enter Tryd.func10, Tryd.ntmps10
  go_wp2_with (at_builtin; refine wpList_appendB rfl _ _ 22 rfl w.heap.size 5 i0 (.int .u8 0) Tryd.underlying22 hi hz0 hz1 hz2 rfl _ [] rfl ho _ _ _ l rfl H (by simp; omega) (by simp) ?_)
  intro v' w1 hown hgrow hnil hblk
  have hb : Below w.heap.size w w1 := ((Below.refl _ w).alloc (Nat.le_refl _) _).grown hgrow (by simp) (by intro k hk; simp [Value.ownBlock] at hk; omega)
  obtain ⟨A', c', rfl, hc', hbs⟩ := Ob.slice hown
  go_wp2
  go_ret
  exact ⟨A', _, c', rfl, by simpa using hown, hb⟩

end Go.Proofs.YtoklonnajpjgjaaDoor
