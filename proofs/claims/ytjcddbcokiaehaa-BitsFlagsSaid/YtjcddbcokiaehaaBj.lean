/-
  The contracts of layer 5: Parse, Contents, ParseBool of the project, Parse of the reference, To and Of of the laws.
-/
import Derived.Test.YtjcddbcokiaehaaBh
import Derived.Test.YtjcddbcokiaehaaBi
import Derived.Test.YtjcddbcokiaehaaBlk
import Derived.Deep.DeepCutAuto
import Derived.Deep.RegionLaw
namespace Go.Proofs.Ytjcddbcokiaehaa
open Go.RowKit
set_option linter.unusedVariables false
set_option linter.unusedSimpArgs false
set_option maxRecDepth 4000


/-- A string: its value, in a world. -/
def SV (w : World) (u : Int) (l : List UInt8) (v : Value) : Prop := ∃ A c, v = .agg #[.int .i64 u, .slice A l.length c] ∧ Bs w A l.length l ∧ l.length ≤ c
theorem SV.below {w w' : World} {u : Int} {l : List UInt8} {v : Value} (h : SV w u l v) (hb : Below w.heap.size w w') : SV w' u l v := by
  obtain ⟨A, c, rfl, hs, hc⟩ := h; exact ⟨A, c, rfl, hs.below hb, hc⟩
theorem SV.mk' {w : World} {u : Int} {l : List UInt8} {A : Option Addr} {n c : Nat} (h : Bs w A n l) (hc : n ≤ c) : SV w u l (.agg #[.int .i64 u, .slice A n c]) := by
  have := h.len; subst this; exact ⟨A, c, rfl, h, hc⟩
theorem SV.own {w : World} {u : Int} {l : List UInt8} {A : Option Addr} {n c B : Nat} {e : TypeId} (h : Ob w B e (.slice A n c) l) : SV w u l (.agg #[.int .i64 u, .slice A n c]) := SV.mk' h.bs.1 h.bs.2

set_option maxHeartbeats 1600000 in
theorem lw5To (u : Int) (A : Option Addr) (n c : Nat) (w : World) (hc : n ≤ c) :
    Calls Try.prog 8 #[.agg #[.int .i64 u, .slice A n c]] w fun e w' => e = .returned (.agg #[.int .i64 u, .slice A (min n 300) c]) ∧ Below w.heap.size w w' := by
  have hO := (Blk.new2 w (.int .i64 u) (.slice A n c) 24).alloc (.cells #[.int .i64 0, .slice none 0 0] 25)
  have hP := Blk.new2 (w.alloc (.cells #[.int .i64 u, .slice A n c] 24)) (.int .i64 0) (.slice none 0 0) 25
  have hB := below_alloc2 w (.cells #[.int .i64 u, .slice A n c] 24) (.cells #[.int .i64 0, .slice none 0 0] 25)
  rw [World.size_alloc] at hP
  obtain ⟨o0, o1, _, _⟩ := hO.two
  obtain ⟨p0, p1, f0, f1⟩ := hP.two
  obtain ⟨m, hm⟩ : ∃ m, m = min n 300 := ⟨_, rfl⟩
  rw [← hm]
  have hmin : min (n : Int) 300 = (m : Int) := by omega
  have hmin2 : (if (300 : Int) < (n : Int) then (300 : Int) else (n : Int)) = (m : Int) := by split <;> omega
  have m0 : (0 : Int) ≤ (m : Int) := by omega
  have m1 : (m : Int) ≤ (c : Int) := by omega
  clear hm hO
  go_enter Try.func8, Try.ntmps8
  go_wp2
  generalize ((w.alloc (Obj.cells #[.int .i64 u, .slice A n c] 24)).alloc (Obj.cells #[.int .i64 0, .slice none 0 0] 25)) = W0 at *
  refine wp_region_held_drew (S := fun w' => w'.cell? ⟨w.heap.size, 0, none⟩ = some (.int .i64 u) ∧ w'.cell? ⟨w.heap.size, 1, none⟩ = some (.slice A n c)) (by kernel_rfl) ?hb0 (fun hHeld => ?_)
  case hb0 => (try dsimp only); exact ⟨o0, o1⟩
  refine wpAnyH_take (i := 0) (v := ?qv0) rfl (by kernel_rfl) (by kernel_rfl) (by kernel_rfl) (fun _ _ _ h => h) (Or.inl ⟨by kernel_rfl, ?qy0⟩) (by assumption) ?_
  case qy0 => (intro w hSw; (try dsimp only at hSw); go_simp) <;> (try with_reducible rfl)
  try simp only [Act.put, List.setIfInBounds_toArray, List.set_cons_zero, List.set_cons_succ, List.getElem_toArray, List.getElem_cons_succ, List.getElem_cons_zero]
  refine wpAnyH_take (i := 1) (v := ?qv1) rfl (by kernel_rfl) (by kernel_rfl) (by kernel_rfl) (fun _ _ _ h => h) (Or.inl ⟨by kernel_rfl, ?qy1⟩) (by assumption) ?_
  case qy1 => (intro w hSw; (try dsimp only at hSw); go_simp) <;> (try with_reducible rfl)
  try simp only [Act.put, List.setIfInBounds_toArray, List.set_cons_zero, List.set_cons_succ, List.getElem_toArray, List.getElem_cons_succ, List.getElem_cons_zero]
  refine wpAnyH_take (i := 2) (v := ?qv2) rfl (by kernel_rfl) (by kernel_rfl) (by kernel_rfl) (fun _ _ _ h => h) (Or.inl ⟨by kernel_rfl, ?qy2⟩) (by assumption) ?_
  case qy2 => (intro w hSw; (try dsimp only at hSw); go_simp) <;> (try with_reducible rfl)
  try simp only [Act.put, List.setIfInBounds_toArray, List.set_cons_zero, List.set_cons_succ, List.getElem_toArray, List.getElem_cons_succ, List.getElem_cons_zero]
  refine wpAnyH_take (i := 3) (v := ?qv3) rfl (by kernel_rfl) (by kernel_rfl) (by kernel_rfl) (fun _ _ _ h => h) (Or.inl ⟨by kernel_rfl, ?qy3⟩) (by assumption) ?_
  case qy3 => (intro w hSw; (try dsimp only at hSw); go_simp) <;> (try with_reducible rfl)
  try simp only [Act.put, List.setIfInBounds_toArray, List.set_cons_zero, List.set_cons_succ, List.getElem_toArray, List.getElem_cons_succ, List.getElem_cons_zero]
  refine wpAnyH_take (i := 4) (v := ?qv4) rfl (by kernel_rfl) (by kernel_rfl) (by kernel_rfl) (fun _ _ _ h => h) (Or.inl ⟨by kernel_rfl, ?qy4⟩) (by assumption) ?_
  case qy4 => (intro w hSw; (try dsimp only at hSw); go_simp) <;> (try with_reducible rfl)
  try simp only [Act.put, List.setIfInBounds_toArray, List.set_cons_zero, List.set_cons_succ, List.getElem_toArray, List.getElem_cons_succ, List.getElem_cons_zero]
  refine wpAnyH_take (i := 5) (v := ?qv5) rfl (by kernel_rfl) (by kernel_rfl) (by kernel_rfl) (fun _ _ _ h => h) (Or.inl ⟨by kernel_rfl, ?qy5⟩) (by assumption) ?_
  case qy5 => (intro w hSw; (try dsimp only at hSw); go_simp) <;> (try with_reducible rfl)
  try simp only [Act.put, List.setIfInBounds_toArray, List.set_cons_zero, List.set_cons_succ, List.getElem_toArray, List.getElem_cons_succ, List.getElem_cons_zero]
  refine wpAnyH_take (i := 6) (v := ?qv6) rfl (by kernel_rfl) (by kernel_rfl) (by kernel_rfl) (fun _ _ _ h => h) (Or.inl ⟨by kernel_rfl, ?qy6⟩) (by assumption) ?_
  case qy6 => (intro w hSw; (try dsimp only at hSw); go_simp) <;> (try with_reducible rfl)
  try simp only [Act.put, List.setIfInBounds_toArray, List.set_cons_zero, List.set_cons_succ, List.getElem_toArray, List.getElem_cons_succ, List.getElem_cons_zero]
  refine wpAnyH_take (i := 7) (v := ?qv7) rfl (by kernel_rfl) (by kernel_rfl) (by kernel_rfl) (fun _ _ _ h => h) (Or.inl ⟨by kernel_rfl, ?qy7⟩) (by assumption) ?_
  case qy7 => (intro w hSw; (try dsimp only at hSw); go_simp) <;> (try with_reducible rfl)
  try simp only [Act.put, List.setIfInBounds_toArray, List.set_cons_zero, List.set_cons_succ, List.getElem_toArray, List.getElem_cons_succ, List.getElem_cons_zero]
  refine wpAnyH_take (i := 8) (v := ?qv8) rfl (by kernel_rfl) (by kernel_rfl) (by kernel_rfl) (fun _ _ _ h => h) (Or.inl ⟨by kernel_rfl, ?qy8⟩) (by assumption) ?_
  case qy8 => (intro w hSw; (try dsimp only at hSw); go_simp) <;> (try with_reducible rfl)
  try simp only [Act.put, List.setIfInBounds_toArray, List.set_cons_zero, List.set_cons_succ, List.getElem_toArray, List.getElem_cons_succ, List.getElem_cons_zero]
  refine wpAnyH_take (i := 9) (v := ?qv9) rfl (by kernel_rfl) (by kernel_rfl) (by kernel_rfl) (fun _ _ _ h => h) (Or.inl ⟨by kernel_rfl, ?qy9⟩) (by assumption) ?_
  case qy9 => (intro w hSw; (try dsimp only at hSw); go_simp) <;> (try with_reducible rfl)
  try simp only [Act.put, List.setIfInBounds_toArray, List.set_cons_zero, List.set_cons_succ, List.getElem_toArray, List.getElem_cons_succ, List.getElem_cons_zero]
  refine wpAnyH_ready (rs := [10]) (by kernel_rfl) (by simp) ?_
  refine AllReadyH.cons rfl (fun K hK => ?_) AllReadyH.nil
  go_simp
  refine hK.out _ _ ?hs10a (fun hHeld => ?_)
  case hs10a => (try dsimp only); exact ⟨(cell_set2 (by omega) 0).trans o0, (cell_set2 (by omega) 1).trans o1⟩
  clear hK K
  try simp only [Act.put, List.setIfInBounds_toArray, List.set_cons_zero, List.set_cons_succ, List.getElem_toArray, List.getElem_cons_succ, List.getElem_cons_zero]
  refine wpAnyH_done (by kernel_rfl) ?_ _
  have hP2 := hP.put (.int .i64 u) (.slice A m c)
  have hB2 := below_set2 (R := w.heap.size + 1) hB hB.size (by omega) (.int .i64 u) (.slice A m c)
  obtain ⟨q0, q1, _, _⟩ := hP2.two
  generalize (W0.setCell ⟨w.heap.size + 1, 0, none⟩ (.int .i64 u)).setCell ⟨w.heap.size + 1, 1, none⟩ (.slice A m c) = W1 at *
  go_wp2
  refine bodyPost_ret (v := .agg #[.int .i64 u, .slice A m c]) (by simp [results, Try.results8, go_sem, q0, q1]) rfl ?_
  exact ⟨rfl, hB2.drew⟩

set_option maxHeartbeats 1600000 in
theorem lw5Of (u : Int) (A : Option Addr) (n c : Nat) (w : World) :
    Calls Try.prog 9 #[.agg #[.int .i64 u, .slice A n c]] w fun e w' => e = .returned (.agg #[.int .i64 u, .slice A n c]) ∧ Below w.heap.size w w' := by
  have hP := Blk.new2 (w.alloc (.cells #[.int .i64 u, .slice A n c] 25)) (.int .i64 0) (.slice none 0 0) 24
  have hB := below_alloc2 w (.cells #[.int .i64 u, .slice A n c] 25) (.cells #[.int .i64 0, .slice none 0 0] 24)
  rw [World.size_alloc] at hP
  have hO := (Blk.new2 w (.int .i64 u) (.slice A n c) 25).alloc (.cells #[.int .i64 0, .slice none 0 0] 24)
  obtain ⟨o0, o1, _, _⟩ := hO.two
  obtain ⟨p0, p1, f0, f1⟩ := hP.two
  have hP2 := hP.put (.int .i64 u) (.slice A n c)
  have hB2 := below_set2 (R := w.heap.size + 1) hB hB.size (by omega) (.int .i64 u) (.slice A n c)
  obtain ⟨q0, q1, _, _⟩ := hP2.two
  clear hP hO hP2
  go_enter Try.func9, Try.ntmps9
  go_upto_region 1 with (fail)
  generalize ((w.alloc (Obj.cells #[.int .i64 u, .slice A n c] 25)).alloc (Obj.cells #[.int .i64 0, .slice none 0 0] 24)) = W0 at *
  go_wp2
  refine bodyPost_ret (v := .agg #[.int .i64 u, .slice A n c]) (by simp [results, Try.results9, go_sem, q0, q1]) rfl ?_
  exact ⟨rfl, hB2⟩

set_option maxHeartbeats 1600000 in
theorem btContentsNo (u : Int) (A : Option Addr) (n c : Nat) (l : List UInt8) (w : World) (h : Bs w A n l) (hn : n ≤ 1099511627) (hr : rightS u l = false) :
    Calls Try.prog 12 #[.agg #[.int .i64 u, .slice A n c]] w fun e w' => e = .returned (.tuple #[.slice none 0 0, .int .i64 1]) ∧ Below w.heap.size w w' := by
  have hR := btRight u A n c l (w.alloc (.cells #[.int .i64 u, .slice A n c] 25)) (h.below (below_alloc1 _ _)) (by omega)
  rw [hr] at hR
  go_enter Try.func12, Try.ntmps12
  go_wp2_with fail
  refine hR.mono ?_
  rintro e w1 ⟨rfl, hb⟩
  have hB : Below w.heap.size w w1 := (below_alloc1 _ _).trans (Below.mono hb (by simp))
  go_wp2
  go_ret2
  exact ⟨rfl, hB⟩

/-- New bytes, and no error. -/
def NewO (w : World) (l : List UInt8) (e : Ending) (w' : World) : Prop := ∃ A m c, e = .returned (.tuple #[.slice A m c, .int .i64 0]) ∧ Ob w' w.heap.size 5 (.slice A m c) l ∧ Below w.heap.size w w'

set_option maxHeartbeats 1600000 in
theorem btContents (u : Int) (A : Option Addr) (n c : Nat) (l : List UInt8) (w : World) (h : Bs w A n l) (hc : n ≤ c) (hn : n ≤ 1099511627) (hr : rightS u l = true) :
    Calls Try.prog 12 #[.agg #[.int .i64 u, .slice A n c]] w (NewO w (contS u l)) := by
  have hR := btRight u A n c l (w.alloc (.cells #[.int .i64 u, .slice A n c] 25)) (h.below (below_alloc1 _ _)) (by omega)
  rw [hr] at hR
  obtain ⟨u0, u8, hz, _⟩ := right_u hr
  have hu : Hid (u = ((UInt8.ofNat u.toNat).toNat : Int)) := by unfold Hid; rw [UInt8.toNat_ofNat']; omega
  have hO := Blk.new2 w (.int .i64 u) (.slice A n c) 25
  have hl := Lib.hid h.len
  clear hz
  go_enter Try.func12, Try.ntmps12
  go_wp2_with fail
  refine hR.mono ?_
  rintro e w1 ⟨rfl, hb⟩
  have hB : Below w.heap.size w w1 := (below_alloc1 _ _).trans (Below.mono hb (by simp))
  have hO1 := hO.below hb
  have h1 := h.below hB
  clear hO hR hb
  have hB2 : Below w.heap.size w ((w1.alloc (.cells #[.int .u8 u] 5)).alloc (.cells #[.slice (some ⟨w1.heap.size, 0, none⟩) 1 1, .slice A n c] 22)) := (hB.alloc hB.size _).alloc (by have := hB.size; simp; omega) _
  have hN := (Bs.new1 w1 (UInt8.ofNat u.toNat) u 5 hu.out).below (below_alloc1 _ (.cells #[.slice (some ⟨w1.heap.size, 0, none⟩) 1 1, .slice A n c] 22))
  have hA := h1.below (below_alloc2 w1 (.cells #[.int .u8 u] 5) (.cells #[.slice (some ⟨w1.heap.size, 0, none⟩) 1 1, .slice A n c] 22))
  have hK := Blk.new2 (w1.alloc (.cells #[.int .u8 u] 5)) (.slice (some ⟨w1.heap.size, 0, none⟩) 1 1) (.slice A n c) 22
  rw [World.size_alloc] at hK
  have hBss : Bss ((w1.alloc (.cells #[.int .u8 u] 5)).alloc (.cells #[.slice (some ⟨w1.heap.size, 0, none⟩) 1 1, .slice A n c] 22)) (some ⟨w1.heap.size + 1, 0, none⟩) 2 [[UInt8.ofNat u.toNat], l] := by
    refine ⟨rfl, fun i x hx => ?_⟩
    match i, hx with
    | 0, hx => cases hx; exact ⟨_, _, _, _, _, rfl, hK.cell 0, hN, Nat.le_refl _⟩
    | 1, hx => cases hx; exact ⟨_, _, _, _, _, rfl, hK.cell 1, hA, hc⟩
  have hJ := octJoin _ 2 2 _ _ hBss (by omega) (by have := hl.out; simp; omega)
  have hcs : Hid (contS u l = [[UInt8.ofNat u.toNat], l].flatten) := by unfold Hid contS; simp
  obtain ⟨o0, o1, _, _⟩ := (hO1.alloc (.cells #[.int .u8 u] 5)).two
  obtain ⟨p0, p1, _, _⟩ := hO1.two
  clear hBss hK hN hA h1 h
  go_wp2_with fail
  refine hJ.mono ?_
  rintro e w2 ⟨A', n', c', rfl, hob, hb⟩
  go_wp2
  go_ret2
  unfold NewO
  rw [hcs.out]
  exact ⟨A', n', c', rfl, hob.mono hB2.size, hB2.trans (Below.mono hb hB2.size)⟩

/-- The truth of contents, and an error's number. -/
def prsB (b : List UInt8) : Bool × Int := if b = [0] then (false, 0) else if b = [255] then (true, 0) else (false, 6)
theorem prsB_long {b : List UInt8} (h : b.length ≠ 1) : prsB b = (false, 6) := by
  unfold prsB
  rw [if_neg (by rintro rfl; exact h rfl), if_neg (by rintro rfl; exact h rfl)]
theorem prsB_one {b : List UInt8} (h : b.length = 1) : prsB b = if nth b 0 = 0 then (false, 0) else if nth b 0 = 255 then (true, 0) else (false, 6) := by
  match b, h with
  | [x], _ =>
    unfold prsB nth
    simp only [List.getD_cons_zero, List.cons.injEq, and_true]
    have e0 : (x = 0) = ((x.toNat : Int) = 0) := by
      apply propext; constructor
      · rintro rfl; rfl
      · intro h; exact UInt8.toNat_inj.1 (by show x.toNat = 0; omega)
    have e1 : (x = 255) = ((x.toNat : Int) = 255) := by
      apply propext; constructor
      · rintro rfl; rfl
      · intro h; exact UInt8.toNat_inj.1 (by show x.toNat = 255; omega)
    simp only [e0, e1]

set_option maxHeartbeats 1600000 in
theorem btParseBool (A : Option Addr) (n c : Nat) (b : List UInt8) (w : World) (h : Bs w A n b) :
    Calls Try.prog 20 #[.slice A n c] w fun e w' => e = .returned (.tuple #[.bool (prsB b).1, .int .i64 (prsB b).2]) ∧ w' = w := by
  by_cases h1 : n = 1
  · subst h1
    have hF := Lib.hid (prsB_one h.len)
    obtain ⟨b', o, rfl, hc⟩ := h.at_ (k := 0) (by omega)
    rw [Nat.add_zero] at hc
    have hb := nth_bound b 0
    by_cases h0 : nth b 0 = 0
    · rw [h0] at hF hc
      go_enter Try.func20, Try.ntmps20
      go_wp2
      go_ret2
      exact ⟨by rw [hF.out]; rfl, rfl⟩
    · by_cases h2 : nth b 0 = 255
      · rw [h2] at hF hc
        go_enter Try.func20, Try.ntmps20
        go_wp2
        go_ret2
        exact ⟨by rw [hF.out]; rfl, rfl⟩
      · have hG : Hid (prsB b = (false, 6)) := by unfold Hid; rw [hF.out, if_neg h0, if_neg h2]
        have e0 : (nth b 0 != 0) = true := by simpa using h0
        have e1 : (nth b 0 != 255) = true := by simpa using h2
        clear h0 h2
        go_enter Try.func20, Try.ntmps20
        go_wp2
        go_ret2
        exact ⟨by rw [hG.out]; rfl, rfl⟩
  · have hF := Lib.hid (prsB_long (b := b) (by rw [h.len]; exact h1))
    have e0 : ((n : Int) != 1) = true := by simp; omega
    go_enter Try.func20, Try.ntmps20
    go_wp2
    go_ret2
    exact ⟨by rw [hF.out]; rfl, rfl⟩


end Go.Proofs.Ytjcddbcokiaehaa
