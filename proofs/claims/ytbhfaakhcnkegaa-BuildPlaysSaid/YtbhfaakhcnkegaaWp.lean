/-
  The reference's wrap, Wrap, Implicit.
-/
import Derived.Test.YtbhfaakhcnkegaaWo
import Derived.Deep.RegionHeld3
namespace Go.Proofs.Ytbhfaakhcnkegaa
open Go.RowKit
set_option linter.unusedVariables false
set_option linter.unusedSimpArgs false
set_option maxRecDepth 4000

/-- A tag's whole or nothing, and the error's number. -/
def RwrOk (w : World) (t : Tg) (l : List UInt8) (e : Ending) (w' : World) : Prop := ∃ A n c, e = .returned (.tuple #[.slice A n c, .int .i64 (if t.rightB then 0 else 1)]) ∧ Ob w' w.heap.size 5 (.slice A n c) (if t.rightB then wrapB t l else []) ∧ Below w.heap.size w w'
theorem RwrOk.st {w w1 w' : World} {t : Tg} {l : List UInt8} {e : Ending} (hb : Below w.heap.size w w1) (h : RwrOk w1 t l e w') : RwrOk w t l e w' := by
  obtain ⟨A, n, c, he, ho, hb2⟩ := h
  exact ⟨A, n, c, he, ho.mono hb.size, hb.trans (hb2.mono hb.size)⟩

set_option maxHeartbeats 1600000 in
theorem ref8wrap (t : Tg) (A : Option Addr) (n c : Nat) (l : List UInt8) (w : World) (h : Bs w A n l) (hn : n ≤ 16777216) :
    Calls Try.prog 50 #[t.v, .slice A n c] w (RwrOk w t l) := by
  have hR := Lib.hid (fun (W : World) => refRight t W)
  have hW := Lib.hid (fun (W : World) (hb : Below w.heap.size w W) (hr : t.right) => refWrap t A n c l W hr (h.below hb) (by omega))
  have HF : Hid (RwrOk w t l = fun e w' => ∃ A n c, e = .returned (.tuple #[.slice A n c, .int .i64 (if t.rightB then 0 else 1)]) ∧ Ob w' w.heap.size 5 (.slice A n c) (if t.rightB then wrapB t l else []) ∧ Below w.heap.size w w') := rfl
  have hiff := t.rightB_iff
  have b0 := below_alloc1 w (.cells #[.int .i64 t.cls, .int .i64 t.num, .bool t.made] 29)
  have o0 := Own3.new w (.int .i64 t.cls) (.int .i64 t.num) (.bool t.made) 29
  obtain ⟨y0, y1, y2, _, _, _⟩ := o0
  have e5 : decide ((16777216 : Int) < (n : Int)) = false := by simp; omega
  unfold Tg.v at *
  cases hr : t.rightB with
  | true =>
    have hrt := hiff.1 hr
    rw [hr] at hR HF
    clear hiff
    go_enter Try.func50, Try.ntmps50
    go_wp2_with fail
    refine (hR.out _).mono ?_
    rintro e w1 ⟨rfl, hb1⟩
    have B1 := Lib.hid (b0.trans (hb1.mono b0.size))
    have z0 := (hb1.cell (World.block_lt_of_cell? _ _ y0)).trans y0
    have z1 := (hb1.cell (World.block_lt_of_cell? _ _ y1)).trans y1
    have z2 := (hb1.cell (World.block_lt_of_cell? _ _ y2)).trans y2
    clear y0 y1 y2 hb1 b0 hR
    go_wp2_with fail
    refine (hW.out _ B1.out hrt).mono ?_
    rintro e w2 ⟨A2, n2, c2, rfl, hob, hb2⟩
    have HO := Lib.hid (hob.mono B1.out.size)
    have HB := Lib.hid (B1.out.trans (hb2.mono B1.out.size))
    clear hob hb2 hW z0 z1 z2
    go_wp2
    go_ret2
    rw [HF.out]
    exact ⟨A2, n2, c2, rfl, HO.out, HB.out⟩
  | false =>
    rw [hr] at hR HF
    clear hiff hW
    go_enter Try.func50, Try.ntmps50
    go_wp2_with fail
    refine (hR.out _).mono ?_
    rintro e w1 ⟨rfl, hb1⟩
    have B1 := Lib.hid (b0.trans (hb1.mono b0.size))
    clear y0 y1 y2 hb1 b0 hR
    go_wp2
    go_ret2
    rw [HF.out]
    exact ⟨none, 0, 0, rfl, Ob.nil _ _ _, B1.out⟩

set_option maxHeartbeats 1600000 in
theorem ref8Wrap (t : Tg) (A : Option Addr) (n c : Nat) (l : List UInt8) (w : World) (h : Bs w A n l) (hn : n ≤ 16777216) :
    Calls Try.prog 28 #[t.v, .slice A n c] w (RwrOk w t l) := by
  have b0 := below_alloc1 w (.cells #[.int .i64 t.cls, .int .i64 t.num, .bool t.made] 29)
  obtain ⟨y0, y1, y2, _, _, _⟩ := Own3.new w (.int .i64 t.cls) (.int .i64 t.num) (.bool t.made) 29
  have hW := Lib.hid (ref8wrap t A n c l _ (h.below b0) hn)
  have hS : Hid (∀ e w', RwrOk (w.alloc (.cells #[.int .i64 t.cls, .int .i64 t.num, .bool t.made] 29)) t l e w' → (∃ A n c, e = .returned (.tuple #[.slice A n c, .int .i64 (if t.rightB then 0 else 1)])) ∧ RwrOk w t l e w') := fun e w' h => ⟨by obtain ⟨A, n, c, he, _⟩ := h; exact ⟨A, n, c, he⟩, RwrOk.st b0 h⟩
  clear b0 h
  unfold Tg.v at *
  generalize (if t.rightB then (0 : Int) else 1) = E at *
  go_enter Try.func28, Try.ntmps28
  go_wp2_with fail
  refine hW.out.mono ?_
  intro e w1 hh
  obtain ⟨⟨A2, n2, c2, rfl⟩, h2⟩ := hS.out _ _ hh
  have H2 := Lib.hid h2
  clear hh h2 hS hW y0 y1 y2
  go_wp2
  go_ret2
  exact H2.out

/-- What the reference's Implicit hands back. -/
def RimOk (w : World) (m : Int) (l : List UInt8) (e : Ending) (w' : World) : Prop :=
  (impE l ≠ 0 → e = .returned (.tuple #[.slice none 0 0, .int .i64 (impE l)])) ∧ (impE l = 0 → RwrOk w ⟨2, m, (rHead l 0).1.made⟩ (l.drop (rHead l 0).2.2.1) e w') ∧ Below w.heap.size w w'

set_option maxHeartbeats 3200000 in
theorem ref8Implicit (m : Int) (A : Option Addr) (n c : Nat) (l : List UInt8) (w : World) (h : Bs w A n l) (hc : n ≤ c) (hn : n ≤ 16777216) :
    Calls Try.prog 30 #[.int .i64 m, .slice A n c] w (RimOk w m l) := by
  have hln := h.len
  subst hln
  have hRd := Lib.hid (refRead A l.length c 0 0 l w h (by omega) (by omega) rfl)
  have hge := rHead_ok l 0
  have HV : Hid (∀ e, e = headV (rHead l 0) → e = .returned (.tuple #[(rHead l 0).1.v, .int .i64 (rHead l 0).2.1, .int .i64 ((rHead l 0).2.2.1 : Int), .int .i64 (rHead l 0).2.2.2])) := fun e h => h
  have HI : Hid (RimOk w m l = fun e w' => (impE l ≠ 0 → e = .returned (.tuple #[.slice none 0 0, .int .i64 (impE l)])) ∧ (impE l = 0 → RwrOk w ⟨2, m, (rHead l 0).1.made⟩ (l.drop (rHead l 0).2.2.1) e w') ∧ Below w.heap.size w w') := rfl
  have HE : Hid (impE l = if (rHead l 0).2.2.2 ≠ 0 then (rHead l 0).2.2.2
    else if (l.length : Int) - (rHead l 0).2.2.1 < (rHead l 0).2.1 then 3
    else if (rHead l 0).2.1 < (l.length : Int) - (rHead l 0).2.2.1 then 7 else 0) := rfl
  generalize rHead l 0 = T at *
  obtain ⟨⟨tc, tn, tm⟩, N0, K, E⟩ := T
  unfold Tg.v at *
  simp only at hge HI HE HV
  have H := Lib.hid h
  clear h
  go_enter Try.func30, Try.ntmps30
  go_wp2_with fail
  refine hRd.out.mono ?_
  rintro e w2 ⟨he, hb2⟩
  have he2 := HV.out _ he
  subst he2
  have hb3 := hb2.alloc hb2.size (.cells #[.int .i64 tc, .int .i64 tn, .bool tm] 29)
  have HB3 := Lib.hid hb3
  have y2 : (w2.alloc (.cells #[.int .i64 tc, .int .i64 tn, .bool tm] 29)).cell? ⟨w2.heap.size, 2, none⟩ = some (.bool tm) := (Own3.new w2 (.int .i64 tc) (.int .i64 tn) (.bool tm) _).2.2.1
  clear he hRd HV hb2 hb3
  by_cases q : E = 0
  · subst q
    obtain ⟨k0, k1, k2⟩ := hge rfl
    have HE2 : Hid (impE l = if (l.length : Int) - K < N0 then 3 else if N0 < (l.length : Int) - K then 7 else 0) := by
      unfold Hid; rw [HE.out, if_neg (by simp)]
    clear HE hge
    by_cases a1 : (l.length : Int) - K < N0
    · have e1 : decide ((l.length : Int) - K < N0) = true := by simp; exact a1
      have HE3 : Hid (impE l = 3) := by unfold Hid; rw [HE2.out, if_pos a1]
      clear a1 HE2 y2
      go_wp2
      go_ret2
      rw [HI.out, HE3.out]
      exact ⟨fun _ => rfl, fun h => by simp at h, HB3.out⟩
    · have e1 : decide ((l.length : Int) - K < N0) = false := by simp; omega
      by_cases a2 : N0 < (l.length : Int) - K
      · have e2 : decide (N0 < (l.length : Int) - K) = true := by simp; exact a2
        have HE3 : Hid (impE l = 7) := by unfold Hid; rw [HE2.out, if_neg a1, if_pos a2]
        clear a1 a2 HE2 y2
        go_wp2
        go_ret2
        rw [HI.out, HE3.out]
        exact ⟨fun _ => rfl, fun h => by simp at h, HB3.out⟩
      · have e2 : decide (N0 < (l.length : Int) - K) = false := by simp; omega
        have HE3 : Hid (impE l = 0) := by unfold Hid; rw [HE2.out, if_neg a1, if_neg a2]
        clear a1 a2 HE2
        have hA := Lib.hid (fun (W : World) => refAt m tm W)
        have KC : Hid (∀ W, Below (w2.alloc (.cells #[.int .i64 tc, .int .i64 tn, .bool tm] 29)).heap.size (w2.alloc (.cells #[.int .i64 tc, .int .i64 tn, .bool tm] 29)) W → W.cell? ⟨w2.heap.size, 2, none⟩ = some (.bool tm)) := fun W hW => (hW.cell (World.block_lt_of_cell? _ _ y2)).trans y2
        have hS : Hid (∀ (w3 w4 : World) e, Below w.heap.size w w3 → RwrOk w3 ⟨2, m, tm⟩ (l.drop K) e w4 → (∃ A n c, e = .returned (.tuple #[.slice A n c, .int .i64 (if (Tg.mk 2 m tm).rightB then 0 else 1)])) ∧ RwrOk w ⟨2, m, tm⟩ (l.drop K) e w4 ∧ Below w3.heap.size w3 w4) := by
          intro w3 w4 e hb hw
          obtain ⟨A, n, c, he, ho, hb2⟩ := hw
          exact ⟨⟨A, n, c, he⟩, ⟨A, n, c, he, ho.mono hb.size, hb.trans (hb2.mono hb.size)⟩, hb2⟩
        have l1 : (K : Int) ≤ (l.length : Int) := by omega
        have l2 : (l.length : Int) ≤ (c : Int) := by omega
        have l3 : (0 : Int) ≤ (K : Int) := by omega
        by_cases hcK : c = K
        · have hW := Lib.hid (fun (W : World) (hb : Below w.heap.size w W) => ref8wrap ⟨2, m, tm⟩ A (l.length - K) 0 (l.drop K) W (by
            have h7 := H.out.below hb
            have h8 := h7.cut0 (i := K) (j := l.length) (by omega) (Nat.le_refl _) (by omega)
            rwa [List.take_of_length_le (by simp)] at h8) (by omega))
          generalize (if (Tg.mk 2 m tm).rightB then (0 : Int) else 1) = E at *
          go_wp2_with fail
          refine wp_region_held_drew (S := fun w' => w'.cell? ⟨w2.heap.size, 2, none⟩ = some (.bool tm) ∧ Below w.heap.size w w' ∧ Below (w2.alloc (.cells #[.int .i64 tc, .int .i64 tn, .bool tm] 29)).heap.size (w2.alloc (.cells #[.int .i64 tc, .int .i64 tn, .bool tm] 29)) w') (by kernel_rfl) ?_ (fun hHeld => ?_)
          · (try dsimp only); exact ⟨y2, HB3.out.drew, (Below.refl _ _).drew⟩
          refine wpAnyH_take (i := 0) (v := ?_) rfl (by kernel_rfl) (by kernel_rfl) (by kernel_rfl) (fun _ _ _ h => h) (Or.inl ⟨by kernel_rfl, ?_⟩) (by assumption) ?_
          rotate_left 1
          · (intro w hSw; (try dsimp only at hSw); go_simp) <;> (try with_reducible rfl)
          try simp only [Act.put, List.setIfInBounds_toArray, List.set_cons_zero, List.set_cons_succ, List.getElem_toArray, List.getElem_cons_succ, List.getElem_cons_zero]
          refine wpAnyH_take (i := 1) (v := ?_) rfl (by kernel_rfl) (by kernel_rfl) (by kernel_rfl) (fun _ _ _ h => h) (Or.inl ⟨by kernel_rfl, ?_⟩) (by assumption) ?_
          rotate_left 1
          · (intro w hSw; (try dsimp only at hSw); go_simp) <;> (try with_reducible rfl)
          try simp only [Act.put, List.setIfInBounds_toArray, List.set_cons_zero, List.set_cons_succ, List.getElem_toArray, List.getElem_cons_succ, List.getElem_cons_zero]
          refine wpAnyH_take (i := 2) (v := ?_) rfl (by kernel_rfl) (by kernel_rfl) (by kernel_rfl) (fun _ _ _ h => h) (Or.inl ⟨by kernel_rfl, ?_⟩) (by assumption) ?_
          rotate_left 1
          · (intro w hSw; (try dsimp only at hSw); go_simp) <;> (try with_reducible rfl)
          try simp only [Act.put, List.setIfInBounds_toArray, List.set_cons_zero, List.set_cons_succ, List.getElem_toArray, List.getElem_cons_succ, List.getElem_cons_zero]
          refine wpAnyH_take (i := 4) (v := ?_) rfl (by kernel_rfl) (by kernel_rfl) (by kernel_rfl) (fun _ _ _ h => h) (Or.inl ⟨by kernel_rfl, ?_⟩) (by assumption) ?_
          rotate_left 1
          · (intro w hSw; (try dsimp only at hSw); go_simp) <;> (try with_reducible rfl)
          try simp only [Act.put, List.setIfInBounds_toArray, List.set_cons_zero, List.set_cons_succ, List.getElem_toArray, List.getElem_cons_succ, List.getElem_cons_zero]
          refine wpAnyH_take (i := 5) (v := ?_) rfl (by kernel_rfl) (by kernel_rfl) (by kernel_rfl) (fun _ _ _ h => h) (Or.inl ⟨by kernel_rfl, ?_⟩) (by assumption) ?_
          rotate_left 1
          · (intro w hSw; (try dsimp only at hSw); go_simp) <;> (try with_reducible rfl)
          try simp only [Act.put, List.setIfInBounds_toArray, List.set_cons_zero, List.set_cons_succ, List.getElem_toArray, List.getElem_cons_succ, List.getElem_cons_zero]
          refine wpAnyH_take (i := 6) (v := ?_) rfl (by kernel_rfl) (by kernel_rfl) (by kernel_rfl) (fun _ _ _ h => h) (Or.inl ⟨by kernel_rfl, ?_⟩) (by assumption) ?_
          rotate_left 1
          · (intro w hSw; (try dsimp only at hSw); go_simp) <;> (try with_reducible rfl)
          try simp only [Act.put, List.setIfInBounds_toArray, List.set_cons_zero, List.set_cons_succ, List.getElem_toArray, List.getElem_cons_succ, List.getElem_cons_zero]
          refine wpAnyH_ready (rs := [3]) (by kernel_rfl) (by simp) ?_
          refine AllReadyH.cons rfl (fun K hK => ?_) AllReadyH.nil
          go_simp
          refine (hA.out _).mono ?_
          rintro e w5 ⟨rfl, hb5⟩
          have hB5 := hHeld.2.1.trans (hb5.mono hHeld.2.1.size)
          have hC5 := hHeld.2.2.trans (hb5.mono hHeld.2.2.size)
          go_wp2_with fail
          refine hK.out _ _ ?_ (fun hHeld => ?_)
          · (try dsimp only); exact ⟨KC.out _ hC5, hB5, hC5⟩
          clear hK K
          try simp only [Act.put, List.setIfInBounds_toArray, List.set_cons_zero, List.set_cons_succ, List.getElem_toArray, List.getElem_cons_succ, List.getElem_cons_zero]
          refine wpAnyH_ready (rs := [7]) (by kernel_rfl) (by simp) ?_
          refine AllReadyH.cons rfl (fun K hK => ?_) AllReadyH.nil
          go_simp
          refine (hW.out _ hB5).mono ?_
          intro e w6 hh
          obtain ⟨⟨A6, n6, c6, rfl⟩, h6⟩ := hS.out _ _ _ hB5 hh
          have hC6 := hC5.trans (h6.2.mono hC5.size)
          clear hh
          go_wp2_with fail
          refine hK.out _ _ ?_ (fun hHeld => ?_)
          · (try dsimp only); exact ⟨KC.out _ hC6, hB5.trans (h6.2.mono hB5.size), hC6⟩
          clear hK K
          try simp only [Act.put, List.setIfInBounds_toArray, List.set_cons_zero, List.set_cons_succ, List.getElem_toArray, List.getElem_cons_succ, List.getElem_cons_zero]
          refine wpAnyH_take (i := 8) (v := ?_) rfl (by kernel_rfl) (by kernel_rfl) (by kernel_rfl) (fun _ _ _ h => h) (Or.inl ⟨by kernel_rfl, ?_⟩) (by assumption) ?_
          rotate_left 1
          · (intro w hSw; (try dsimp only at hSw); go_simp) <;> (try with_reducible rfl)
          try simp only [Act.put, List.setIfInBounds_toArray, List.set_cons_zero, List.set_cons_succ, List.getElem_toArray, List.getElem_cons_succ, List.getElem_cons_zero]
          refine wpAnyH_take (i := 9) (v := ?_) rfl (by kernel_rfl) (by kernel_rfl) (by kernel_rfl) (fun _ _ _ h => h) (Or.inl ⟨by kernel_rfl, ?_⟩) (by assumption) ?_
          rotate_left 1
          · (intro w hSw; (try dsimp only at hSw); go_simp) <;> (try with_reducible rfl)
          try simp only [Act.put, List.setIfInBounds_toArray, List.set_cons_zero, List.set_cons_succ, List.getElem_toArray, List.getElem_cons_succ, List.getElem_cons_zero]
          refine wpAnyH_take (i := 10) (v := ?_) rfl (by kernel_rfl) (by kernel_rfl) (by kernel_rfl) (fun _ _ _ h => h) (Or.inl ⟨by kernel_rfl, ?_⟩) (by assumption) ?_
          rotate_left 1
          · (intro w hSw; (try dsimp only at hSw); go_simp) <;> (try with_reducible rfl)
          try simp only [Act.put, List.setIfInBounds_toArray, List.set_cons_zero, List.set_cons_succ, List.getElem_toArray, List.getElem_cons_succ, List.getElem_cons_zero]
          refine wpAnyH_take (i := 11) (v := ?_) rfl (by kernel_rfl) (by kernel_rfl) (by kernel_rfl) (fun _ _ _ h => h) (Or.inl ⟨by kernel_rfl, ?_⟩) (by assumption) ?_
          rotate_left 1
          · (intro w hSw; (try dsimp only at hSw); go_simp) <;> (try with_reducible rfl)
          try simp only [Act.put, List.setIfInBounds_toArray, List.set_cons_zero, List.set_cons_succ, List.getElem_toArray, List.getElem_cons_succ, List.getElem_cons_zero]
          refine wpAnyH_done (by kernel_rfl) ?_ _
          have H6 := Lib.hid h6.1
          clear h6
          go_wp2
          go_ret2
          rw [HI.out]
          exact ⟨fun h => absurd HE3.out h, fun _ => H6.out, by obtain ⟨_, _, _, _, _, hb⟩ := H6.out; exact hb⟩
        · have hW := Lib.hid (fun (W : World) (hb : Below w.heap.size w W) => ref8wrap ⟨2, m, tm⟩ (Option.map (fun x => x.add K) A) (l.length - K) (c - K) (l.drop K) W (by
            have h7 := H.out.below hb
            have h8 := h7.cut (i := K) (j := l.length) (by omega) (Nat.le_refl _)
            rwa [List.take_of_length_le (by simp)] at h8) (by omega))
          generalize (if (Tg.mk 2 m tm).rightB then (0 : Int) else 1) = E at *
          go_wp2_with fail
          refine wp_region_held_drew (S := fun w' => w'.cell? ⟨w2.heap.size, 2, none⟩ = some (.bool tm) ∧ Below w.heap.size w w' ∧ Below (w2.alloc (.cells #[.int .i64 tc, .int .i64 tn, .bool tm] 29)).heap.size (w2.alloc (.cells #[.int .i64 tc, .int .i64 tn, .bool tm] 29)) w') (by kernel_rfl) ?_ (fun hHeld => ?_)
          · (try dsimp only); exact ⟨y2, HB3.out.drew, (Below.refl _ _).drew⟩
          refine wpAnyH_take (i := 0) (v := ?_) rfl (by kernel_rfl) (by kernel_rfl) (by kernel_rfl) (fun _ _ _ h => h) (Or.inl ⟨by kernel_rfl, ?_⟩) (by assumption) ?_
          rotate_left 1
          · (intro w hSw; (try dsimp only at hSw); go_simp) <;> (try with_reducible rfl)
          try simp only [Act.put, List.setIfInBounds_toArray, List.set_cons_zero, List.set_cons_succ, List.getElem_toArray, List.getElem_cons_succ, List.getElem_cons_zero]
          refine wpAnyH_take (i := 1) (v := ?_) rfl (by kernel_rfl) (by kernel_rfl) (by kernel_rfl) (fun _ _ _ h => h) (Or.inl ⟨by kernel_rfl, ?_⟩) (by assumption) ?_
          rotate_left 1
          · (intro w hSw; (try dsimp only at hSw); go_simp) <;> (try with_reducible rfl)
          try simp only [Act.put, List.setIfInBounds_toArray, List.set_cons_zero, List.set_cons_succ, List.getElem_toArray, List.getElem_cons_succ, List.getElem_cons_zero]
          refine wpAnyH_take (i := 2) (v := ?_) rfl (by kernel_rfl) (by kernel_rfl) (by kernel_rfl) (fun _ _ _ h => h) (Or.inl ⟨by kernel_rfl, ?_⟩) (by assumption) ?_
          rotate_left 1
          · (intro w hSw; (try dsimp only at hSw); go_simp) <;> (try with_reducible rfl)
          try simp only [Act.put, List.setIfInBounds_toArray, List.set_cons_zero, List.set_cons_succ, List.getElem_toArray, List.getElem_cons_succ, List.getElem_cons_zero]
          refine wpAnyH_take (i := 4) (v := ?_) rfl (by kernel_rfl) (by kernel_rfl) (by kernel_rfl) (fun _ _ _ h => h) (Or.inl ⟨by kernel_rfl, ?_⟩) (by assumption) ?_
          rotate_left 1
          · (intro w hSw; (try dsimp only at hSw); go_simp) <;> (try with_reducible rfl)
          try simp only [Act.put, List.setIfInBounds_toArray, List.set_cons_zero, List.set_cons_succ, List.getElem_toArray, List.getElem_cons_succ, List.getElem_cons_zero]
          refine wpAnyH_take (i := 5) (v := ?_) rfl (by kernel_rfl) (by kernel_rfl) (by kernel_rfl) (fun _ _ _ h => h) (Or.inl ⟨by kernel_rfl, ?_⟩) (by assumption) ?_
          rotate_left 1
          · (intro w hSw; (try dsimp only at hSw); go_simp) <;> (try with_reducible rfl)
          try simp only [Act.put, List.setIfInBounds_toArray, List.set_cons_zero, List.set_cons_succ, List.getElem_toArray, List.getElem_cons_succ, List.getElem_cons_zero]
          refine wpAnyH_take (i := 6) (v := ?_) rfl (by kernel_rfl) (by kernel_rfl) (by kernel_rfl) (fun _ _ _ h => h) (Or.inl ⟨by kernel_rfl, ?_⟩) (by assumption) ?_
          rotate_left 1
          · (intro w hSw; (try dsimp only at hSw); go_simp) <;> (try with_reducible rfl)
          try simp only [Act.put, List.setIfInBounds_toArray, List.set_cons_zero, List.set_cons_succ, List.getElem_toArray, List.getElem_cons_succ, List.getElem_cons_zero]
          refine wpAnyH_ready (rs := [3]) (by kernel_rfl) (by simp) ?_
          refine AllReadyH.cons rfl (fun K hK => ?_) AllReadyH.nil
          go_simp
          refine (hA.out _).mono ?_
          rintro e w5 ⟨rfl, hb5⟩
          have hB5 := hHeld.2.1.trans (hb5.mono hHeld.2.1.size)
          have hC5 := hHeld.2.2.trans (hb5.mono hHeld.2.2.size)
          go_wp2_with fail
          refine hK.out _ _ ?_ (fun hHeld => ?_)
          · (try dsimp only); exact ⟨KC.out _ hC5, hB5, hC5⟩
          clear hK K
          try simp only [Act.put, List.setIfInBounds_toArray, List.set_cons_zero, List.set_cons_succ, List.getElem_toArray, List.getElem_cons_succ, List.getElem_cons_zero]
          refine wpAnyH_ready (rs := [7]) (by kernel_rfl) (by simp) ?_
          refine AllReadyH.cons rfl (fun K hK => ?_) AllReadyH.nil
          go_simp
          refine (hW.out _ hB5).mono ?_
          intro e w6 hh
          obtain ⟨⟨A6, n6, c6, rfl⟩, h6⟩ := hS.out _ _ _ hB5 hh
          have hC6 := hC5.trans (h6.2.mono hC5.size)
          clear hh
          go_wp2_with fail
          refine hK.out _ _ ?_ (fun hHeld => ?_)
          · (try dsimp only); exact ⟨KC.out _ hC6, hB5.trans (h6.2.mono hB5.size), hC6⟩
          clear hK K
          try simp only [Act.put, List.setIfInBounds_toArray, List.set_cons_zero, List.set_cons_succ, List.getElem_toArray, List.getElem_cons_succ, List.getElem_cons_zero]
          refine wpAnyH_take (i := 8) (v := ?_) rfl (by kernel_rfl) (by kernel_rfl) (by kernel_rfl) (fun _ _ _ h => h) (Or.inl ⟨by kernel_rfl, ?_⟩) (by assumption) ?_
          rotate_left 1
          · (intro w hSw; (try dsimp only at hSw); go_simp) <;> (try with_reducible rfl)
          try simp only [Act.put, List.setIfInBounds_toArray, List.set_cons_zero, List.set_cons_succ, List.getElem_toArray, List.getElem_cons_succ, List.getElem_cons_zero]
          refine wpAnyH_take (i := 9) (v := ?_) rfl (by kernel_rfl) (by kernel_rfl) (by kernel_rfl) (fun _ _ _ h => h) (Or.inl ⟨by kernel_rfl, ?_⟩) (by assumption) ?_
          rotate_left 1
          · (intro w hSw; (try dsimp only at hSw); go_simp) <;> (try with_reducible rfl)
          try simp only [Act.put, List.setIfInBounds_toArray, List.set_cons_zero, List.set_cons_succ, List.getElem_toArray, List.getElem_cons_succ, List.getElem_cons_zero]
          refine wpAnyH_take (i := 10) (v := ?_) rfl (by kernel_rfl) (by kernel_rfl) (by kernel_rfl) (fun _ _ _ h => h) (Or.inl ⟨by kernel_rfl, ?_⟩) (by assumption) ?_
          rotate_left 1
          · (intro w hSw; (try dsimp only at hSw); go_simp) <;> (try with_reducible rfl)
          try simp only [Act.put, List.setIfInBounds_toArray, List.set_cons_zero, List.set_cons_succ, List.getElem_toArray, List.getElem_cons_succ, List.getElem_cons_zero]
          refine wpAnyH_take (i := 11) (v := ?_) rfl (by kernel_rfl) (by kernel_rfl) (by kernel_rfl) (fun _ _ _ h => h) (Or.inl ⟨by kernel_rfl, ?_⟩) (by assumption) ?_
          rotate_left 1
          · (intro w hSw; (try dsimp only at hSw); go_simp) <;> (try with_reducible rfl)
          try simp only [Act.put, List.setIfInBounds_toArray, List.set_cons_zero, List.set_cons_succ, List.getElem_toArray, List.getElem_cons_succ, List.getElem_cons_zero]
          refine wpAnyH_done (by kernel_rfl) ?_ _
          have H6 := Lib.hid h6.1
          clear h6
          go_wp2
          go_ret2
          rw [HI.out]
          exact ⟨fun h => absurd HE3.out h, fun _ => H6.out, by obtain ⟨_, _, _, _, _, hb⟩ := H6.out; exact hb⟩
  · have e1 : (E != 0) = true := by simp; exact q
    have HE3 : Hid (impE l = E) := by unfold Hid; rw [HE.out, if_pos q]
    have Q := Lib.hid q
    clear q HE y2
    go_wp2
    go_ret2
    rw [HI.out, HE3.out]
    exact ⟨fun _ => rfl, fun h => absurd h Q.out, HB3.out⟩

end Go.Proofs.Ytbhfaakhcnkegaa
