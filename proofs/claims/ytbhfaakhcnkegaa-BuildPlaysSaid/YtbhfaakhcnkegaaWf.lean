/-
  A sheet's frame: element.
-/
import Derived.Test.YtbhfaakhcnkegaaWe
import Derived.Deep.RegionHeld3
namespace Go.Proofs.Ytbhfaakhcnkegaa
open Go.RowKit
set_option linter.unusedVariables false
set_option linter.unusedSimpArgs false
set_option maxRecDepth 4000

/-- What a frame becomes, or the error's number. -/
def elemF (f : Fr) : List UInt8 × Int :=
  if f.set then (if (whs f.b 0).2 ≠ 0 then ([], (whs f.b 0).2) else (wrapB ⟨0, 17, true⟩ (ordO (whs f.b 0).1).flatten, 0))
  else if f.t.rightB then (wrapB f.t f.b, 0) else ([], 1)
def ElemOk (w : World) (r : List UInt8 × Int) (e : Ending) (w' : World) : Prop := ∃ A n c, e = .returned (.tuple #[.slice A n c, .int .i64 r.2]) ∧ Ob w' w.heap.size 5 (.slice A n c) r.1 ∧ Below w.heap.size w w'

theorem whs_total (l : List UInt8) : ∀ (n k : Nat), l.length - k ≤ n → (whs l k).1.flatten.length ≤ l.length - k := by
  intro n
  induction n with
  | zero => intro k hk; rw [whs_end l k (by omega)]; simp
  | succ n ih =>
    intro k hk
    rcases Nat.lt_or_ge k l.length with h | h
    · by_cases h1 : (nx l k).2.2 = 0
      · rw [whs_step l k h h1]
        have h2 := nx_ok l k h1
        split
        · simp
        · have := ih (nx l k).2.1 (by omega)
          rw [List.flatten_cons, List.length_append, h2.2.2.2.2.2.2]
          simp only [List.length_take, List.length_drop]
          omega
      · rw [whs_err l k h h1]; simp
    · rw [whs_end l k h]; simp

set_option maxHeartbeats 1600000 in
theorem bdElementT (S : Nat) (fp : List Nat) (F : Fr) (Fs : List Fr) (er : Int) (v va : Value) (vs : List Value) (w : World) (h : Sht w S fp F Fs er v va vs) (hs : F.set = false) (hlen : F.b.length ≤ 16777216) :
    Calls Try.prog 48 #[.pointer (some ⟨S, 0, none⟩)] w (ElemOk w (elemF F)) := by
  obtain ⟨⟨c0, c1, c2, c3, _, _, _⟩, hf⟩ := h.cells
  rw [hs] at c3
  have hEl : Hid (elemF F = (if F.t.rightB then wrapB F.t F.b else [], if F.t.rightB then 0 else 1)) := by
    unfold Hid elemF
    rw [hs]
    cases F.t.rightB <;> rfl
  have hW := Lib.hid (fun (A : Option Addr) (W : World) (hb : Bss W A 1 [F.b]) => hdWrapAny F.t A 1 1 [F.b] W hb (by omega) (by simpa using hlen) (by
    intro k
    unfold rowL
    rcases k with _ | k
    · simpa using (show F.b.length ≤ 1099511627776 by omega)
    · simp))
  have hT : Hid (∀ (w2 w3 : World) e, Below w.heap.size w w2 → WrapOk w2 F.t [F.b].flatten e w3 → (∃ A n c, e = .returned (.tuple #[.slice A n c, .int .i64 (if F.t.rightB then 0 else 1)]) ∧ Ob w3 w.heap.size 5 (.slice A n c) (if F.t.rightB then wrapB F.t F.b else [])) ∧ Below w.heap.size w w3) := by
    intro w2 w3 e hb hw
    rw [show [F.b].flatten = F.b by simp] at hw
    obtain ⟨A, n, c, he, hob, hb2⟩ := hw.form
    exact ⟨⟨A, n, c, he, hob.mono hb.size⟩, hb.trans (hb2.mono hb.size)⟩
  have HT := Lib.hid h
  have KC : Hid (∀ W, Below w.heap.size w W → W.cell? ⟨S, 0, none⟩ = some (.int .i64 F.t.cls) ∧ W.cell? ⟨S, 1, none⟩ = some (.int .i64 F.t.num) ∧ W.cell? ⟨S, 2, none⟩ = some (.bool F.t.made)) := by
    intro W hW
    have h1 := (h.below hW).cells.1
    exact ⟨h1.1, h1.2.1, h1.2.2.1⟩
  have hCo := Lib.hid (fun (W : World) (hW : Below w.heap.size w W) => bdContents S fp F Fs er v va vs W (h.below hW))
  clear h hf hs hlen
  unfold Tg.v at *
  generalize (if F.t.rightB then (0 : Int) else 1) = E at *
  go_enter Try.func48, Try.ntmps48
  go_wp2_with fail
  refine wp_region_held_drew (S := fun w' => (w'.cell? ⟨S, 0, none⟩ = some (.int .i64 F.t.cls) ∧ w'.cell? ⟨S, 1, none⟩ = some (.int .i64 F.t.num) ∧ w'.cell? ⟨S, 2, none⟩ = some (.bool F.t.made)) ∧ Below w.heap.size w w') (by kernel_rfl) ?_ (fun hHeld => ?_)
  · (try dsimp only); exact ⟨⟨c0, c1, c2⟩, (Below.refl _ _).drew⟩
  refine wpAnyH_take (i := 0) (v := ?_) rfl (by kernel_rfl) (by kernel_rfl) (by kernel_rfl) (fun _ _ _ h => h) (Or.inl ⟨by kernel_rfl, ?_⟩) (by assumption) ?_
  rotate_left 1
  · (intro w hSw; (try dsimp only at hSw); go_simp) <;> (try with_reducible rfl)
  try simp only [Act.put, List.setIfInBounds_toArray, List.set_cons_zero, List.set_cons_succ, List.getElem_toArray, List.getElem_cons_succ, List.getElem_cons_zero]
  refine wpAnyH_take (i := 1) (v := ?_) rfl (by kernel_rfl) (by kernel_rfl) (by kernel_rfl) (fun _ _ _ h => h) (Or.inl ⟨by kernel_rfl, ?_⟩) (by assumption) ?_
  rotate_left 1
  · (intro w hSw; (try dsimp only at hSw); go_simp) <;> (try with_reducible rfl)
  try simp only [Act.put, List.setIfInBounds_toArray, List.set_cons_zero, List.set_cons_succ, List.getElem_toArray, List.getElem_cons_succ, List.getElem_cons_zero]
  refine wpAnyH_take (i := 2) (v := ?_) rfl (by kernel_rfl) (by kernel_rfl) (by kernel_rfl) (fun _ _ _ h => h) (Or.inl ⟨by kernel_rfl, ?_⟩) (by assumption) ?_
  rotate_left 1
  · (intro w hSw; (try dsimp only at hSw); go_simp) <;> (try with_reducible rfl)
  try simp only [Act.put, List.setIfInBounds_toArray, List.set_cons_zero, List.set_cons_succ, List.getElem_toArray, List.getElem_cons_succ, List.getElem_cons_zero]
  refine wpAnyH_take (i := 3) (v := ?_) rfl (by kernel_rfl) (by kernel_rfl) (by kernel_rfl) (fun _ _ _ h => h) (Or.inl ⟨by kernel_rfl, ?_⟩) (by assumption) ?_
  rotate_left 1
  · (intro w hSw; (try dsimp only at hSw); go_simp) <;> (try with_reducible rfl)
  try simp only [Act.put, List.setIfInBounds_toArray, List.set_cons_zero, List.set_cons_succ, List.getElem_toArray, List.getElem_cons_succ, List.getElem_cons_zero]
  refine wpAnyH_take (i := 4) (v := ?_) rfl (by kernel_rfl) (by kernel_rfl) (by kernel_rfl) (fun _ _ _ h => h) (Or.inl ⟨by kernel_rfl, ?_⟩) (by assumption) ?_
  rotate_left 1
  · (intro w hSw; (try dsimp only at hSw); go_simp) <;> (try with_reducible rfl)
  try simp only [Act.put, List.setIfInBounds_toArray, List.set_cons_zero, List.set_cons_succ, List.getElem_toArray, List.getElem_cons_succ, List.getElem_cons_zero]
  refine wpAnyH_ready (rs := [5]) (by kernel_rfl) (by simp) ?_
  refine AllReadyH.cons rfl (fun K hK => ?_) AllReadyH.nil
  go_simp
  refine (hCo.out _ hHeld.2).mono ?_
  rintro e w2 ⟨⟨A, rfl, hbs⟩, hq⟩
  have hb2 := hHeld.2.trans (hq.below (B := w.heap.size))
  go_wp2_with fail
  refine hK.out _ _ ?_ (fun hHeld => ?_)
  · (try dsimp only); exact ⟨KC.out _ hb2, hb2⟩
  clear hK K
  try simp only [Act.put, List.setIfInBounds_toArray, List.set_cons_zero, List.set_cons_succ, List.getElem_toArray, List.getElem_cons_succ, List.getElem_cons_zero]
  refine wpAnyH_ready (rs := [6]) (by kernel_rfl) (by simp) ?_
  refine AllReadyH.cons rfl (fun K hK => ?_) AllReadyH.nil
  go_simp
  have hb3 := hb2.alloc hb2.size (.cells #[.slice A F.b.length F.b.length] 41)
  have hbss := Bss.new1 41 hbs (Nat.le_refl _)
  refine hK.out _ _ ?_ (fun hHeld => ?_)
  · (try dsimp only); exact ⟨KC.out _ hb3, hb3⟩
  clear hK K
  try simp only [Act.put, List.setIfInBounds_toArray, List.set_cons_zero, List.set_cons_succ, List.getElem_toArray, List.getElem_cons_succ, List.getElem_cons_zero]
  refine wpAnyH_ready (rs := [7]) (by kernel_rfl) (by simp) ?_
  refine AllReadyH.cons rfl (fun K hK => ?_) AllReadyH.nil
  go_simp
  refine (hW.out _ _ hbss).mono ?_
  intro e w4 hh
  obtain ⟨⟨A5, n5, c5, rfl, hob⟩, hb5⟩ := hT.out _ _ _ hb3 hh
  clear hh
  go_wp2_with fail
  refine hK.out _ _ ?_ (fun hHeld => ?_)
  · (try dsimp only); exact ⟨KC.out _ hb5, hb5⟩
  clear hK K
  try simp only [Act.put, List.setIfInBounds_toArray, List.set_cons_zero, List.set_cons_succ, List.getElem_toArray, List.getElem_cons_succ, List.getElem_cons_zero]
  refine wpAnyH_take (i := 8) (v := ?_) rfl (by kernel_rfl) (by kernel_rfl) (by kernel_rfl) (fun _ _ _ h => h) (Or.inl ⟨by kernel_rfl, ?_⟩) (by assumption) ?_
  rotate_left 1
  · (intro w hSw; (try dsimp only at hSw); go_simp) <;> (try with_reducible rfl)
  try simp only [Act.put, List.setIfInBounds_toArray, List.set_cons_zero, List.set_cons_succ, List.getElem_toArray, List.getElem_cons_succ, List.getElem_cons_zero]
  refine wpAnyH_take (i := 9) (v := ?_) rfl (by kernel_rfl) (by kernel_rfl) (by kernel_rfl) (fun _ _ _ h => h) (Or.inl ⟨by kernel_rfl, ?_⟩) (by assumption) ?_
  rotate_left 1
  · (intro w hSw; (try dsimp only at hSw); go_simp) <;> (try with_reducible rfl)
  try simp only [Act.put, List.setIfInBounds_toArray, List.set_cons_zero, List.set_cons_succ, List.getElem_toArray, List.getElem_cons_succ, List.getElem_cons_zero]
  refine wpAnyH_take (i := 10) (v := ?_) rfl (by kernel_rfl) (by kernel_rfl) (by kernel_rfl) (fun _ _ _ h => h) (Or.inl ⟨by kernel_rfl, ?_⟩) (by assumption) ?_
  rotate_left 1
  · (intro w hSw; (try dsimp only at hSw); go_simp) <;> (try with_reducible rfl)
  try simp only [Act.put, List.setIfInBounds_toArray, List.set_cons_zero, List.set_cons_succ, List.getElem_toArray, List.getElem_cons_succ, List.getElem_cons_zero]
  refine wpAnyH_take (i := 11) (v := ?_) rfl (by kernel_rfl) (by kernel_rfl) (by kernel_rfl) (fun _ _ _ h => h) (Or.inl ⟨by kernel_rfl, ?_⟩) (by assumption) ?_
  rotate_left 1
  · (intro w hSw; (try dsimp only at hSw); go_simp) <;> (try with_reducible rfl)
  try simp only [Act.put, List.setIfInBounds_toArray, List.set_cons_zero, List.set_cons_succ, List.getElem_toArray, List.getElem_cons_succ, List.getElem_cons_zero]
  refine wpAnyH_done (by kernel_rfl) ?_ _
  go_wp2
  go_ret2
  rw [hEl.out]
  exact ⟨A5, n5, c5, rfl, hob, hb5⟩

set_option maxHeartbeats 1600000 in
theorem bdElementS (S : Nat) (fp : List Nat) (F : Fr) (Fs : List Fr) (er : Int) (v va : Value) (vs : List Value) (w : World) (h : Sht w S fp F Fs er v va vs) (hs : F.set = true) (hlen : F.b.length ≤ 16777216) :
    Calls Try.prog 48 #[.pointer (some ⟨S, 0, none⟩)] w (ElemOk w (elemF F)) := by
  obtain ⟨⟨_, _, _, c3, _, _, _⟩, _⟩ := h.cells
  rw [hs] at c3
  have hEl : Hid (elemF F = if (whs F.b 0).2 ≠ 0 then ([], (whs F.b 0).2) else (wrapB ⟨0, 17, true⟩ (ordO (whs F.b 0).1).flatten, 0)) := by
    unfold Hid elemF
    rw [hs]; rfl
  have hWh := Lib.hid (fun g s (W : World) (hW : Cur W g s F.b 0) => bdWholes g 0 F.b W hW (by omega))
  have HW : Hid (∀ W g s e w', WhOk W g s F.b 0 e w' → ((whs F.b 0).2 = 0 → ∃ A n c vs, e = .returned (.tuple #[.slice A n c, .int .i64 0]) ∧ n = (whs F.b 0).1.length ∧ w'.ownsRow W.heap.size 41 1 (.slice A n c) n vs ∧ Oss w' W.heap.size vs (whs F.b 0).1) ∧
    ((whs F.b 0).2 ≠ 0 → e = .returned (.tuple #[.slice none 0 0, .int .i64 (whs F.b 0).2])) ∧ Only g W w') := fun W g s e w' h => ⟨fun q => by obtain ⟨A, n, c, vs, h1, h2, h3, h4, _⟩ := h.1 q; exact ⟨A, n, c, vs, h1, h2, h3, h4⟩, fun q => (h.2.1 q).1, h.2.2⟩
  have htot := whs_total F.b F.b.length 0 (by omega)
  have hcnt := whs_count F.b F.b.length 0 (by omega)
  have hshort := whs_short F.b F.b.length 0 (by omega)
  have hC := Lib.hid (bdContents S fp F Fs er v va vs w h)
  generalize whs F.b 0 = R at *
  obtain ⟨ls, E⟩ := R
  simp only at HW hEl htot hcnt hshort
  have hSet := Lib.hid (fun (A : Option Addr) (n c : Nat) (W : World) (hb : Bss W A n ls) (hn : n = ls.length) => bdSetOf A n c ls W hb (by omega) (by omega) (by
    intro k
    rcases Nat.lt_or_ge k ls.length with hk | hk
    · have := hshort _ (rowL_mem hk); omega
    · unfold rowL; rw [List.getD_eq_getElem?_getD, List.getElem?_eq_none hk]; simp))
  have hNew := Lib.hid (fun (A : Option Addr) (W : World) (hb : Bs W A F.b.length F.b) => octNew A F.b.length F.b.length F.b W hb (by omega))
  have hT : Hid (∀ (w2 w3 : World) r e, Below w.heap.size w w2 → NewBs2 w2 r e w3 → ∃ A n c, e = .returned (.tuple #[.slice A n c, .int .i64 0]) ∧ Ob w3 w.heap.size 5 (.slice A n c) r ∧ Below w.heap.size w w3) := by
    rintro w2 w3 r e hb ⟨A, n, c, rfl, hob, hb2⟩
    exact ⟨A, n, c, rfl, hob.mono hb.size, hb.trans (hb2.mono hb.size)⟩
  clear h htot hcnt hshort hlen hs
  go_enter Try.func48, Try.ntmps48
  go_wp2_with fail
  refine hC.out.mono ?_
  rintro e w1 ⟨⟨A1, rfl, hbs⟩, hq⟩
  have hb1 : Below w.heap.size w w1 := hq.below
  clear hC hq
  go_wp2_with fail
  refine (hNew.out _ _ hbs).mono ?_
  rintro e w2 ⟨g, s, rfl, hg, hc, hbb⟩
  have hb2 := hb1.trans (hbb.mono hb1.size)
  have hg2 : w.heap.size ≤ g := Nat.le_trans hb1.size hg
  clear hbs hbb hNew
  go_wp2_with fail
  refine (hWh.out _ _ _ hc).mono ?_
  intro e w3 hh
  obtain ⟨hyes, hno, hO⟩ := HW.out _ _ _ _ _ hh
  have hb3 := Only.below hO hb2 hg2 hb2.size
  clear hh HW hWh hO hc hg
  by_cases q : E = 0
  · subst q
    obtain ⟨A, n, c, us, rfl, hn, hrow, hoss⟩ := hyes rfl
    obtain ⟨A', c', he, _, hbss⟩ := bss_own hrow hoss.vss
    simp only [Value.slice.injEq] at he
    obtain ⟨rfl, _, rfl⟩ := he
    have HN := Lib.hid hn
    clear hyes hno hrow hoss hn hb2
    go_wp2_with fail
    refine (hSet.out _ _ _ _ hbss HN.out).mono ?_
    intro e w4 hh
    obtain ⟨A5, n5, c5, rfl, hob, hb5⟩ := hT.out _ _ _ _ hb3 hh
    clear hh hSet hT
    go_wp2
    go_ret2
    rw [hEl.out]
    exact ⟨A5, n5, c5, rfl, hob, hb5⟩
  · have e1 : (E != 0) = true := by simp; exact q
    have he := hno q
    subst he
    have Q := Lib.hid q
    clear hyes hno q hb2
    go_wp2
    go_ret2
    rw [hEl.out, if_pos Q.out]
    exact ⟨none, 0, 0, rfl, Ob.nil _ _ _, hb3⟩

theorem bdElement (S : Nat) (fp : List Nat) (F : Fr) (Fs : List Fr) (er : Int) (v va : Value) (vs : List Value) (w : World) (h : Sht w S fp F Fs er v va vs) (hlen : F.b.length ≤ 16777216) :
    Calls Try.prog 48 #[.pointer (some ⟨S, 0, none⟩)] w (ElemOk w (elemF F)) := by
  cases hs : F.set with
  | true => exact bdElementS S fp F Fs er v va vs w h hs hlen
  | false => exact bdElementT S fp F Fs er v va vs w h hs hlen

end Go.Proofs.Ytbhfaakhcnkegaa
