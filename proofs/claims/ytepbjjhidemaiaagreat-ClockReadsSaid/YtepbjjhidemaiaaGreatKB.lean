/-
  The project's clock: next, kept, Read, ReadStrict, ReadGeneral.
-/
import Derived.Test.YtepbjjhidemaiaaGreatKA
import Derived.Test.YtepbjjhidemaiaaGreatHdOpen
import Derived.Deep.RegionHeld3
namespace Go.Proofs.YtepbjjhidemaiaaGreat
open Go.RowKit Go.Joins
set_option linter.unusedVariables false
set_option linter.unusedSimpArgs false
set_option maxRecDepth 4000

/-! ### Kj -/
/-- Whether a tag is the universal one of a kind. -/
def okTg (t : Tg) : Prop := (t.num = 23 ∨ t.num = 24) ∧ t.cls = 0 ∧ t.made = false
instance (t : Tg) : Decidable (okTg t) := by unfold okTg; infer_instance
/-- The next time: kind, second, error. -/
def tmR (l : List UInt8) (k : Nat) : Int × Int × Int :=
  if (rHead l k).2.2.2 ≠ 0 then (0, 0, (rHead l k).2.2.2) else if ¬ okTg (rHead l k).1 then (0, 0, 4)
  else if (l.length : Int) - (rHead l k).2.2.1 < (rHead l k).2.1 then (0, 0, 3) else prsV (rHead l k).1.num ((l.drop (rHead l k).2.2.1).take (rHead l k).2.1.toNat)
/-- The place behind it. -/
def tmP (l : List UInt8) (k : Nat) : Nat := (rHead l k).2.2.1 + (rHead l k).2.1.toNat
theorem prsV_no (k : Int) (l : List UInt8) (h : (prsV k l).2.2 ≠ 0) : prsV k l = (0, 0, (prsV k l).2.2) := by
  unfold prsV at *
  by_cases q : k = 23 ∨ k = 24
  · rw [if_pos q] at h ⊢
    by_cases g : PrsC k l
    · rw [if_pos g] at h; exact absurd rfl h
    · rw [if_neg g]
  · rw [if_neg q]
theorem prsV_ok {k : Int} {l : List UInt8} (h : (prsV k l).2.2 = 0) : (k = 23 ∨ k = 24) ∧ PrsC k l ∧ prsV k l = (k, secC k l, 0) := by
  unfold prsV at *
  by_cases q : k = 23 ∨ k = 24
  · rw [if_pos q] at h ⊢
    by_cases g : PrsC k l
    · rw [if_pos g]; exact ⟨q, g, rfl⟩
    · rw [if_neg g] at h; exact absurd h (by decide)
  · rw [if_neg q] at h; exact absurd h (by decide)
theorem prsV_I64 (k : Int) (l : List UInt8) : -62167219200 ≤ (prsV k l).2.1 ∧ (prsV k l).2.1 ≤ 253402300799 := by
  by_cases h : (prsV k l).2.2 = 0
  · obtain ⟨_, hp, e⟩ := prsV_ok h
    rw [e]; exact sec_range hp.2.2
  · rw [prsV_no k l h]; exact ⟨by show (-62167219200 : Int) ≤ 0; decide, by show (0 : Int) ≤ 253402300799; decide⟩
theorem tmR_no (l : List UInt8) (k : Nat) (h : (tmR l k).2.2 ≠ 0) : tmR l k = (0, 0, (tmR l k).2.2) := by
  unfold tmR at *
  split
  · rfl
  · rename_i h1
    rw [if_neg h1] at h
    split
    · rfl
    · rename_i h2
      rw [if_neg h2] at h
      split
      · rfl
      · rename_i h3
        rw [if_neg h3] at h
        exact prsV_no _ _ h
theorem tmR_I64 (l : List UInt8) (k : Nat) : -62167219200 ≤ (tmR l k).2.1 ∧ (tmR l k).2.1 ≤ 253402300799 := by
  unfold tmR
  have h0 : (-62167219200 : Int) ≤ 0 ∧ (0 : Int) ≤ 253402300799 := ⟨by decide, by decide⟩
  split
  · exact h0
  · split
    · exact h0
    · split
      · exact h0
      · exact prsV_I64 _ _

theorem neqTagU (w : World) (a b : Int) (c : Bool) : (binOp .neq 62 (.agg #[.int .i64 a, .int .i64 b, .bool c]) (.agg #[.int .i64 0, .int .i64 b, .bool false])).run Tryz.prog w = .ok (.bool (!decide (a = 0 ∧ c = false))) w := by
  by_cases h1 : a = 0
  · subst h1
    cases c
    · go_simp
    · rw [decide_eq_false (by simp)]
      go_simp
  · rw [decide_eq_false (fun x => h1 x.1)]
    go_simp

/-- What next hands back; a cursor goes on. -/
def NextOk (w : World) (g : Nat) (s : Value) (l : List UInt8) (k : Nat) (R : Int × Int × Int) (P : Nat) (e : Ending) (w' : World) : Prop :=
  ∃ j, e = prsE R ∧ Cur w' g s l j ∧ k ≤ j ∧ Only g w w' ∧ (R.2.2 = 0 → j = P)
/-- While next reads: the cursor, the time, the tag. -/
def NS (w : World) (g : Nat) (s : Value) (l : List UInt8) (j : Nat) (T G : Nat) (W : World) : Prop :=
  Cur W g s l j ∧ Blk W T 26 [.int .i64 0, .int .i64 0] ∧ Only g w W ∧ g < T ∧ w.heap.size ≤ T ∧ T < W.heap.size
theorem NS.below {w : World} {g : Nat} {s : Value} {l : List UInt8} {j T G : Nat} {W W' : World} (h : NS w g s l j T G W) (hb : Below W.heap.size W W') : NS w g s l j T G W' :=
  ⟨h.1.below hb, h.2.1.below hb, h.2.2.1.trans (Only.of_below hb), h.2.2.2.1, h.2.2.2.2.1, Nat.lt_of_lt_of_le h.2.2.2.2.2 hb.size⟩
theorem NS.only {w : World} {g : Nat} {s : Value} {l : List UInt8} {j j' T G : Nat} {W W' : World} (h : NS w g s l j T G W) (hc : Cur W' g s l j') (ho : Only g W W') : NS w g s l j' T G W' :=
  ⟨hc, h.2.1.only ho (by have := h.2.2.2.1; omega), h.2.2.1.trans ho, h.2.2.2.1, h.2.2.2.2.1, Nat.lt_of_lt_of_le h.2.2.2.2.2 ho.size⟩
theorem NS.put {w : World} {g : Nat} {s : Value} {l : List UInt8} {j T G : Nat} {W : World} (h : NS w g s l j T G W) (a b : Int) :
    Blk ((W.setCell ⟨T, 0, none⟩ (.int .i64 a)).setCell ⟨T, 1, none⟩ (.int .i64 b)) T 26 [.int .i64 a, .int .i64 b] ∧ Cur ((W.setCell ⟨T, 0, none⟩ (.int .i64 a)).setCell ⟨T, 1, none⟩ (.int .i64 b)) g s l j ∧
      Only g w ((W.setCell ⟨T, 0, none⟩ (.int .i64 a)).setCell ⟨T, 1, none⟩ (.int .i64 b)) := by
  obtain ⟨h1, h2, h3, h4, h5, h6⟩ := h
  have ho : Only T W ((W.setCell ⟨T, 0, none⟩ (.int .i64 a)).setCell ⟨T, 1, none⟩ (.int .i64 b)) := ((Only.refl T W).setCell (p := ⟨T, 0, none⟩) rfl _).setCell (p := ⟨T, 1, none⟩) rfl _
  refine ⟨h2.put _ _, h1.only ho (by omega) ?_, ?_⟩
  · intro o x
    rw [h2.cell]
    rcases o with _ | _ | o <;> simp
  · exact h3.grown ho (by intro b hb; cases hb; exact h5)

set_option maxHeartbeats 6400000 in
theorem ckNextTime (g k : Nat) (l : List UInt8) (w : World) {s : Value} (h : Cur w g s l k) (hl : l.length ≤ 1099511627776) :
    Calls Tryz.prog 15 #[.pointer (some ⟨g, 0, none⟩)] w (NextOk w g s l k (tmR l k) (tmP l k)) := by
  have hg := h.lt
  have hno := rHead_no l k
  have hok := rHead_ok l k
  have hge := rHead_ge l k
  have HD := Lib.hid (fun W (hW : Cur W g s l k) => hdRead g k l W hW)
  have HI := Lib.hid (fun n W => ckIsKind n W)
  have HO := Lib.hid (fun n W => hdOf n W)
  have HP := Lib.hid (fun n A m c r W (hW : Bs W A m r) hm => ckParse n A m c r W hW hm)
  have hTR : tmR l k = if (rHead l k).2.2.2 ≠ 0 then (0, 0, (rHead l k).2.2.2) else if ¬ okTg (rHead l k).1 then (0, 0, 4)
      else if (l.length : Int) - (rHead l k).2.2.1 < (rHead l k).2.1 then (0, 0, 3) else prsV (rHead l k).1.num ((l.drop (rHead l k).2.2.1).take (rHead l k).2.1.toNat) := rfl
  have hTP : tmP l k = (rHead l k).2.2.1 + (rHead l k).2.1.toNat := rfl
  have N0 : Hid (NS w g s l k w.heap.size 0 (w.alloc (.cells #[.int .i64 0, .int .i64 0] 26))) :=
    ⟨h.below (below_alloc1 _ _), Blk.two_new w _ _ _, Only.of_below (below_alloc1 _ _), hg, Nat.le_refl _, by simp⟩
  unfold HeadOk at HD
  generalize tmR l k = R at *
  generalize tmP l k = P at *
  generalize rHead l k = H at *
  obtain ⟨⟨tc, tn, tm⟩, n, p, E⟩ := H
  simp only at hno hok hge HD hTR hTP
  have HTR := Lib.hid hTR
  have HTP := Lib.hid hTP
  clear hTR hTP h
  unfold Tg.v at HD HO
  have FT := Lib.hid (fun j W (h : NS w g s l j w.heap.size 0 W) => h.2.1.two)
  have PUT := Lib.hid (fun j W (h : NS w g s l j w.heap.size 0 W) (a b : Int) => h.put a b)
  go_enter Tryz.func15, Tryz.ntmps15
  go_upto_region 1 with (fail)
  generalize (w.alloc (.cells #[.int .i64 0, .int .i64 0] 26)) = W0 at *
  go_wp2_with fail
  refine (HD.out _ N0.out.1).mono ?_
  rintro e w1 ⟨rfl, hc1, ho1⟩
  have N1 := Lib.hid (N0.out.only hc1 ho1)
  have N2 := Lib.hid (N1.out.below (below_alloc1 w1 (.cells #[.int .i64 tc, .int .i64 tn, .bool tm] 62)))
  have hd := Blk.three_new w1 (.int .i64 tc) (.int .i64 tn) (.bool tm) 62
  have Hd := Lib.hid hd
  have hgD : g < w1.heap.size := by have h1 := N1.out.2.2.2.1; have h2 := N1.out.2.2.2.2.2; omega
  clear hc1 ho1 N0 N1 hd HD
  by_cases hE : E = 0
  rotate_left
  · have e1 : (E != 0) = true := by simpa using hE
    have FR := Lib.hid (HTR.out.trans (if_pos hE))
    obtain ⟨z0, z1, g0, g1⟩ := FT.out _ _ N2.out
    obtain ⟨pb, pc, po⟩ := PUT.out _ _ N2.out 0 0
    have PC := Lib.hid pc
    have PO := Lib.hid po
    obtain ⟨t0, t1, _, _⟩ := pb.two
    clear pb pc po
    go_wp2
    refine bodyPost_ret (v := .tuple #[.agg #[.int .i64 0, .int .i64 0], .int .i64 E]) (by simp [results, Tryz.results15, go_sem, t0, t1]) rfl ?_
    exact ⟨p, by rw [FR.out]; rfl, PC.out, hge, PO.out, fun x => absurd (by rw [FR.out] at x; exact x) hE⟩
  have HTR2 := Lib.hid (HTR.out.trans (if_neg (fun x => x hE)))
  have hok2 := hok hE
  subst hE
  clear HTR hno hok
  go_upto_region 4 with (fail)
  generalize w1.alloc (.cells #[.int .i64 tc, .int .i64 tn, .bool tm] 62) = W2 at *
  generalize w1.heap.size = D at *
  have ST : Hid (∀ W, Below W2.heap.size W2 W → (W.cell? ⟨D, 0, none⟩ = some (.int .i64 tc) ∧ W.cell? ⟨D, 1, none⟩ = some (.int .i64 tn) ∧ W.cell? ⟨D, 2, none⟩ = some (.bool tm)) ∧ NS w g s l p w.heap.size 0 W) :=
    fun W hW => ⟨(Hd.out.below hW).three, N2.out.below hW⟩
  by_cases hk : tn = 23 ∨ tn = 24
  rotate_left
  · have KD : decide (tn = 23 ∨ tn = 24) = false := by simpa using hk
    have FR := Lib.hid (HTR2.out.trans (if_pos (fun x => hk x.1)))
    refine wp_region_held_drew (S := fun w' => w'.cell? ⟨D, 0, none⟩ = some (.int .i64 tc) ∧ w'.cell? ⟨D, 1, none⟩ = some (.int .i64 tn) ∧ w'.cell? ⟨D, 2, none⟩ = some (.bool tm)) (by kernel_rfl) ?_ (fun hHeld => ?_)
    · (try dsimp only); exact (ST.out _ (Below.refl _ _)).1
    refine wpAnyH_take (i := 0) (v := ?_) rfl (by kernel_rfl) (by kernel_rfl) (by kernel_rfl) (fun _ _ _ h => h) (Or.inl ⟨by kernel_rfl, ?_⟩) (by assumption) ?_
    rotate_left 1
    · (intro w hSw; (try dsimp only at hSw); go_simp) <;> (try with_reducible rfl)
    try simp only [Act.put, List.setIfInBounds_toArray, List.set_cons_zero, List.set_cons_succ, List.getElem_toArray, List.getElem_cons_succ, List.getElem_cons_zero]
    refine wpAnyH_take (i := 1) (v := ?_) rfl (by kernel_rfl) (by kernel_rfl) (by kernel_rfl) (fun _ _ _ h => h) (Or.inl ⟨by kernel_rfl, ?_⟩) (by assumption) ?_
    rotate_left 1
    · (intro w hSw; (try dsimp only at hSw); go_simp) <;> (try with_reducible rfl)
    try simp only [Act.put, List.setIfInBounds_toArray, List.set_cons_zero, List.set_cons_succ, List.getElem_toArray, List.getElem_cons_succ, List.getElem_cons_zero]
    refine wpAnyH_ready (rs := [2]) (by kernel_rfl) (by simp) ?_
    refine AllReadyH.cons rfl (fun K hK => ?_) AllReadyH.nil
    go_simp
    refine (HI.out _ _).mono ?_
    rintro e w3 ⟨rfl, hw3⟩
    have z3 : Below W2.heap.size W2 w3 := by rw [hw3]; exact Below.drew (Below.refl _ _)
    clear hw3
    rw [KD]
    go_wp2_with fail
    refine hK.out _ _ ?_ (fun hHeld => ?_)
    · (try dsimp only); exact (ST.out _ z3).1
    clear hK K
    try simp only [Act.put, List.setIfInBounds_toArray, List.set_cons_zero, List.set_cons_succ, List.getElem_toArray, List.getElem_cons_succ, List.getElem_cons_zero]
    refine wpAnyH_take (i := 3) (v := ?_) rfl (by kernel_rfl) (by kernel_rfl) (by kernel_rfl) (fun _ _ _ h => h) (Or.inl ⟨by kernel_rfl, ?_⟩) (by assumption) ?_
    rotate_left 1
    · (intro w hSw; (try dsimp only at hSw); go_simp) <;> (try with_reducible rfl)
    try simp only [Act.put, List.setIfInBounds_toArray, List.set_cons_zero, List.set_cons_succ, List.getElem_toArray, List.getElem_cons_succ, List.getElem_cons_zero]
    refine wpAnyH_take (i := 4) (v := ?_) rfl (by kernel_rfl) (by kernel_rfl) (by kernel_rfl) (fun _ _ _ h => h) (Or.inl ⟨by kernel_rfl, ?_⟩) (by assumption) ?_
    rotate_left 1
    · (intro w hSw; (try dsimp only at hSw); go_simp) <;> (try with_reducible rfl)
    try simp only [Act.put, List.setIfInBounds_toArray, List.set_cons_zero, List.set_cons_succ, List.getElem_toArray, List.getElem_cons_succ, List.getElem_cons_zero]
    refine wpAnyH_take (i := 5) (v := undef) rfl (by kernel_rfl) (by kernel_rfl) (by kernel_rfl) (fun _ _ _ h => h) (Or.inr ⟨by kernel_rfl, rfl⟩) (by assumption) ?_
    try simp only [Act.put, List.setIfInBounds_toArray, List.set_cons_zero, List.set_cons_succ, List.getElem_toArray, List.getElem_cons_succ, List.getElem_cons_zero]
    refine wpAnyH_take (i := 6) (v := undef) rfl (by kernel_rfl) (by kernel_rfl) (by kernel_rfl) (fun _ _ _ h => h) (Or.inr ⟨by kernel_rfl, rfl⟩) (by assumption) ?_
    try simp only [Act.put, List.setIfInBounds_toArray, List.set_cons_zero, List.set_cons_succ, List.getElem_toArray, List.getElem_cons_succ, List.getElem_cons_zero]
    refine wpAnyH_take (i := 7) (v := undef) rfl (by kernel_rfl) (by kernel_rfl) (by kernel_rfl) (fun _ _ _ h => h) (Or.inr ⟨by kernel_rfl, rfl⟩) (by assumption) ?_
    try simp only [Act.put, List.setIfInBounds_toArray, List.set_cons_zero, List.set_cons_succ, List.getElem_toArray, List.getElem_cons_succ, List.getElem_cons_zero]
    refine wpAnyH_take (i := 8) (v := undef) rfl (by kernel_rfl) (by kernel_rfl) (by kernel_rfl) (fun _ _ _ h => h) (Or.inr ⟨by kernel_rfl, rfl⟩) (by assumption) ?_
    try simp only [Act.put, List.setIfInBounds_toArray, List.set_cons_zero, List.set_cons_succ, List.getElem_toArray, List.getElem_cons_succ, List.getElem_cons_zero]
    refine wpAnyH_take (i := 9) (v := undef) rfl (by kernel_rfl) (by kernel_rfl) (by kernel_rfl) (fun _ _ _ h => h) (Or.inr ⟨by kernel_rfl, rfl⟩) (by assumption) ?_
    try simp only [Act.put, List.setIfInBounds_toArray, List.set_cons_zero, List.set_cons_succ, List.getElem_toArray, List.getElem_cons_succ, List.getElem_cons_zero]
    refine wpAnyH_take (i := 10) (v := ?_) rfl (by kernel_rfl) (by kernel_rfl) (by kernel_rfl) (fun _ _ _ h => h) (Or.inl ⟨by kernel_rfl, ?_⟩) (by assumption) ?_
    rotate_left 1
    · (intro w hSw; (try dsimp only at hSw); go_simp) <;> (try with_reducible rfl)
    try simp only [Act.put, List.setIfInBounds_toArray, List.set_cons_zero, List.set_cons_succ, List.getElem_toArray, List.getElem_cons_succ, List.getElem_cons_zero]
    refine wpAnyH_done (by kernel_rfl) ?_ _
    have N3 := (ST.out _ z3).2
    obtain ⟨z0, z1, g0, g1⟩ := FT.out _ _ N3
    obtain ⟨pb, pc, po⟩ := PUT.out _ _ N3 0 0
    have PC := Lib.hid pc
    have PO := Lib.hid po
    obtain ⟨t0, t1, _, _⟩ := pb.two
    clear pb pc po
    go_wp2
    refine bodyPost_ret (v := .tuple #[.agg #[.int .i64 0, .int .i64 0], .int .i64 4]) (by simp [results, Tryz.results15, go_sem, t0, t1]) rfl ?_
    exact ⟨p, by rw [FR.out]; rfl, PC.out, hge, PO.out, fun x => absurd (by rw [FR.out] at x; exact x) (by decide)⟩
  have KD : decide (tn = 23 ∨ tn = 24) = true := by simpa using hk
  have e16 : (tn == 16 || tn == 17) = false := by simp; omega
  by_cases hq : tc = 0 ∧ tm = false
  rotate_left
  · have FR := Lib.hid (HTR2.out.trans (if_pos (fun x => hq x.2)))
    have NQ : ∀ W, _ := fun W => neqTagU W tc tn tm
    have hQ : (!decide (tc = 0 ∧ tm = false)) = true := by rw [decide_eq_false hq]; rfl
    simp only [hQ] at NQ
    refine wp_region_held_drew (S := fun w' => w'.cell? ⟨D, 0, none⟩ = some (.int .i64 tc) ∧ w'.cell? ⟨D, 1, none⟩ = some (.int .i64 tn) ∧ w'.cell? ⟨D, 2, none⟩ = some (.bool tm)) (by kernel_rfl) ?_ (fun hHeld => ?_)
    · (try dsimp only); exact (ST.out _ (Below.refl _ _)).1
    refine wpAnyH_take (i := 0) (v := ?_) rfl (by kernel_rfl) (by kernel_rfl) (by kernel_rfl) (fun _ _ _ h => h) (Or.inl ⟨by kernel_rfl, ?_⟩) (by assumption) ?_
    rotate_left 1
    · (intro w hSw; (try dsimp only at hSw); go_simp) <;> (try with_reducible rfl)
    try simp only [Act.put, List.setIfInBounds_toArray, List.set_cons_zero, List.set_cons_succ, List.getElem_toArray, List.getElem_cons_succ, List.getElem_cons_zero]
    refine wpAnyH_take (i := 1) (v := ?_) rfl (by kernel_rfl) (by kernel_rfl) (by kernel_rfl) (fun _ _ _ h => h) (Or.inl ⟨by kernel_rfl, ?_⟩) (by assumption) ?_
    rotate_left 1
    · (intro w hSw; (try dsimp only at hSw); go_simp) <;> (try with_reducible rfl)
    try simp only [Act.put, List.setIfInBounds_toArray, List.set_cons_zero, List.set_cons_succ, List.getElem_toArray, List.getElem_cons_succ, List.getElem_cons_zero]
    refine wpAnyH_ready (rs := [2]) (by kernel_rfl) (by simp) ?_
    refine AllReadyH.cons rfl (fun K hK => ?_) AllReadyH.nil
    go_simp
    refine (HI.out _ _).mono ?_
    rintro e w3 ⟨rfl, hw3⟩
    have z3 : Below W2.heap.size W2 w3 := by rw [hw3]; exact Below.drew (Below.refl _ _)
    clear hw3
    rw [KD]
    go_wp2_with fail
    refine hK.out _ _ ?_ (fun hHeld => ?_)
    · (try dsimp only); exact (ST.out _ z3).1
    clear hK K
    try simp only [Act.put, List.setIfInBounds_toArray, List.set_cons_zero, List.set_cons_succ, List.getElem_toArray, List.getElem_cons_succ, List.getElem_cons_zero]
    refine wpAnyH_take (i := 3) (v := ?_) rfl (by kernel_rfl) (by kernel_rfl) (by kernel_rfl) (fun _ _ _ h => h) (Or.inl ⟨by kernel_rfl, ?_⟩) (by assumption) ?_
    rotate_left 1
    · (intro w hSw; (try dsimp only at hSw); go_simp) <;> (try with_reducible rfl)
    try simp only [Act.put, List.setIfInBounds_toArray, List.set_cons_zero, List.set_cons_succ, List.getElem_toArray, List.getElem_cons_succ, List.getElem_cons_zero]
    refine wpAnyH_take (i := 4) (v := ?_) rfl (by kernel_rfl) (by kernel_rfl) (by kernel_rfl) (fun _ _ _ h => h) (Or.inl ⟨by kernel_rfl, ?_⟩) (by assumption) ?_
    rotate_left 1
    · (intro w hSw; (try dsimp only at hSw); go_simp) <;> (try with_reducible rfl)
    try simp only [Act.put, List.setIfInBounds_toArray, List.set_cons_zero, List.set_cons_succ, List.getElem_toArray, List.getElem_cons_succ, List.getElem_cons_zero]
    refine wpAnyH_take (i := 5) (v := ?_) rfl (by kernel_rfl) (by kernel_rfl) (by kernel_rfl) (fun _ _ _ h => h) (Or.inl ⟨by kernel_rfl, ?_⟩) (by assumption) ?_
    rotate_left 1
    · (intro w hSw; (try dsimp only at hSw); go_simp) <;> (try with_reducible rfl)
    try simp only [Act.put, List.setIfInBounds_toArray, List.set_cons_zero, List.set_cons_succ, List.getElem_toArray, List.getElem_cons_succ, List.getElem_cons_zero]
    refine wpAnyH_take (i := 6) (v := ?_) rfl (by kernel_rfl) (by kernel_rfl) (by kernel_rfl) (fun _ _ _ h => h) (Or.inl ⟨by kernel_rfl, ?_⟩) (by assumption) ?_
    rotate_left 1
    · (intro w hSw; (try dsimp only at hSw); go_simp) <;> (try with_reducible rfl)
    try simp only [Act.put, List.setIfInBounds_toArray, List.set_cons_zero, List.set_cons_succ, List.getElem_toArray, List.getElem_cons_succ, List.getElem_cons_zero]
    refine wpAnyH_take (i := 7) (v := ?_) rfl (by kernel_rfl) (by kernel_rfl) (by kernel_rfl) (fun _ _ _ h => h) (Or.inl ⟨by kernel_rfl, ?_⟩) (by assumption) ?_
    rotate_left 1
    · (intro w hSw; (try dsimp only at hSw); go_simp) <;> (try with_reducible rfl)
    try simp only [Act.put, List.setIfInBounds_toArray, List.set_cons_zero, List.set_cons_succ, List.getElem_toArray, List.getElem_cons_succ, List.getElem_cons_zero]
    refine wpAnyH_ready (rs := [8]) (by kernel_rfl) (by simp) ?_
    refine AllReadyH.cons rfl (fun K hK => ?_) AllReadyH.nil
    go_simp
    refine (HO.out _ _).mono ?_
    rintro e w4 ⟨rfl, hb4⟩
    have z4 := z3.trans (hb4.mono z3.size)
    clear hb4
    rw [e16]
    go_wp2_with fail
    refine hK.out _ _ ?_ (fun hHeld => ?_)
    · (try dsimp only); exact (ST.out _ z4).1
    clear hK K
    try simp only [Act.put, List.setIfInBounds_toArray, List.set_cons_zero, List.set_cons_succ, List.getElem_toArray, List.getElem_cons_succ, List.getElem_cons_zero]
    refine wpAnyH_take (i := 9) (v := ?_) rfl (by kernel_rfl) (by kernel_rfl) (by kernel_rfl) (fun _ _ _ h => h) (Or.inl ⟨by kernel_rfl, ?_⟩) (by assumption) ?_
    rotate_left 1
    · (intro w hSw; (try dsimp only at hSw); go_simp) <;> (try with_reducible rfl)
    try simp only [Act.put, List.setIfInBounds_toArray, List.set_cons_zero, List.set_cons_succ, List.getElem_toArray, List.getElem_cons_succ, List.getElem_cons_zero]
    refine wpAnyH_take (i := 10) (v := ?_) rfl (by kernel_rfl) (by kernel_rfl) (by kernel_rfl) (fun _ _ _ h => h) (Or.inl ⟨by kernel_rfl, ?_⟩) (by assumption) ?_
    rotate_left 1
    · (intro w hSw; (try dsimp only at hSw); go_simp) <;> (try with_reducible rfl)
    try simp only [Act.put, List.setIfInBounds_toArray, List.set_cons_zero, List.set_cons_succ, List.getElem_toArray, List.getElem_cons_succ, List.getElem_cons_zero]
    refine wpAnyH_done (by kernel_rfl) ?_ _
    have N3 := (ST.out _ z4).2
    obtain ⟨z0, z1, g0, g1⟩ := FT.out _ _ N3
    obtain ⟨pb, pc, po⟩ := PUT.out _ _ N3 0 0
    have PC := Lib.hid pc
    have PO := Lib.hid po
    obtain ⟨t0, t1, _, _⟩ := pb.two
    clear pb pc po
    go_wp2
    refine bodyPost_ret (v := .tuple #[.agg #[.int .i64 0, .int .i64 0], .int .i64 4]) (by simp [results, Tryz.results15, go_sem, t0, t1]) rfl ?_
    exact ⟨p, by rw [FR.out]; rfl, PC.out, hge, PO.out, fun x => absurd (by rw [FR.out] at x; exact x) (by decide)⟩
  have NQ : ∀ W, _ := fun W => neqTagU W tc tn tm
  have hQ : (!decide (tc = 0 ∧ tm = false)) = false := by rw [decide_eq_true hq]; rfl
  simp only [hQ] at NQ
  have HTR3 := Lib.hid (HTR2.out.trans (if_neg (fun x => x ⟨hk, hq.1, hq.2⟩)))
  clear HTR2
  refine wp_region_held_drew (S := fun w' => w'.cell? ⟨D, 0, none⟩ = some (.int .i64 tc) ∧ w'.cell? ⟨D, 1, none⟩ = some (.int .i64 tn) ∧ w'.cell? ⟨D, 2, none⟩ = some (.bool tm)) (by kernel_rfl) ?_ (fun hHeld => ?_)
  · (try dsimp only); exact (ST.out _ (Below.refl _ _)).1
  refine wpAnyH_take (i := 0) (v := ?_) rfl (by kernel_rfl) (by kernel_rfl) (by kernel_rfl) (fun _ _ _ h => h) (Or.inl ⟨by kernel_rfl, ?_⟩) (by assumption) ?_
  rotate_left 1
  · (intro w hSw; (try dsimp only at hSw); go_simp) <;> (try with_reducible rfl)
  try simp only [Act.put, List.setIfInBounds_toArray, List.set_cons_zero, List.set_cons_succ, List.getElem_toArray, List.getElem_cons_succ, List.getElem_cons_zero]
  refine wpAnyH_take (i := 1) (v := ?_) rfl (by kernel_rfl) (by kernel_rfl) (by kernel_rfl) (fun _ _ _ h => h) (Or.inl ⟨by kernel_rfl, ?_⟩) (by assumption) ?_
  rotate_left 1
  · (intro w hSw; (try dsimp only at hSw); go_simp) <;> (try with_reducible rfl)
  try simp only [Act.put, List.setIfInBounds_toArray, List.set_cons_zero, List.set_cons_succ, List.getElem_toArray, List.getElem_cons_succ, List.getElem_cons_zero]
  refine wpAnyH_ready (rs := [2]) (by kernel_rfl) (by simp) ?_
  refine AllReadyH.cons rfl (fun K hK => ?_) AllReadyH.nil
  go_simp
  refine (HI.out _ _).mono ?_
  rintro e w3 ⟨rfl, hw3⟩
  have z3 : Below W2.heap.size W2 w3 := by rw [hw3]; exact Below.drew (Below.refl _ _)
  clear hw3
  rw [KD]
  go_wp2_with fail
  refine hK.out _ _ ?_ (fun hHeld => ?_)
  · (try dsimp only); exact (ST.out _ z3).1
  clear hK K
  try simp only [Act.put, List.setIfInBounds_toArray, List.set_cons_zero, List.set_cons_succ, List.getElem_toArray, List.getElem_cons_succ, List.getElem_cons_zero]
  refine wpAnyH_take (i := 3) (v := ?_) rfl (by kernel_rfl) (by kernel_rfl) (by kernel_rfl) (fun _ _ _ h => h) (Or.inl ⟨by kernel_rfl, ?_⟩) (by assumption) ?_
  rotate_left 1
  · (intro w hSw; (try dsimp only at hSw); go_simp) <;> (try with_reducible rfl)
  try simp only [Act.put, List.setIfInBounds_toArray, List.set_cons_zero, List.set_cons_succ, List.getElem_toArray, List.getElem_cons_succ, List.getElem_cons_zero]
  refine wpAnyH_take (i := 4) (v := ?_) rfl (by kernel_rfl) (by kernel_rfl) (by kernel_rfl) (fun _ _ _ h => h) (Or.inl ⟨by kernel_rfl, ?_⟩) (by assumption) ?_
  rotate_left 1
  · (intro w hSw; (try dsimp only at hSw); go_simp) <;> (try with_reducible rfl)
  try simp only [Act.put, List.setIfInBounds_toArray, List.set_cons_zero, List.set_cons_succ, List.getElem_toArray, List.getElem_cons_succ, List.getElem_cons_zero]
  refine wpAnyH_take (i := 5) (v := ?_) rfl (by kernel_rfl) (by kernel_rfl) (by kernel_rfl) (fun _ _ _ h => h) (Or.inl ⟨by kernel_rfl, ?_⟩) (by assumption) ?_
  rotate_left 1
  · (intro w hSw; (try dsimp only at hSw); go_simp) <;> (try with_reducible rfl)
  try simp only [Act.put, List.setIfInBounds_toArray, List.set_cons_zero, List.set_cons_succ, List.getElem_toArray, List.getElem_cons_succ, List.getElem_cons_zero]
  refine wpAnyH_take (i := 6) (v := ?_) rfl (by kernel_rfl) (by kernel_rfl) (by kernel_rfl) (fun _ _ _ h => h) (Or.inl ⟨by kernel_rfl, ?_⟩) (by assumption) ?_
  rotate_left 1
  · (intro w hSw; (try dsimp only at hSw); go_simp) <;> (try with_reducible rfl)
  try simp only [Act.put, List.setIfInBounds_toArray, List.set_cons_zero, List.set_cons_succ, List.getElem_toArray, List.getElem_cons_succ, List.getElem_cons_zero]
  refine wpAnyH_take (i := 7) (v := ?_) rfl (by kernel_rfl) (by kernel_rfl) (by kernel_rfl) (fun _ _ _ h => h) (Or.inl ⟨by kernel_rfl, ?_⟩) (by assumption) ?_
  rotate_left 1
  · (intro w hSw; (try dsimp only at hSw); go_simp) <;> (try with_reducible rfl)
  try simp only [Act.put, List.setIfInBounds_toArray, List.set_cons_zero, List.set_cons_succ, List.getElem_toArray, List.getElem_cons_succ, List.getElem_cons_zero]
  refine wpAnyH_ready (rs := [8]) (by kernel_rfl) (by simp) ?_
  refine AllReadyH.cons rfl (fun K hK => ?_) AllReadyH.nil
  go_simp
  refine (HO.out _ _).mono ?_
  rintro e w4 ⟨rfl, hb4⟩
  have z4 := z3.trans (hb4.mono z3.size)
  clear hb4
  rw [e16]
  go_wp2_with fail
  refine hK.out _ _ ?_ (fun hHeld => ?_)
  · (try dsimp only); exact (ST.out _ z4).1
  clear hK K
  try simp only [Act.put, List.setIfInBounds_toArray, List.set_cons_zero, List.set_cons_succ, List.getElem_toArray, List.getElem_cons_succ, List.getElem_cons_zero]
  refine wpAnyH_take (i := 9) (v := ?_) rfl (by kernel_rfl) (by kernel_rfl) (by kernel_rfl) (fun _ _ _ h => h) (Or.inl ⟨by kernel_rfl, ?_⟩) (by assumption) ?_
  rotate_left 1
  · (intro w hSw; (try dsimp only at hSw); go_simp) <;> (try with_reducible rfl)
  try simp only [Act.put, List.setIfInBounds_toArray, List.set_cons_zero, List.set_cons_succ, List.getElem_toArray, List.getElem_cons_succ, List.getElem_cons_zero]
  refine wpAnyH_take (i := 10) (v := ?_) rfl (by kernel_rfl) (by kernel_rfl) (by kernel_rfl) (fun _ _ _ h => h) (Or.inl ⟨by kernel_rfl, ?_⟩) (by assumption) ?_
  rotate_left 1
  · (intro w hSw; (try dsimp only at hSw); go_simp) <;> (try with_reducible rfl)
  try simp only [Act.put, List.setIfInBounds_toArray, List.set_cons_zero, List.set_cons_succ, List.getElem_toArray, List.getElem_cons_succ, List.getElem_cons_zero]
  refine wpAnyH_done (by kernel_rfl) ?_ _
  have N3 := Lib.hid (ST.out _ z4).2
  obtain ⟨d0, d1, d2⟩ := (ST.out _ z4).1
  have Hd4 := Lib.hid (Hd.out.below z4)
  clear NQ hQ KD e16 ST z3 z4 Hd N2
  generalize hx4 : w4 = W4 at *
  by_cases hT : (l.length : Int) - p < n
  · have FR := Lib.hid (HTR3.out.trans (if_pos hT))
    have hTk := curTakeNo g p n l W4 N3.out.1 (.inr hT)
    rw [if_neg (by omega)] at hTk
    have HTk := Lib.hid hTk
    clear hTk
    go_wp2_with fail
    refine HTk.out.mono ?_
    rintro e w5 ⟨rfl, hq5⟩
    have N5 := N3.out.below hq5.below
    clear hq5 HTk d0 d1 d2
    obtain ⟨z0, z1, g0, g1⟩ := FT.out _ _ N5
    obtain ⟨pb, pc, po⟩ := PUT.out _ _ N5 0 0
    have PC := Lib.hid pc
    have PO := Lib.hid po
    obtain ⟨t0, t1, _, _⟩ := pb.two
    clear pb pc po
    go_wp2
    refine bodyPost_ret (v := .tuple #[.agg #[.int .i64 0, .int .i64 0], .int .i64 3]) (by simp [results, Tryz.results15, go_sem, t0, t1]) rfl ?_
    exact ⟨p, by rw [FR.out]; rfl, PC.out, hge, PO.out, fun x => absurd (by rw [FR.out] at x; exact x) (by decide)⟩
  have FR := Lib.hid (HTR3.out.trans (if_neg hT))
  have HTk := Lib.hid (curTake g p n.toNat n l W4 N3.out.1 (by omega) (by omega))
  unfold TakeOk at HTk
  go_wp2_with fail
  refine HTk.out.mono ?_
  rintro e w5 ⟨A5, n5, c5, rfl, ho5, hc5, hon5⟩
  have N5 := Lib.hid (N3.out.only hc5 hon5)
  have hd5 := Hd4.out.only hon5 (by omega)
  have HS5 := Lib.hid ho5.bs.1
  clear ho5 hc5 hon5 HTk N3 d0 d1 d2 Hd4
  obtain ⟨d0, d1, d2⟩ := hd5.three
  have hn5 : n5 ≤ 1099511627776 := by have := HS5.out.len; simp at this; omega
  generalize (l.drop p).take n.toNat = r at *
  have HP5 := Lib.hid (fun W hW => HP.out tn A5 n5 c5 r W hW hn5)
  generalize prsV tn r = V at *
  obtain ⟨v1, v2, v3⟩ := V
  unfold prsE tmv at HP5
  clear hd5 HP
  go_wp2_with fail
  refine (HP5.out _ HS5.out).mono ?_
  rintro e w6 ⟨rfl, hb6⟩
  have N6 := N5.out.below hb6
  obtain ⟨z0, z1, g0, g1⟩ := FT.out _ _ N6
  obtain ⟨pb, pc, po⟩ := PUT.out _ _ N6 v1 v2
  have PC := Lib.hid pc
  have PO := Lib.hid po
  obtain ⟨t0, t1, _, _⟩ := pb.two
  clear pb pc po N6 hb6 N5 HP5 HS5 d0 d1 d2
  go_wp2
  refine bodyPost_ret (v := .tuple #[.agg #[.int .i64 v1, .int .i64 v2], .int .i64 v3]) (by simp [results, Tryz.results15, go_sem, t0, t1]) rfl ?_
  exact ⟨p + n.toNat, by rw [FR.out]; rfl, PC.out, by omega, PO.out, fun _ => HTP.out.symm⟩

/-! ### Kk -/
theorem rOpen_ge (l : List UInt8) (k : Nat) (t : Tg) : k ≤ (rOpen l k t).2.1 := by
  have h := rHead_ge l k
  unfold rOpen
  split
  · split
    · split
      · exact Nat.le_refl _
      · show k ≤ (rHead l k).2.2.1 + _; omega
    · exact Nat.le_refl _
  · exact Nat.le_refl _
theorem rOpen_len (l : List UInt8) (k : Nat) (t : Tg) : (rOpen l k t).1.length ≤ l.length := by
  unfold rOpen
  split
  · split
    · split
      · simp
      · simp; omega
    · simp
  · simp
/-- The next time, strictly. -/
def tmS (l : List UInt8) (k : Nat) : Int × Int × Int :=
  if (tmR l k).2.2 = 0 ∧ (tmR l k).1 ≠ kindS (tmR l k).2.1 then (0, 0, 6) else tmR l k
/-- The next second of the general kind. -/
def tmG (l : List UInt8) (k : Nat) : Int × Int × Int := if (rOpen l k (tgU 24)).2.2 ≠ 0 then (0, 0, (rOpen l k (tgU 24)).2.2) else prsV 24 (rOpen l k (tgU 24)).1
theorem tmS_no (l : List UInt8) (k : Nat) (h : (tmS l k).2.2 ≠ 0) : tmS l k = (0, 0, (tmS l k).2.2) := by
  unfold tmS at *
  split
  · rfl
  · rename_i h1
    rw [if_neg h1] at h
    exact tmR_no l k h
theorem tmG_no (l : List UInt8) (k : Nat) (h : (tmG l k).2.2 ≠ 0) : tmG l k = (0, 0, (tmG l k).2.2) := by
  unfold tmG at *
  split
  · rfl
  · rename_i h1
    rw [if_neg h1] at h
    exact prsV_no _ _ h

set_option maxHeartbeats 6400000 in
theorem ckNextStrict (g k : Nat) (l : List UInt8) (w : World) {s : Value} (h : Cur w g s l k) (hl : l.length ≤ 1099511627776) :
    Calls Tryz.prog 16 #[.pointer (some ⟨g, 0, none⟩)] w (NextOk w g s l k (tmS l k) (tmP l k)) := by
  have hg := h.lt
  have hI := tmR_I64 l k
  have HN := Lib.hid (fun W (hW : Cur W g s l k) => ckNextTime g k l W hW hl)
  have N0 : Hid (NS w g s l k w.heap.size 0 (w.alloc (.cells #[.int .i64 0, .int .i64 0] 26))) :=
    ⟨h.below (below_alloc1 _ _), Blk.two_new w _ _ _, Only.of_below (below_alloc1 _ _), hg, Nat.le_refl _, by simp⟩
  have HTS : Hid (tmS l k = if (tmR l k).2.2 = 0 ∧ (tmR l k).1 ≠ kindS (tmR l k).2.1 then (0, 0, 6) else tmR l k) := rfl
  unfold NextOk at HN
  have HK := Lib.hid (fun W => ckKind (tmR l k).2.1 W (by unfold I64; omega))
  have FT := Lib.hid (fun j W (h : NS w g s l j w.heap.size 0 W) => h.2.1.two)
  have PUT := Lib.hid (fun j W (h : NS w g s l j w.heap.size 0 W) (a b : Int) => NS.put h a b)
  generalize tmS l k = R at *
  generalize tmR l k = R0 at *
  generalize tmP l k = P at *
  obtain ⟨v1, v2, v3⟩ := R0
  simp only at HTS HK HN
  unfold prsE tmv at HN
  generalize kindS v2 = K at *
  clear h hI
  go_enter Tryz.func16, Tryz.ntmps16
  go_upto_region 1 with (fail)
  generalize (w.alloc (.cells #[.int .i64 0, .int .i64 0] 26)) = W0 at *
  go_wp2_with fail
  refine (HN.out _ N0.out.1).mono ?_
  rintro e w1 ⟨j, rfl, hc1, hj, ho1, hP1⟩
  have N1 := Lib.hid (N0.out.only hc1 ho1)
  have hb2 := below_alloc1 w1 (.cells #[.int .i64 v1, .int .i64 v2] 26)
  have N2 := Lib.hid (N1.out.below hb2)
  have hd := Blk.two_new w1 (.int .i64 v1) (.int .i64 v2) 26
  have Hd := Lib.hid hd
  have HP1 := Lib.hid hP1
  clear hc1 ho1 N0 N1 hd HN hb2 hP1
  go_upto_region 2 with (fail)
  generalize w1.alloc (.cells #[.int .i64 v1, .int .i64 v2] 26) = W2 at *
  generalize w1.heap.size = D at *
  have ST : Hid (∀ W, Below W2.heap.size W2 W → (W.cell? ⟨D, 0, none⟩ = some (.int .i64 v1) ∧ W.cell? ⟨D, 1, none⟩ = some (.int .i64 v2)) ∧ NS w g s l j w.heap.size 0 W) :=
    fun W hW => ⟨⟨(Hd.out.below hW).two.1, (Hd.out.below hW).two.2.1⟩, N2.out.below hW⟩
  by_cases hE : v3 = 0
  rotate_left
  · have e1 : (v3 == 0) = false := by simpa using hE
    have FR := Lib.hid (HTS.out.trans (if_neg (fun x => hE x.1)))
    have HE := Lib.hid hE
    clear hE
    refine wp_region_held_drew (S := fun w' => w'.cell? ⟨D, 0, none⟩ = some (.int .i64 v1) ∧ w'.cell? ⟨D, 1, none⟩ = some (.int .i64 v2)) (by kernel_rfl) ?_ (fun hHeld => ?_)
    · (try dsimp only); exact (ST.out _ (Below.drew (Below.refl _ _))).1
    refine wpAnyH_take (i := 0) (v := ?_) rfl (by kernel_rfl) (by kernel_rfl) (by kernel_rfl) (fun _ _ _ h => h) (Or.inl ⟨by kernel_rfl, ?_⟩) (by assumption) ?_
    rotate_left 1
    · (intro w hSw; (try dsimp only at hSw); go_simp) <;> (try with_reducible rfl)
    try simp only [Act.put, List.setIfInBounds_toArray, List.set_cons_zero, List.set_cons_succ, List.getElem_toArray, List.getElem_cons_succ, List.getElem_cons_zero]
    refine wpAnyH_take (i := 1) (v := ?_) rfl (by kernel_rfl) (by kernel_rfl) (by kernel_rfl) (fun _ _ _ h => h) (Or.inl ⟨by kernel_rfl, ?_⟩) (by assumption) ?_
    rotate_left 1
    · (intro w hSw; (try dsimp only at hSw); go_simp) <;> (try with_reducible rfl)
    try simp only [Act.put, List.setIfInBounds_toArray, List.set_cons_zero, List.set_cons_succ, List.getElem_toArray, List.getElem_cons_succ, List.getElem_cons_zero]
    refine wpAnyH_take (i := 2) (v := ?_) rfl (by kernel_rfl) (by kernel_rfl) (by kernel_rfl) (fun _ _ _ h => h) (Or.inl ⟨by kernel_rfl, ?_⟩) (by assumption) ?_
    rotate_left 1
    · (intro w hSw; (try dsimp only at hSw); go_simp) <;> (try with_reducible rfl)
    try simp only [Act.put, List.setIfInBounds_toArray, List.set_cons_zero, List.set_cons_succ, List.getElem_toArray, List.getElem_cons_succ, List.getElem_cons_zero]
    refine wpAnyH_take (i := 3) (v := undef) rfl (by kernel_rfl) (by kernel_rfl) (by kernel_rfl) (fun _ _ _ h => h) (Or.inr ⟨by kernel_rfl, rfl⟩) (by assumption) ?_
    try simp only [Act.put, List.setIfInBounds_toArray, List.set_cons_zero, List.set_cons_succ, List.getElem_toArray, List.getElem_cons_succ, List.getElem_cons_zero]
    refine wpAnyH_take (i := 4) (v := undef) rfl (by kernel_rfl) (by kernel_rfl) (by kernel_rfl) (fun _ _ _ h => h) (Or.inr ⟨by kernel_rfl, rfl⟩) (by assumption) ?_
    try simp only [Act.put, List.setIfInBounds_toArray, List.set_cons_zero, List.set_cons_succ, List.getElem_toArray, List.getElem_cons_succ, List.getElem_cons_zero]
    refine wpAnyH_take (i := 5) (v := undef) rfl (by kernel_rfl) (by kernel_rfl) (by kernel_rfl) (fun _ _ _ h => h) (Or.inr ⟨by kernel_rfl, rfl⟩) (by assumption) ?_
    try simp only [Act.put, List.setIfInBounds_toArray, List.set_cons_zero, List.set_cons_succ, List.getElem_toArray, List.getElem_cons_succ, List.getElem_cons_zero]
    refine wpAnyH_take (i := 6) (v := undef) rfl (by kernel_rfl) (by kernel_rfl) (by kernel_rfl) (fun _ _ _ h => h) (Or.inr ⟨by kernel_rfl, rfl⟩) (by assumption) ?_
    try simp only [Act.put, List.setIfInBounds_toArray, List.set_cons_zero, List.set_cons_succ, List.getElem_toArray, List.getElem_cons_succ, List.getElem_cons_zero]
    refine wpAnyH_take (i := 7) (v := undef) rfl (by kernel_rfl) (by kernel_rfl) (by kernel_rfl) (fun _ _ _ h => h) (Or.inr ⟨by kernel_rfl, rfl⟩) (by assumption) ?_
    try simp only [Act.put, List.setIfInBounds_toArray, List.set_cons_zero, List.set_cons_succ, List.getElem_toArray, List.getElem_cons_succ, List.getElem_cons_zero]
    refine wpAnyH_take (i := 8) (v := undef) rfl (by kernel_rfl) (by kernel_rfl) (by kernel_rfl) (fun _ _ _ h => h) (Or.inr ⟨by kernel_rfl, rfl⟩) (by assumption) ?_
    try simp only [Act.put, List.setIfInBounds_toArray, List.set_cons_zero, List.set_cons_succ, List.getElem_toArray, List.getElem_cons_succ, List.getElem_cons_zero]
    refine wpAnyH_take (i := 9) (v := ?_) rfl (by kernel_rfl) (by kernel_rfl) (by kernel_rfl) (fun _ _ _ h => h) (Or.inl ⟨by kernel_rfl, ?_⟩) (by assumption) ?_
    rotate_left 1
    · (intro w hSw; (try dsimp only at hSw); go_simp) <;> (try with_reducible rfl)
    try simp only [Act.put, List.setIfInBounds_toArray, List.set_cons_zero, List.set_cons_succ, List.getElem_toArray, List.getElem_cons_succ, List.getElem_cons_zero]
    refine wpAnyH_done (by kernel_rfl) ?_ _
    have N3 := (ST.out _ (Below.drew (Below.refl _ _))).2
    obtain ⟨d0, d1⟩ := (ST.out _ (Below.drew (Below.refl _ _))).1
    clear ST Hd N2
    generalize W2.drew = W3 at *
    obtain ⟨z0, z1, g0, g1⟩ := FT.out _ _ N3
    obtain ⟨pb, pc, po⟩ := PUT.out _ _ N3 v1 v2
    have PC := Lib.hid pc
    have PO := Lib.hid po
    obtain ⟨t0, t1, _, _⟩ := pb.two
    clear pb pc po
    go_wp2
    refine bodyPost_ret (v := .tuple #[.agg #[.int .i64 v1, .int .i64 v2], .int .i64 v3]) (by simp [results, Tryz.results16, go_sem, t0, t1]) rfl ?_
    exact ⟨j, by rw [FR.out]; rfl, PC.out, hj, PO.out, fun x => absurd (by rw [FR.out] at x; exact x) HE.out⟩
  subst hE
  have HJ := Lib.hid (HP1.out rfl)
  by_cases hK : v1 = K
  · have e1 : (v1 != K) = false := by simpa using hK
    have FR := Lib.hid (HTS.out.trans (if_neg (fun x => x.2 hK)))
    clear hK
    refine wp_region_held_drew (S := fun w' => w'.cell? ⟨D, 0, none⟩ = some (.int .i64 v1) ∧ w'.cell? ⟨D, 1, none⟩ = some (.int .i64 v2)) (by kernel_rfl) ?_ (fun hHeld => ?_)
    · (try dsimp only); exact (ST.out _ (Below.drew (Below.refl _ _))).1
    refine wpAnyH_take (i := 0) (v := ?_) rfl (by kernel_rfl) (by kernel_rfl) (by kernel_rfl) (fun _ _ _ h => h) (Or.inl ⟨by kernel_rfl, ?_⟩) (by assumption) ?_
    rotate_left 1
    · (intro w hSw; (try dsimp only at hSw); go_simp) <;> (try with_reducible rfl)
    try simp only [Act.put, List.setIfInBounds_toArray, List.set_cons_zero, List.set_cons_succ, List.getElem_toArray, List.getElem_cons_succ, List.getElem_cons_zero]
    refine wpAnyH_take (i := 1) (v := ?_) rfl (by kernel_rfl) (by kernel_rfl) (by kernel_rfl) (fun _ _ _ h => h) (Or.inl ⟨by kernel_rfl, ?_⟩) (by assumption) ?_
    rotate_left 1
    · (intro w hSw; (try dsimp only at hSw); go_simp) <;> (try with_reducible rfl)
    try simp only [Act.put, List.setIfInBounds_toArray, List.set_cons_zero, List.set_cons_succ, List.getElem_toArray, List.getElem_cons_succ, List.getElem_cons_zero]
    refine wpAnyH_take (i := 2) (v := ?_) rfl (by kernel_rfl) (by kernel_rfl) (by kernel_rfl) (fun _ _ _ h => h) (Or.inl ⟨by kernel_rfl, ?_⟩) (by assumption) ?_
    rotate_left 1
    · (intro w hSw; (try dsimp only at hSw); go_simp) <;> (try with_reducible rfl)
    try simp only [Act.put, List.setIfInBounds_toArray, List.set_cons_zero, List.set_cons_succ, List.getElem_toArray, List.getElem_cons_succ, List.getElem_cons_zero]
    refine wpAnyH_take (i := 3) (v := ?_) rfl (by kernel_rfl) (by kernel_rfl) (by kernel_rfl) (fun _ _ _ h => h) (Or.inl ⟨by kernel_rfl, ?_⟩) (by assumption) ?_
    rotate_left 1
    · (intro w hSw; (try dsimp only at hSw); go_simp) <;> (try with_reducible rfl)
    try simp only [Act.put, List.setIfInBounds_toArray, List.set_cons_zero, List.set_cons_succ, List.getElem_toArray, List.getElem_cons_succ, List.getElem_cons_zero]
    refine wpAnyH_take (i := 4) (v := ?_) rfl (by kernel_rfl) (by kernel_rfl) (by kernel_rfl) (fun _ _ _ h => h) (Or.inl ⟨by kernel_rfl, ?_⟩) (by assumption) ?_
    rotate_left 1
    · (intro w hSw; (try dsimp only at hSw); go_simp) <;> (try with_reducible rfl)
    try simp only [Act.put, List.setIfInBounds_toArray, List.set_cons_zero, List.set_cons_succ, List.getElem_toArray, List.getElem_cons_succ, List.getElem_cons_zero]
    refine wpAnyH_take (i := 5) (v := ?_) rfl (by kernel_rfl) (by kernel_rfl) (by kernel_rfl) (fun _ _ _ h => h) (Or.inl ⟨by kernel_rfl, ?_⟩) (by assumption) ?_
    rotate_left 1
    · (intro w hSw; (try dsimp only at hSw); go_simp) <;> (try with_reducible rfl)
    try simp only [Act.put, List.setIfInBounds_toArray, List.set_cons_zero, List.set_cons_succ, List.getElem_toArray, List.getElem_cons_succ, List.getElem_cons_zero]
    refine wpAnyH_take (i := 6) (v := ?_) rfl (by kernel_rfl) (by kernel_rfl) (by kernel_rfl) (fun _ _ _ h => h) (Or.inl ⟨by kernel_rfl, ?_⟩) (by assumption) ?_
    rotate_left 1
    · (intro w hSw; (try dsimp only at hSw); go_simp) <;> (try with_reducible rfl)
    try simp only [Act.put, List.setIfInBounds_toArray, List.set_cons_zero, List.set_cons_succ, List.getElem_toArray, List.getElem_cons_succ, List.getElem_cons_zero]
    refine wpAnyH_ready (rs := [7]) (by kernel_rfl) (by simp) ?_
    refine AllReadyH.cons rfl (fun K hK => ?_) AllReadyH.nil
    go_simp
    refine (HK.out _).mono ?_
    rintro e w4 ⟨rfl, hb4⟩
    have z4 := (Below.drew (Below.refl W2.heap.size W2)).trans hb4
    clear hb4
    go_wp2_with fail
    refine hK.out _ _ ?_ (fun hHeld => ?_)
    · (try dsimp only); exact (ST.out _ z4).1
    clear hK K
    try simp only [Act.put, List.setIfInBounds_toArray, List.set_cons_zero, List.set_cons_succ, List.getElem_toArray, List.getElem_cons_succ, List.getElem_cons_zero]
    refine wpAnyH_take (i := 8) (v := ?_) rfl (by kernel_rfl) (by kernel_rfl) (by kernel_rfl) (fun _ _ _ h => h) (Or.inl ⟨by kernel_rfl, ?_⟩) (by assumption) ?_
    rotate_left 1
    · (intro w hSw; (try dsimp only at hSw); go_simp) <;> (try with_reducible rfl)
    try simp only [Act.put, List.setIfInBounds_toArray, List.set_cons_zero, List.set_cons_succ, List.getElem_toArray, List.getElem_cons_succ, List.getElem_cons_zero]
    refine wpAnyH_take (i := 9) (v := ?_) rfl (by kernel_rfl) (by kernel_rfl) (by kernel_rfl) (fun _ _ _ h => h) (Or.inl ⟨by kernel_rfl, ?_⟩) (by assumption) ?_
    rotate_left 1
    · (intro w hSw; (try dsimp only at hSw); go_simp) <;> (try with_reducible rfl)
    try simp only [Act.put, List.setIfInBounds_toArray, List.set_cons_zero, List.set_cons_succ, List.getElem_toArray, List.getElem_cons_succ, List.getElem_cons_zero]
    refine wpAnyH_done (by kernel_rfl) ?_ _
    have N3 := (ST.out _ z4).2
    obtain ⟨d0, d1⟩ := (ST.out _ z4).1
    obtain ⟨z0, z1, g0, g1⟩ := FT.out _ _ N3
    obtain ⟨pb, pc, po⟩ := PUT.out _ _ N3 v1 v2
    have PC := Lib.hid pc
    have PO := Lib.hid po
    obtain ⟨t0, t1, _, _⟩ := pb.two
    clear pb pc po
    go_wp2
    refine bodyPost_ret (v := .tuple #[.agg #[.int .i64 v1, .int .i64 v2], .int .i64 0]) (by simp [results, Tryz.results16, go_sem, t0, t1]) rfl ?_
    exact ⟨j, by rw [FR.out]; rfl, PC.out, hj, PO.out, fun _ => HJ.out⟩
  · have e1 : (v1 != K) = true := by simpa using hK
    have FR := Lib.hid (HTS.out.trans (if_pos ⟨rfl, hK⟩))
    clear hK
    refine wp_region_held_drew (S := fun w' => w'.cell? ⟨D, 0, none⟩ = some (.int .i64 v1) ∧ w'.cell? ⟨D, 1, none⟩ = some (.int .i64 v2)) (by kernel_rfl) ?_ (fun hHeld => ?_)
    · (try dsimp only); exact (ST.out _ (Below.drew (Below.refl _ _))).1
    refine wpAnyH_take (i := 0) (v := ?_) rfl (by kernel_rfl) (by kernel_rfl) (by kernel_rfl) (fun _ _ _ h => h) (Or.inl ⟨by kernel_rfl, ?_⟩) (by assumption) ?_
    rotate_left 1
    · (intro w hSw; (try dsimp only at hSw); go_simp) <;> (try with_reducible rfl)
    try simp only [Act.put, List.setIfInBounds_toArray, List.set_cons_zero, List.set_cons_succ, List.getElem_toArray, List.getElem_cons_succ, List.getElem_cons_zero]
    refine wpAnyH_take (i := 1) (v := ?_) rfl (by kernel_rfl) (by kernel_rfl) (by kernel_rfl) (fun _ _ _ h => h) (Or.inl ⟨by kernel_rfl, ?_⟩) (by assumption) ?_
    rotate_left 1
    · (intro w hSw; (try dsimp only at hSw); go_simp) <;> (try with_reducible rfl)
    try simp only [Act.put, List.setIfInBounds_toArray, List.set_cons_zero, List.set_cons_succ, List.getElem_toArray, List.getElem_cons_succ, List.getElem_cons_zero]
    refine wpAnyH_take (i := 2) (v := ?_) rfl (by kernel_rfl) (by kernel_rfl) (by kernel_rfl) (fun _ _ _ h => h) (Or.inl ⟨by kernel_rfl, ?_⟩) (by assumption) ?_
    rotate_left 1
    · (intro w hSw; (try dsimp only at hSw); go_simp) <;> (try with_reducible rfl)
    try simp only [Act.put, List.setIfInBounds_toArray, List.set_cons_zero, List.set_cons_succ, List.getElem_toArray, List.getElem_cons_succ, List.getElem_cons_zero]
    refine wpAnyH_take (i := 3) (v := ?_) rfl (by kernel_rfl) (by kernel_rfl) (by kernel_rfl) (fun _ _ _ h => h) (Or.inl ⟨by kernel_rfl, ?_⟩) (by assumption) ?_
    rotate_left 1
    · (intro w hSw; (try dsimp only at hSw); go_simp) <;> (try with_reducible rfl)
    try simp only [Act.put, List.setIfInBounds_toArray, List.set_cons_zero, List.set_cons_succ, List.getElem_toArray, List.getElem_cons_succ, List.getElem_cons_zero]
    refine wpAnyH_take (i := 4) (v := ?_) rfl (by kernel_rfl) (by kernel_rfl) (by kernel_rfl) (fun _ _ _ h => h) (Or.inl ⟨by kernel_rfl, ?_⟩) (by assumption) ?_
    rotate_left 1
    · (intro w hSw; (try dsimp only at hSw); go_simp) <;> (try with_reducible rfl)
    try simp only [Act.put, List.setIfInBounds_toArray, List.set_cons_zero, List.set_cons_succ, List.getElem_toArray, List.getElem_cons_succ, List.getElem_cons_zero]
    refine wpAnyH_take (i := 5) (v := ?_) rfl (by kernel_rfl) (by kernel_rfl) (by kernel_rfl) (fun _ _ _ h => h) (Or.inl ⟨by kernel_rfl, ?_⟩) (by assumption) ?_
    rotate_left 1
    · (intro w hSw; (try dsimp only at hSw); go_simp) <;> (try with_reducible rfl)
    try simp only [Act.put, List.setIfInBounds_toArray, List.set_cons_zero, List.set_cons_succ, List.getElem_toArray, List.getElem_cons_succ, List.getElem_cons_zero]
    refine wpAnyH_take (i := 6) (v := ?_) rfl (by kernel_rfl) (by kernel_rfl) (by kernel_rfl) (fun _ _ _ h => h) (Or.inl ⟨by kernel_rfl, ?_⟩) (by assumption) ?_
    rotate_left 1
    · (intro w hSw; (try dsimp only at hSw); go_simp) <;> (try with_reducible rfl)
    try simp only [Act.put, List.setIfInBounds_toArray, List.set_cons_zero, List.set_cons_succ, List.getElem_toArray, List.getElem_cons_succ, List.getElem_cons_zero]
    refine wpAnyH_ready (rs := [7]) (by kernel_rfl) (by simp) ?_
    refine AllReadyH.cons rfl (fun K hK => ?_) AllReadyH.nil
    go_simp
    refine (HK.out _).mono ?_
    rintro e w4 ⟨rfl, hb4⟩
    have z4 := (Below.drew (Below.refl W2.heap.size W2)).trans hb4
    clear hb4
    go_wp2_with fail
    refine hK.out _ _ ?_ (fun hHeld => ?_)
    · (try dsimp only); exact (ST.out _ z4).1
    clear hK K
    try simp only [Act.put, List.setIfInBounds_toArray, List.set_cons_zero, List.set_cons_succ, List.getElem_toArray, List.getElem_cons_succ, List.getElem_cons_zero]
    refine wpAnyH_take (i := 8) (v := ?_) rfl (by kernel_rfl) (by kernel_rfl) (by kernel_rfl) (fun _ _ _ h => h) (Or.inl ⟨by kernel_rfl, ?_⟩) (by assumption) ?_
    rotate_left 1
    · (intro w hSw; (try dsimp only at hSw); go_simp) <;> (try with_reducible rfl)
    try simp only [Act.put, List.setIfInBounds_toArray, List.set_cons_zero, List.set_cons_succ, List.getElem_toArray, List.getElem_cons_succ, List.getElem_cons_zero]
    refine wpAnyH_take (i := 9) (v := ?_) rfl (by kernel_rfl) (by kernel_rfl) (by kernel_rfl) (fun _ _ _ h => h) (Or.inl ⟨by kernel_rfl, ?_⟩) (by assumption) ?_
    rotate_left 1
    · (intro w hSw; (try dsimp only at hSw); go_simp) <;> (try with_reducible rfl)
    try simp only [Act.put, List.setIfInBounds_toArray, List.set_cons_zero, List.set_cons_succ, List.getElem_toArray, List.getElem_cons_succ, List.getElem_cons_zero]
    refine wpAnyH_done (by kernel_rfl) ?_ _
    have N3 := (ST.out _ z4).2
    obtain ⟨z0, z1, g0, g1⟩ := FT.out _ _ N3
    obtain ⟨pb, pc, po⟩ := PUT.out _ _ N3 0 0
    have PC := Lib.hid pc
    have PO := Lib.hid po
    obtain ⟨t0, t1, _, _⟩ := pb.two
    clear pb pc po
    go_wp2
    refine bodyPost_ret (v := .tuple #[.agg #[.int .i64 0, .int .i64 0], .int .i64 6]) (by simp [results, Tryz.results16, go_sem, t0, t1]) rfl ?_
    exact ⟨j, by rw [FR.out]; rfl, PC.out, hj, PO.out, fun x => absurd (by rw [FR.out] at x; exact x) (by decide)⟩

set_option maxHeartbeats 6400000 in
theorem ckNextGeneral (g k : Nat) (l : List UInt8) (w : World) {s : Value} (h : Cur w g s l k) (hl : l.length ≤ 1099511627776) :
    Calls Tryz.prog 17 #[.pointer (some ⟨g, 0, none⟩)] w (NextOk w g s l k (tmG l k) (rOpen l k (tgU 24)).2.1) := by
  have hg := h.lt
  have hno := rOpen_no l k (tgU 24)
  have HTG : Hid (tmG l k = if (rOpen l k (tgU 24)).2.2 ≠ 0 then (0, 0, (rOpen l k (tgU 24)).2.2) else prsV 24 (rOpen l k (tgU 24)).1) := rfl
  have HO := Lib.hid (fun W => hdOf 24 W)
  have HN := Lib.hid (fun W (hW : Cur W g s l k) => hdOpen g k l (tgU 24) W hW)
  have hge := rOpen_ge l k (tgU 24)
  have hlen := rOpen_len l k (tgU 24)
  have HP := Lib.hid (fun A m c r W (hW : Bs W A m r) hm => ckParse 24 A m c r W hW hm)
  have N0 : Hid (NS w g s l k w.heap.size 0 (w.alloc (.cells #[.int .i64 0, .int .i64 0] 26))) :=
    ⟨h.below (below_alloc1 _ _), Blk.two_new w _ _ _, Only.of_below (below_alloc1 _ _), hg, Nat.le_refl _, by simp⟩
  have FT := Lib.hid (fun j W (h : NS w g s l j w.heap.size 0 W) => h.2.1.two)
  have PUT := Lib.hid (fun j W (h : NS w g s l j w.heap.size 0 W) (a b : Int) => NS.put h a b)
  unfold OpenOk at HN
  generalize tmG l k = R at *
  generalize rOpen l k (tgU 24) = T at *
  obtain ⟨ct, p, E⟩ := T
  simp only at hno HTG HN hge hlen ⊢
  unfold tgU Tg.v at HN
  unfold Tg.v at HO
  clear h
  go_enter Tryz.func17, Tryz.ntmps17
  go_upto_region 1 with (fail)
  generalize (w.alloc (.cells #[.int .i64 0, .int .i64 0] 26)) = W0 at *
  go_wp2_with fail
  refine (HO.out _).mono ?_
  rintro e w1 ⟨rfl, hb1⟩
  have N1 := Lib.hid (N0.out.below hb1)
  clear hb1 N0 HO
  go_wp2_with fail
  refine (HN.out _ N1.out.1).mono ?_
  rintro e w2 ⟨q, rfl, hc2, ho2, hy2, hn2⟩
  have N2 := Lib.hid (N1.out.only hc2 ho2)
  have HY := Lib.hid hy2
  have hw1 : w.heap.size < w1.heap.size := N1.out.2.2.2.2.2
  clear hc2 ho2 N1 HN hy2 hn2
  by_cases hE : E = 0
  rotate_left
  · have e1 : (E != 0) = true := by simpa using hE
    have FR := Lib.hid (HTG.out.trans (if_pos hE))
    have HE := Lib.hid hE
    clear hE
    obtain ⟨z0, z1, g0, g1⟩ := FT.out _ _ N2.out
    obtain ⟨pb, pc, po⟩ := PUT.out _ _ N2.out 0 0
    have PC := Lib.hid pc
    have PO := Lib.hid po
    obtain ⟨t0, t1, _, _⟩ := pb.two
    clear pb pc po
    go_wp2
    refine bodyPost_ret (v := .tuple #[.agg #[.int .i64 0, .int .i64 0], .int .i64 E]) (by simp [results, Tryz.results17, go_sem, t0, t1]) rfl ?_
    exact ⟨p, by rw [FR.out]; rfl, PC.out, hge, PO.out, fun x => absurd (by rw [FR.out] at x; exact x) HE.out⟩
  have FR := Lib.hid (HTG.out.trans (if_neg (fun x => x hE)))
  obtain ⟨g2, s2, rfl, hg2, hc2⟩ := HY.out hE
  subst hE
  have HC2 := Lib.hid hc2
  have hT : w.heap.size ≠ g2 := by omega
  clear hc2 HY hno
  have HRst := Lib.hid (curRest g2 0 ct w2 HC2.out)
  unfold RestOk at HRst
  go_wp2_with fail
  refine HRst.out.mono ?_
  rintro e w3 ⟨A3, n3, c3, rfl, ho3, hc3, hon3⟩
  simp only [List.drop_zero] at ho3
  have hgg := N2.out.2.2.2.1
  have hx3 : Cur w3 g s l p := N2.out.1.only hon3 (by omega) HC2.out.noByte
  have hy3 := N2.out.2.1.only hon3 (by omega)
  have ho3' : Only g w w3 := N2.out.2.2.1.grown hon3 (by intro b hb; cases hb; omega)
  have N3 : Hid (NS w g s l p w.heap.size 0 w3) := ⟨hx3, hy3, ho3', hgg, Nat.le_refl _, by have := N2.out.2.2.2.2.2; have := hon3.size; omega⟩
  have HS3 := Lib.hid ho3.bs.1
  have hn3 : n3 ≤ 1099511627776 := by have := HS3.out.len; omega
  clear hx3 hy3 ho3' ho3 hc3 hon3 HRst HC2 N2
  have HP3 := Lib.hid (fun W hW => HP.out A3 n3 c3 ct W hW hn3)
  generalize prsV 24 ct = V at *
  obtain ⟨v1, v2, v3⟩ := V
  unfold prsE tmv at HP3
  clear HP
  go_wp2_with fail
  refine (HP3.out _ HS3.out).mono ?_
  rintro e w4 ⟨rfl, hb4⟩
  have N4 := Lib.hid (N3.out.below hb4)
  clear hb4 HP3 HS3 N3
  obtain ⟨z0, z1, g0, g1⟩ := FT.out _ _ N4.out
  obtain ⟨pb, pc, po⟩ := PUT.out _ _ N4.out v1 v2
  have PC := Lib.hid pc
  have PO := Lib.hid po
  obtain ⟨t0, t1, _, _⟩ := pb.two
  clear pb pc po
  go_wp2
  refine bodyPost_ret (v := .tuple #[.agg #[.int .i64 v1, .int .i64 v2], .int .i64 v3]) (by simp [results, Tryz.results17, go_sem, t0, t1]) rfl ?_
  exact ⟨p, by rw [FR.out]; rfl, PC.out, hge, PO.out, fun _ => rfl⟩

/-! ### Kl -/
/-- What kept hands back: on an error the cursor stays. -/
def KeptOk (w : World) (g : Nat) (s : Value) (l : List UInt8) (k : Nat) (R : Int × Int × Int) (P : Nat) (e : Ending) (w' : World) : Prop :=
  e = prsE R ∧ Cur w' g s l (if R.2.2 = 0 then P else k) ∧ Only g w w'

set_option maxHeartbeats 3200000 in
theorem ckKeptnext (g k : Nat) (l : List UInt8) (w : World) {s : Value} (h : Cur w g s l k) (hl : l.length ≤ 1099511627776) :
    Calls Tryz.prog 14 #[.pointer (some ⟨g, 0, none⟩), .func (.func 15) #[] #[]] w (KeptOk w g s l k (tmR l k) (tmP l k)) := by
  have hg := h.lt
  have hno := tmR_no l k
  have HN := Lib.hid (fun W (hW : Cur W g s l k) => ckNextTime g k l W hW hl)
  have N0 : Hid (NS w g s l k w.heap.size 0 (w.alloc (.cells #[.int .i64 0, .int .i64 0] 26))) :=
    ⟨h.below (below_alloc1 _ _), Blk.two_new w _ _ _, Only.of_below (below_alloc1 _ _), hg, Nat.le_refl _, by simp⟩
  have FT := Lib.hid (fun j W (h : NS w g s l j w.heap.size 0 W) => h.2.1.two)
  have PUT := Lib.hid (fun j W (h : NS w g s l j w.heap.size 0 W) (a b : Int) => NS.put h a b)
  have FA := Lib.hid (fun W (h : NS w g s l k w.heap.size 0 W) => curAt g k l W h.1)
  have FB := Lib.hid (fun j W (h : NS w g s l j w.heap.size 0 W) (hj : k ≤ j) => curBack g j k k l W h.1 hj rfl)
  unfold NextOk at HN
  generalize tmR l k = R at *
  generalize tmP l k = P at *
  obtain ⟨v1, v2, v3⟩ := R
  simp only at hno
  have HNO := Lib.hid hno
  unfold prsE tmv at HN
  clear h hno
  go_enter Tryz.func14, Tryz.ntmps14
  go_upto_region 1 with (fail)
  generalize (w.alloc (.cells #[.int .i64 0, .int .i64 0] 26)) = W0 at *
  go_wp2_with fail
  refine (FA.out _ N0.out).mono ?_
  rintro e w1 ⟨rfl, hw1⟩
  obtain rfl : W0 = w1 := hw1
  go_wp2_with fail
  refine (HN.out _ N0.out.1).mono ?_
  rintro e w2 ⟨j, rfl, hc2, hj, ho2, hP2⟩
  have N2 := Lib.hid (N0.out.only hc2 ho2)
  have hb3 := below_alloc1 w2 (.cells #[.int .i64 v1, .int .i64 v2] 26)
  have N3 := Lib.hid (N2.out.below hb3)
  have hd := Blk.two_new w2 (.int .i64 v1) (.int .i64 v2) 26
  have Hd := Lib.hid hd
  have HP2 := Lib.hid hP2
  clear hc2 ho2 N0 hd HN hb3 hP2 FA
  go_upto_region 3 with (fail)
  generalize w2.alloc (.cells #[.int .i64 v1, .int .i64 v2] 26) = W3 at *
  by_cases hE : v3 = 0
  · have e1 : (v3 != 0) = false := by simpa using hE
    have HE := Lib.hid hE
    obtain ⟨d0, d1, _, _⟩ := Hd.out.two
    clear hE
    obtain ⟨z0, z1, g0, g1⟩ := FT.out _ _ N3.out
    obtain ⟨pb, pc, po⟩ := PUT.out _ _ N3.out v1 v2
    have PC := Lib.hid pc
    have PO := Lib.hid po
    obtain ⟨t0, t1, _, _⟩ := pb.two
    clear pb pc po
    go_wp2
    refine bodyPost_ret (v := .tuple #[.agg #[.int .i64 v1, .int .i64 v2], .int .i64 0]) (by simp [results, Tryz.results14, go_sem, t0, t1]) rfl ?_
    refine ⟨by rw [HE.out]; rfl, ?_, PO.out⟩
    rw [if_pos HE.out, ← HP2.out HE.out]; exact PC.out
  · have e1 : (v3 != 0) = true := by simpa using hE
    have HE := Lib.hid hE
    clear hE
    go_wp2_with fail
    refine (FB.out _ _ N3.out hj).mono ?_
    rintro e w4 ⟨rfl, hc4, ho4⟩
    have N4 := Lib.hid (N3.out.only hc4 ho4)
    clear hc4 ho4 N3 Hd
    obtain ⟨z0, z1, g0, g1⟩ := FT.out _ _ N4.out
    obtain ⟨pb, pc, po⟩ := PUT.out _ _ N4.out 0 0
    have PC := Lib.hid pc
    have PO := Lib.hid po
    obtain ⟨t0, t1, _, _⟩ := pb.two
    clear pb pc po
    go_wp2
    refine bodyPost_ret (v := .tuple #[.agg #[.int .i64 0, .int .i64 0], .int .i64 v3]) (by simp [results, Tryz.results14, go_sem, t0, t1]) rfl ?_
    refine ⟨by rw [HNO.out HE.out]; rfl, ?_, PO.out⟩
    rw [if_neg HE.out]; exact PC.out

set_option maxHeartbeats 3200000 in
theorem ckKeptnextStrict (g k : Nat) (l : List UInt8) (w : World) {s : Value} (h : Cur w g s l k) (hl : l.length ≤ 1099511627776) :
    Calls Tryz.prog 14 #[.pointer (some ⟨g, 0, none⟩), .func (.func 16) #[] #[]] w (KeptOk w g s l k (tmS l k) (tmP l k)) := by
  have hg := h.lt
  have hno := tmS_no l k
  have HN := Lib.hid (fun W (hW : Cur W g s l k) => ckNextStrict g k l W hW hl)
  have N0 : Hid (NS w g s l k w.heap.size 0 (w.alloc (.cells #[.int .i64 0, .int .i64 0] 26))) :=
    ⟨h.below (below_alloc1 _ _), Blk.two_new w _ _ _, Only.of_below (below_alloc1 _ _), hg, Nat.le_refl _, by simp⟩
  have FT := Lib.hid (fun j W (h : NS w g s l j w.heap.size 0 W) => h.2.1.two)
  have PUT := Lib.hid (fun j W (h : NS w g s l j w.heap.size 0 W) (a b : Int) => NS.put h a b)
  have FA := Lib.hid (fun W (h : NS w g s l k w.heap.size 0 W) => curAt g k l W h.1)
  have FB := Lib.hid (fun j W (h : NS w g s l j w.heap.size 0 W) (hj : k ≤ j) => curBack g j k k l W h.1 hj rfl)
  unfold NextOk at HN
  generalize tmS l k = R at *
  generalize tmP l k = P at *
  obtain ⟨v1, v2, v3⟩ := R
  simp only at hno
  have HNO := Lib.hid hno
  unfold prsE tmv at HN
  clear h hno
  go_enter Tryz.func14, Tryz.ntmps14
  go_upto_region 1 with (fail)
  generalize (w.alloc (.cells #[.int .i64 0, .int .i64 0] 26)) = W0 at *
  go_wp2_with fail
  refine (FA.out _ N0.out).mono ?_
  rintro e w1 ⟨rfl, hw1⟩
  obtain rfl : W0 = w1 := hw1
  go_wp2_with fail
  refine (HN.out _ N0.out.1).mono ?_
  rintro e w2 ⟨j, rfl, hc2, hj, ho2, hP2⟩
  have N2 := Lib.hid (N0.out.only hc2 ho2)
  have hb3 := below_alloc1 w2 (.cells #[.int .i64 v1, .int .i64 v2] 26)
  have N3 := Lib.hid (N2.out.below hb3)
  have hd := Blk.two_new w2 (.int .i64 v1) (.int .i64 v2) 26
  have Hd := Lib.hid hd
  have HP2 := Lib.hid hP2
  clear hc2 ho2 N0 hd HN hb3 hP2 FA
  go_upto_region 3 with (fail)
  generalize w2.alloc (.cells #[.int .i64 v1, .int .i64 v2] 26) = W3 at *
  by_cases hE : v3 = 0
  · have e1 : (v3 != 0) = false := by simpa using hE
    have HE := Lib.hid hE
    obtain ⟨d0, d1, _, _⟩ := Hd.out.two
    clear hE
    obtain ⟨z0, z1, g0, g1⟩ := FT.out _ _ N3.out
    obtain ⟨pb, pc, po⟩ := PUT.out _ _ N3.out v1 v2
    have PC := Lib.hid pc
    have PO := Lib.hid po
    obtain ⟨t0, t1, _, _⟩ := pb.two
    clear pb pc po
    go_wp2
    refine bodyPost_ret (v := .tuple #[.agg #[.int .i64 v1, .int .i64 v2], .int .i64 0]) (by simp [results, Tryz.results14, go_sem, t0, t1]) rfl ?_
    refine ⟨by rw [HE.out]; rfl, ?_, PO.out⟩
    rw [if_pos HE.out, ← HP2.out HE.out]; exact PC.out
  · have e1 : (v3 != 0) = true := by simpa using hE
    have HE := Lib.hid hE
    clear hE
    go_wp2_with fail
    refine (FB.out _ _ N3.out hj).mono ?_
    rintro e w4 ⟨rfl, hc4, ho4⟩
    have N4 := Lib.hid (N3.out.only hc4 ho4)
    clear hc4 ho4 N3 Hd
    obtain ⟨z0, z1, g0, g1⟩ := FT.out _ _ N4.out
    obtain ⟨pb, pc, po⟩ := PUT.out _ _ N4.out 0 0
    have PC := Lib.hid pc
    have PO := Lib.hid po
    obtain ⟨t0, t1, _, _⟩ := pb.two
    clear pb pc po
    go_wp2
    refine bodyPost_ret (v := .tuple #[.agg #[.int .i64 0, .int .i64 0], .int .i64 v3]) (by simp [results, Tryz.results14, go_sem, t0, t1]) rfl ?_
    refine ⟨by rw [HNO.out HE.out]; rfl, ?_, PO.out⟩
    rw [if_neg HE.out]; exact PC.out

set_option maxHeartbeats 3200000 in
theorem ckKeptnextGeneral (g k : Nat) (l : List UInt8) (w : World) {s : Value} (h : Cur w g s l k) (hl : l.length ≤ 1099511627776) :
    Calls Tryz.prog 14 #[.pointer (some ⟨g, 0, none⟩), .func (.func 17) #[] #[]] w (KeptOk w g s l k (tmG l k) ((rOpen l k (tgU 24)).2.1)) := by
  have hg := h.lt
  have hno := tmG_no l k
  have HN := Lib.hid (fun W (hW : Cur W g s l k) => ckNextGeneral g k l W hW hl)
  have N0 : Hid (NS w g s l k w.heap.size 0 (w.alloc (.cells #[.int .i64 0, .int .i64 0] 26))) :=
    ⟨h.below (below_alloc1 _ _), Blk.two_new w _ _ _, Only.of_below (below_alloc1 _ _), hg, Nat.le_refl _, by simp⟩
  have FT := Lib.hid (fun j W (h : NS w g s l j w.heap.size 0 W) => h.2.1.two)
  have PUT := Lib.hid (fun j W (h : NS w g s l j w.heap.size 0 W) (a b : Int) => NS.put h a b)
  have FA := Lib.hid (fun W (h : NS w g s l k w.heap.size 0 W) => curAt g k l W h.1)
  have FB := Lib.hid (fun j W (h : NS w g s l j w.heap.size 0 W) (hj : k ≤ j) => curBack g j k k l W h.1 hj rfl)
  unfold NextOk at HN
  generalize tmG l k = R at *
  generalize (rOpen l k (tgU 24)).2.1 = P at *
  obtain ⟨v1, v2, v3⟩ := R
  simp only at hno
  have HNO := Lib.hid hno
  unfold prsE tmv at HN
  clear h hno
  go_enter Tryz.func14, Tryz.ntmps14
  go_upto_region 1 with (fail)
  generalize (w.alloc (.cells #[.int .i64 0, .int .i64 0] 26)) = W0 at *
  go_wp2_with fail
  refine (FA.out _ N0.out).mono ?_
  rintro e w1 ⟨rfl, hw1⟩
  obtain rfl : W0 = w1 := hw1
  go_wp2_with fail
  refine (HN.out _ N0.out.1).mono ?_
  rintro e w2 ⟨j, rfl, hc2, hj, ho2, hP2⟩
  have N2 := Lib.hid (N0.out.only hc2 ho2)
  have hb3 := below_alloc1 w2 (.cells #[.int .i64 v1, .int .i64 v2] 26)
  have N3 := Lib.hid (N2.out.below hb3)
  have hd := Blk.two_new w2 (.int .i64 v1) (.int .i64 v2) 26
  have Hd := Lib.hid hd
  have HP2 := Lib.hid hP2
  clear hc2 ho2 N0 hd HN hb3 hP2 FA
  go_upto_region 3 with (fail)
  generalize w2.alloc (.cells #[.int .i64 v1, .int .i64 v2] 26) = W3 at *
  by_cases hE : v3 = 0
  · have e1 : (v3 != 0) = false := by simpa using hE
    have HE := Lib.hid hE
    obtain ⟨d0, d1, _, _⟩ := Hd.out.two
    clear hE
    obtain ⟨z0, z1, g0, g1⟩ := FT.out _ _ N3.out
    obtain ⟨pb, pc, po⟩ := PUT.out _ _ N3.out v1 v2
    have PC := Lib.hid pc
    have PO := Lib.hid po
    obtain ⟨t0, t1, _, _⟩ := pb.two
    clear pb pc po
    go_wp2
    refine bodyPost_ret (v := .tuple #[.agg #[.int .i64 v1, .int .i64 v2], .int .i64 0]) (by simp [results, Tryz.results14, go_sem, t0, t1]) rfl ?_
    refine ⟨by rw [HE.out]; rfl, ?_, PO.out⟩
    rw [if_pos HE.out, ← HP2.out HE.out]; exact PC.out
  · have e1 : (v3 != 0) = true := by simpa using hE
    have HE := Lib.hid hE
    clear hE
    go_wp2_with fail
    refine (FB.out _ _ N3.out hj).mono ?_
    rintro e w4 ⟨rfl, hc4, ho4⟩
    have N4 := Lib.hid (N3.out.only hc4 ho4)
    clear hc4 ho4 N3 Hd
    obtain ⟨z0, z1, g0, g1⟩ := FT.out _ _ N4.out
    obtain ⟨pb, pc, po⟩ := PUT.out _ _ N4.out 0 0
    have PC := Lib.hid pc
    have PO := Lib.hid po
    obtain ⟨t0, t1, _, _⟩ := pb.two
    clear pb pc po
    go_wp2
    refine bodyPost_ret (v := .tuple #[.agg #[.int .i64 0, .int .i64 0], .int .i64 v3]) (by simp [results, Tryz.results14, go_sem, t0, t1]) rfl ?_
    refine ⟨by rw [HNO.out HE.out]; rfl, ?_, PO.out⟩
    rw [if_neg HE.out]; exact PC.out

set_option maxHeartbeats 3200000 in
theorem ckRead (g k : Nat) (l : List UInt8) (w : World) {s : Value} (h : Cur w g s l k) (hl : l.length ≤ 1099511627776) :
    Calls Tryz.prog 5 #[.pointer (some ⟨g, 0, none⟩)] w (KeptOk w g s l k (tmR l k) (tmP l k)) := by
  have hg := h.lt
  have HN := Lib.hid (fun W (hW : Cur W g s l k) => ckKeptnext g k l W hW hl)
  have N0 : Hid (NS w g s l k w.heap.size 0 (w.alloc (.cells #[.int .i64 0, .int .i64 0] 26))) :=
    ⟨h.below (below_alloc1 _ _), Blk.two_new w _ _ _, Only.of_below (below_alloc1 _ _), hg, Nat.le_refl _, by simp⟩
  have FT := Lib.hid (fun j W (h : NS w g s l j w.heap.size 0 W) => h.2.1.two)
  have PUT := Lib.hid (fun j W (h : NS w g s l j w.heap.size 0 W) (a b : Int) => NS.put h a b)
  unfold KeptOk at HN
  unfold KeptOk
  generalize tmR l k = R at *
  generalize (if R.2.2 = 0 then tmP l k else k) = P at *
  obtain ⟨v1, v2, v3⟩ := R
  unfold prsE tmv at HN
  clear h
  go_enter Tryz.func5, Tryz.ntmps5
  go_upto_region 1 with (fail)
  generalize (w.alloc (.cells #[.int .i64 0, .int .i64 0] 26)) = W0 at *
  go_wp2_with fail
  refine (HN.out _ N0.out.1).mono ?_
  rintro e w2 ⟨rfl, hc2, ho2⟩
  have N2 := Lib.hid (N0.out.only hc2 ho2)
  clear hc2 ho2 N0 HN
  obtain ⟨z0, z1, g0, g1⟩ := FT.out _ _ N2.out
  obtain ⟨pb, pc, po⟩ := PUT.out _ _ N2.out v1 v2
  have PC := Lib.hid pc
  have PO := Lib.hid po
  obtain ⟨t0, t1, _, _⟩ := pb.two
  clear pb pc po
  go_wp2
  refine bodyPost_ret (v := .tuple #[.agg #[.int .i64 v1, .int .i64 v2], .int .i64 v3]) (by simp [results, Tryz.results5, go_sem, t0, t1]) rfl ?_
  exact ⟨rfl, PC.out, PO.out⟩

set_option maxHeartbeats 3200000 in
theorem ckReadStrict (g k : Nat) (l : List UInt8) (w : World) {s : Value} (h : Cur w g s l k) (hl : l.length ≤ 1099511627776) :
    Calls Tryz.prog 6 #[.pointer (some ⟨g, 0, none⟩)] w (KeptOk w g s l k (tmS l k) (tmP l k)) := by
  have hg := h.lt
  have HN := Lib.hid (fun W (hW : Cur W g s l k) => ckKeptnextStrict g k l W hW hl)
  have N0 : Hid (NS w g s l k w.heap.size 0 (w.alloc (.cells #[.int .i64 0, .int .i64 0] 26))) :=
    ⟨h.below (below_alloc1 _ _), Blk.two_new w _ _ _, Only.of_below (below_alloc1 _ _), hg, Nat.le_refl _, by simp⟩
  have FT := Lib.hid (fun j W (h : NS w g s l j w.heap.size 0 W) => h.2.1.two)
  have PUT := Lib.hid (fun j W (h : NS w g s l j w.heap.size 0 W) (a b : Int) => NS.put h a b)
  unfold KeptOk at HN
  unfold KeptOk
  generalize tmS l k = R at *
  generalize (if R.2.2 = 0 then tmP l k else k) = P at *
  obtain ⟨v1, v2, v3⟩ := R
  unfold prsE tmv at HN
  clear h
  go_enter Tryz.func6, Tryz.ntmps6
  go_upto_region 1 with (fail)
  generalize (w.alloc (.cells #[.int .i64 0, .int .i64 0] 26)) = W0 at *
  go_wp2_with fail
  refine (HN.out _ N0.out.1).mono ?_
  rintro e w2 ⟨rfl, hc2, ho2⟩
  have N2 := Lib.hid (N0.out.only hc2 ho2)
  clear hc2 ho2 N0 HN
  obtain ⟨z0, z1, g0, g1⟩ := FT.out _ _ N2.out
  obtain ⟨pb, pc, po⟩ := PUT.out _ _ N2.out v1 v2
  have PC := Lib.hid pc
  have PO := Lib.hid po
  obtain ⟨t0, t1, _, _⟩ := pb.two
  clear pb pc po
  go_wp2
  refine bodyPost_ret (v := .tuple #[.agg #[.int .i64 v1, .int .i64 v2], .int .i64 v3]) (by simp [results, Tryz.results6, go_sem, t0, t1]) rfl ?_
  exact ⟨rfl, PC.out, PO.out⟩

set_option maxHeartbeats 3200000 in
theorem ckReadGeneral (g k : Nat) (l : List UInt8) (w : World) {s : Value} (h : Cur w g s l k) (hl : l.length ≤ 1099511627776) :
    Calls Tryz.prog 7 #[.pointer (some ⟨g, 0, none⟩)] w fun e w' => e = .returned (.tuple #[.int .i64 (tmG l k).2.1, .int .i64 (tmG l k).2.2]) ∧ Cur w' g s l (if (tmG l k).2.2 = 0 then (rOpen l k (tgU 24)).2.1 else k) ∧ Only g w w' := by
  have hg := h.lt
  have HN := Lib.hid (fun W (hW : Cur W g s l k) => ckKeptnextGeneral g k l W hW hl)
  unfold KeptOk at HN
  generalize tmG l k = R at *
  generalize (if R.2.2 = 0 then (rOpen l k (tgU 24)).2.1 else k) = P at *
  obtain ⟨v1, v2, v3⟩ := R
  unfold prsE tmv at HN
  simp only
  go_enter Tryz.func7, Tryz.ntmps7
  go_wp2_with fail
  refine (HN.out _ h).mono ?_
  rintro e w2 ⟨rfl, hc2, ho2⟩
  have hb3 := below_alloc1 w2 (.cells #[.int .i64 v1, .int .i64 v2] 26)
  have HC := Lib.hid (hc2.below hb3)
  have HO := Lib.hid (ho2.trans (Only.of_below hb3))
  have hd := Blk.two_new w2 (.int .i64 v1) (.int .i64 v2) 26
  obtain ⟨d0, d1, _, _⟩ := hd.two
  clear hc2 ho2 hb3 hd HN h
  go_wp2
  go_ret2
  exact ⟨rfl, HC.out, HO.out⟩
end Go.Proofs.YtepbjjhidemaiaaGreat
