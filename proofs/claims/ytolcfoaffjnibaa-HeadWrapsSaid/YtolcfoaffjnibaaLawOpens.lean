/-
  HeadOpens: for any bytes and any tag quittancelaw02.HeadOpens returns true and changes nothing that was there.
-/
import Derived.Test.YtolcfoaffjnibaaKnown2
namespace Go.Proofs.Ytolcfoaffjnibaa
open Go.RowKit
set_option linter.unusedVariables false
set_option linter.unusedSimpArgs false
set_option maxRecDepth 4000

theorem eqlTag (w : World) (a b a' b' : Int) (c c' : Bool) : (binOp .eql 23 (.agg #[.int .i64 a, .int .i64 b, .bool c]) (.agg #[.int .i64 a', .int .i64 b', .bool c'])).run Try.prog w = .ok (.bool (decide ((⟨a, b, c⟩ : Tg) = ⟨a', b', c'⟩))) w := by
  by_cases h1 : a = a'
  · by_cases h2 : b = b'
    · by_cases h3 : c = c'
      · subst h1 h2 h3
        go_simp
      · subst h1 h2
        have : ¬ (⟨a, b, c⟩ : Tg) = ⟨a, b, c'⟩ := fun e => h3 (by cases e; rfl)
        rw [decide_eq_false this]
        go_simp
    · subst h1
      have : ¬ (⟨a, b, c⟩ : Tg) = ⟨a, b', c'⟩ := fun e => h2 (by cases e; rfl)
      rw [decide_eq_false this]
      go_simp
  · have : ¬ (⟨a, b, c⟩ : Tg) = ⟨a', b', c'⟩ := fun e => h1 (by cases e; rfl)
    rw [decide_eq_false this]
    go_simp
theorem neqTag (w : World) (a b a' b' : Int) (c c' : Bool) : (binOp .neq 23 (.agg #[.int .i64 a, .int .i64 b, .bool c]) (.agg #[.int .i64 a', .int .i64 b', .bool c'])).run Try.prog w = .ok (.bool (!decide ((⟨a, b, c⟩ : Tg) = ⟨a', b', c'⟩))) w := by
  by_cases h1 : a = a'
  · by_cases h2 : b = b'
    · by_cases h3 : c = c'
      · subst h1 h2 h3
        go_simp
      · subst h1 h2
        have : ¬ (⟨a, b, c⟩ : Tg) = ⟨a, b, c'⟩ := fun e => h3 (by cases e; rfl)
        rw [decide_eq_false this]
        go_simp
    · subst h1
      have : ¬ (⟨a, b, c⟩ : Tg) = ⟨a, b', c'⟩ := fun e => h2 (by cases e; rfl)
      rw [decide_eq_false this]
      go_simp
  · have : ¬ (⟨a, b, c⟩ : Tg) = ⟨a', b', c'⟩ := fun e => h1 (by cases e; rfl)
    rw [decide_eq_false this]
    go_simp

/-- A cursor over the bytes r, or none over nothing. -/
def CurN (w : World) (p : Option Addr) (r : List UInt8) : Prop := (p = none ∧ r = []) ∨ ∃ g s, p = some ⟨g, 0, none⟩ ∧ Cur w g s r 0
theorem CurN.below {w w' : World} {p : Option Addr} {r : List UInt8} (h : CurN w p r) (hb : Below w.heap.size w w') : CurN w' p r := by
  rcases h with h | ⟨g, s, e, hc⟩
  · exact .inl h
  · exact .inr ⟨g, s, e, hc.below hb⟩
/-- The rest of such a cursor; only its own place moves. -/
def RestN (w : World) (p : Option Addr) (r : List UInt8) (e : Ending) (w' : World) : Prop :=
  ∃ A n c, e = .returned (.slice A n c) ∧ Bs w' A n r ∧ n ≤ c ∧ n ≤ 1099511627776 ∧ (∀ A n l, Bs w A n l → Bs w' A n l) ∧ (∀ g s l k, p ≠ some ⟨g, 0, none⟩ → Cur w g s l k → Cur w' g s l k) ∧
    (∀ B w0, Below B w0 w → B ≤ w.heap.size → (∀ g, p = some ⟨g, 0, none⟩ → B ≤ g) → Below B w0 w')
theorem restN (p : Option Addr) (r : List UInt8) (w : World) (h : CurN w p r) : Calls Try.prog 38 #[.pointer p] w (RestN w p r) := by
  rcases h with ⟨rfl, rfl⟩ | ⟨g, s, rfl, hc⟩
  · refine (curRest0 w).mono ?_
    rintro e w' ⟨rfl, rfl⟩
    exact ⟨none, 0, 0, rfl, Bs.nil _ _, Nat.le_refl _, by omega, fun _ _ _ h => h, fun _ _ _ _ _ h => h, fun _ _ h _ _ => h⟩
  · refine (curRest g 0 r w hc).mono ?_
    rintro e w' ⟨A, n, c, rfl, hob, hc', hO⟩
    have hl : n ≤ 1099511627776 := by
      have h1 := hob.bs.1.len
      obtain ⟨_, _, _, _, _, _, hb, _, _, hn⟩ := hc
      have := hb.len
      simp at h1
      omega
    refine ⟨A, n, c, rfl, by have := hob.bs.1; rwa [List.drop_zero] at this, hob.bs.2, hl, fun _ _ _ h => h.only hO hc.noByte, fun g2 s2 l2 k2 hne h => h.only hO (fun e => hne (by rw [e])) hc.noByte, fun B w0 hb hB hg => hO.below hb (hg g rfl) hB⟩

theorem OpenOk.curN {w : World} {g : Nat} {s : Value} {l : List UInt8} {k : Nat} {t : Tg} {p : Option Addr} {w' : World}
    (h1 : (rOpen l k t).2.2 = 0 → ∃ g2 s2, p = some ⟨g2, 0, none⟩ ∧ w.heap.size ≤ g2 ∧ Cur w' g2 s2 (rOpen l k t).1 0) (h2 : (rOpen l k t).2.2 ≠ 0 → p = none ∧ (rOpen l k t).1 = []) :
    CurN w' p (rOpen l k t).1 ∧ ∀ g2, p = some ⟨g2, 0, none⟩ → w.heap.size ≤ g2 := by
  by_cases q : (rOpen l k t).2.2 = 0
  · obtain ⟨g2, s2, rfl, hg, hc⟩ := h1 q
    exact ⟨.inr ⟨g2, s2, rfl, hc⟩, fun g3 e => by cases e; exact hg⟩
  · obtain ⟨rfl, e⟩ := h2 q
    exact ⟨.inl ⟨rfl, e⟩, fun g3 e => by cases e⟩
theorem AloneOk.curN {w : World} {l : List UInt8} {t : Tg} {p : Option Addr} {w' : World}
    (h1 : (rAlone l t).2 = 0 → ∃ g2 s2, p = some ⟨g2, 0, none⟩ ∧ w.heap.size ≤ g2 ∧ Cur w' g2 s2 (rAlone l t).1 0) (h2 : (rAlone l t).2 ≠ 0 → p = none ∧ (rAlone l t).1 = []) :
    CurN w' p (rAlone l t).1 ∧ ∀ g2, p = some ⟨g2, 0, none⟩ → w.heap.size ≤ g2 := by
  by_cases q : (rAlone l t).2 = 0
  · obtain ⟨g2, s2, rfl, hg, hc⟩ := h1 q
    exact ⟨.inr ⟨g2, s2, rfl, hc⟩, fun g3 e => by cases e; exact hg⟩
  · obtain ⟨rfl, e⟩ := h2 q
    exact ⟨.inl ⟨rfl, e⟩, fun g3 e => by cases e⟩

abbrev blkR (a b : Int) (c : Bool) : Obj := Obj.cells #[Value.int IntKind.i64 a, Value.int IntKind.i64 b, Value.bool c] 23
theorem CurN.only {w w' : World} {p : Option Addr} {r : List UInt8} {g : Nat} (h : CurN w p r) (hO : Only g w w') (hne : p ≠ some ⟨g, 0, none⟩) (hnb : ∀ o (x : UInt8), w.cell? ⟨g, o, none⟩ ≠ some (.int .u8 (x.toNat : Int))) : CurN w' p r := by
  rcases h with h | ⟨g2, s, e, hc⟩
  · exact .inl h
  · exact .inr ⟨g2, s, e, hc.only hO (fun e2 => hne (by rw [e, e2])) hnb⟩

theorem Own3.set {W : World} {R : Nat} {a b c : Value} (h : Own3 W R a b c) (x y z : Value) : Own3 (((W.setCell ⟨R, 0, none⟩ x).setCell ⟨R, 1, none⟩ y).setCell ⟨R, 2, none⟩ z) R x y z := by
  obtain ⟨h0, h1, h2, f0, f1, f2⟩ := h
  refine ⟨?_, ?_, ?_, ?_, ?_, ?_⟩
  · go_simp
  · go_simp
  · go_simp
  · simp [f0]
  · simp [f1]
  · simp [f2]

set_option maxHeartbeats 12800000 in
theorem lawOpens_false (A : Option Addr) (n c : Nat) (l : List UInt8) (t : Tg) (w : World) (h : Bs w A n l) (hc : n ≤ c) :
    Calls Try.prog 5 #[.slice A n c, t.v, .bool false] w fun e w' => e = .returned (.bool true) ∧ Below w.heap.size w w' := by
  have h' : Bs w A (min n 3000) (l.take (min n 3000)) := h.take (by omega)
  have hn' : min n 3000 ≤ 3000 := by omega
  obtain ⟨tc, tn, tm⟩ := t
  unfold Tg.v
  have o0 := Own3.new w (.int .i64 tc) (.int .i64 tn) (.bool tm) 23
  have B0 := below_alloc1 w (blkR tc tn tm)
  go_enter Try.func5, Try.ntmps5
  go_wp2_with fail
  refine (few2 A n c _ hc).mono ?_
  rintro e w0 ⟨rfl, rfl⟩
  have hc' : min n 3000 ≤ c := by omega
  clear h hc
  generalize min n 3000 = n at *
  generalize l.take n = l at *
  have h := h'
  have hc := hc'
  clear h' hc'
  have hl := Lib.hid h.len
  generalize hW1 : w.alloc (blkR tc tn tm) = w1 at *
  have hsz1 : w.heap.size < w1.heap.size := by rw [← hW1]; simp
  have B1 := B0
  have o1 : Own3 w1 w.heap.size (.int .i64 tc) (.int .i64 tn) (.bool tm) := by rw [← hW1]; exact Own3.new w _ _ _ _
  clear hW1 o0 B0
  go_wp2_with fail
  refine (octNew A n c l _ (h.below B1) (by omega)).mono ?_
  rintro e w2 ⟨g, s, rfl, hg2, hc2, b2⟩
  have B2 := bstep B1 b2
  have hgw : w.heap.size < g := Nat.lt_of_lt_of_le hsz1 hg2
  have o2 := o1.below b2
  clear b2 hg2 o1
  -- Is
  have hTo := Lib.hid (fun W => lawTo ⟨tc, tn, tm⟩ W)
  have hIs := Lib.hid (fun W (hW : Cur W g s l 0) => hdIs g 0 l ⟨tc, tn, tm⟩ W hW)
  have hOpn := Lib.hid (fun W (hW : Cur W g s l 0) => hdOpen g 0 l ⟨tc, tn, tm⟩ W hW)
  have hrOp := Lib.hid (fun W (hW : Bs W A n l) => refOpen A n c 0 0 l ⟨tc, tn, tm⟩ W hW (by omega) hc (by omega) rfl)
  have hAl := Lib.hid (fun W (hW : Bs W A n l) => hdAlone A n c l ⟨tc, tn, tm⟩ W hW (by omega))
  have hrAl := Lib.hid (fun W (hW : Bs W A n l) => refAlone A n c l ⟨tc, tn, tm⟩ W hW (by omega) hc)
  unfold Tg.v at hTo hIs hOpn hrOp hAl hrAl
  have ⟨p0, p1, p2, _, _, _⟩ := o2
  go_wp2_with fail
  refine (hTo.out _).mono ?_
  rintro e w3 ⟨rfl, b3⟩
  have B3 := bstep B2 b3
  have o3 := o2.below b3
  clear p0 p1 p2 o2
  go_wp2_with fail
  refine (hIs.out _ (hc2.below b3)).mono ?_
  rintro e w4 ⟨rfl, hc4, hO4⟩
  have B4 := hO4.below B3 (by omega) B3.size
  have o4 := o3.only hO4 (by omega)
  clear o3 hO4 hc2 b3
  go_wp2_with fail
  refine (curAt g 0 l _ hc4).mono ?_
  rintro e w9 ⟨rfl, rfl⟩
  -- Open
  have ⟨p0, p1, p2, _, _, _⟩ := o4
  go_wp2_with fail
  refine (hTo.out _).mono ?_
  rintro e w5 ⟨rfl, b5⟩
  have B5 := bstep B4 b5
  have o5 := o4.below b5
  have hc5 := hc4.below b5
  clear p0 p1 p2 o4 b5 hc4
  go_wp2_with fail
  refine (hOpn.out _ hc5).mono ?_
  rintro e w6 ⟨pI, rfl, hc6, hO6, hI1, hI2⟩
  have B6 := hO6.below B5 (by omega) B5.size
  have o6 := o5.only hO6 (by omega)
  obtain ⟨hN6, hNg⟩ := OpenOk.curN (w := w5) (g := g) (s := s) hI1 hI2
  have hNw : ∀ g2, pI = some ⟨g2, 0, none⟩ → w5.heap.size ≤ g2 := hNg
  have hgl5 := hc5.lt
  have hNne : pI ≠ some ⟨g, 0, none⟩ := fun e => by have := hNw g e; omega
  have HNW := Lib.hid hNw
  have HNE := Lib.hid hNne
  have HGL := Lib.hid hgl5
  have HS5 := Lib.hid B5.size
  clear hI1 hI2 hNg hNw o5 hO6 hc5 hNne hgl5
  -- ref.Open
  have ⟨p0, p1, p2, _, _, _⟩ := o6
  go_wp2_with fail
  refine (hrOp.out _ (h.below B6)).mono ?_
  rintro e w7 ⟨A7, n7, c7, rfl, hb7, hc7, b7⟩
  have B7 := bstep B6 b7
  have o7 := o6.below b7
  have hN7 := hN6.below b7
  have hcc7 := hc6.below b7
  clear p0 p1 p2 o6 b7 hN6 hc6
  -- Alone
  have ⟨p0, p1, p2, _, _, _⟩ := o7
  go_wp2_with fail
  refine (hTo.out _).mono ?_
  rintro e w8 ⟨rfl, b8⟩
  have B8 := bstep B7 b8
  have o8 := o7.below b8
  have hN8 := hN7.below b8
  have hcc8 := hcc7.below b8
  have hb8 := hb7.below b8
  clear p0 p1 p2 o7 b8 hN7 hcc7 hb7
  go_wp2_with fail
  refine (hAl.out _ (h.below B8)).mono ?_
  rintro e w9 ⟨pO, rfl, b9, hO1, hO2⟩
  have B9 := bstep B8 b9
  have o9 := o8.below b9
  have hN9 := hN8.below b9
  have hcc9 := hcc8.below b9
  have hb9 := hb8.below b9
  have hglt9 := hcc8.lt
  have hIlt : ∀ g2, pI = some ⟨g2, 0, none⟩ → g2 < w8.heap.size := by
    intro g2 e
    rcases hN8 with ⟨e2, _⟩ | ⟨g3, s3, e2, hc3⟩
    · rw [e2] at e; cases e
    · rw [e2] at e; cases e; exact hc3.lt
  obtain ⟨hM9, hMg⟩ := AloneOk.curN (w := w8) hO1 hO2
  have hMne : pO ≠ some ⟨g, 0, none⟩ := fun e => by have := hMg g e; omega
  have hMI : ∀ g2, pI = some ⟨g2, 0, none⟩ → pO ≠ some ⟨g2, 0, none⟩ := fun g2 e e2 => by have := hMg g2 e2; have := hIlt g2 e; omega
  have HMG := Lib.hid hMg
  have HMNE := Lib.hid hMne
  have HMI := Lib.hid hMI
  have HS8 := Lib.hid B8.size
  clear hO1 hO2 b9 o8 hN8 hcc8 hb8 hMg hMne hMI hIlt hglt9
  -- ref.Alone
  have ⟨p0, p1, p2, _, _, _⟩ := o9
  go_wp2_with fail
  refine (hrAl.out _ (h.below B9)).mono ?_
  rintro e w10 ⟨A10, n10, c10, rfl, hb10', hc10, b10⟩
  have B10 := bstep B9 b10
  have o10 := o9.below b10
  have hN10 := hN9.below b10
  have hM10 := hM9.below b10
  have hcc10 := hcc9.below b10
  have hb10 := hb9.below b10
  clear p0 p1 p2 o9 b10 hN9 hM9 hcc9 hb9 hTo hIs hOpn hrOp hAl hrAl
  -- ref.Read
  go_wp2_with fail
  refine (refRead A n c 0 0 l _ (h.below B10) (by omega) (by omega) rfl).mono ?_
  rintro e w11 ⟨rfl, b11⟩
  have B11 := bstep B10 b11
  have o11 := o10.below b11
  have hN11 := hN10.below b11
  have hM11 := hM10.below b11
  have hcc11 := hcc10.below b11
  have hbX := hb10.below b11
  have hbY := hb10'.below b11
  clear o10 b11 hN10 hM10 hcc10 hb10 hb10'
  have hisE : Hid (rIs l 0 ⟨tc, tn, tm⟩ = (decide ((rHead l 0).2.2.2 = 0) && decide ((rHead l 0).1 = ⟨tc, tn, tm⟩))) := rfl
  generalize rIs l 0 ⟨tc, tn, tm⟩ = IS at *
  generalize rHead l 0 = T at *
  obtain ⟨⟨uc, un, um⟩, y, k1, E⟩ := T
  simp only at hisE
  unfold headV Tg.v
  have b12 := below_alloc1 w11 (blkR uc un um)
  have B12 := bstep B11 b12
  have o12 := o11.below b12
  have ot := Own3.new w11 (.int .i64 uc) (.int .i64 un) (.bool um) 23
  have hN12 := hN11.below b12
  have hM12 := hM11.below b12
  have hcc12 := hcc11.below b12
  have hbX12 := hbX.below b12
  have hbY12 := hbY.below b12
  clear b12 o11 hN11 hM11 hcc11 hbX hbY
  -- known
  go_wp2_with fail
  refine (known2 _).mono ?_
  rintro e w13 ⟨rfl, b13⟩
  have B13 := bstep B12 b13
  obtain ⟨p0, p1, p2, _, _, _⟩ := o12.below b13
  obtain ⟨q0, q1, q2, _, _, _⟩ := ot.below b13
  have hN13 := hN12.below b13
  have hM13 := hM12.below b13
  have hcc13 := hcc12.below b13
  have hbX13 := hbX12.below b13
  have hbY13 := hbY12.below b13
  clear b13 o12 ot hN12 hM12 hcc12 hbX12 hbY12
  have heq := @eqlTag
  generalize rOpen l 0 ⟨tc, tn, tm⟩ = RO at *
  obtain ⟨rI, kO, EO⟩ := RO
  generalize rAlone l ⟨tc, tn, tm⟩ = RA at *
  obtain ⟨rO, EA⟩ := RA
  simp only at hN13 hM13 hcc13 hbX13 hbY13
  have fin : Hid (∀ (W : World), W = w13 → Calls Try.prog 38 #[.pointer pI] W (RestN w13 pI rI)) := by rintro W rfl; exact restN pI rI W hN13
  have hls : ∀ Y Z : Bool, Y = Z → (Y == Z) = true := by rintro Y Z rfl; simp
  by_cases qE : E = 0
  · subst qE
    have hIS : IS = decide ((⟨uc, un, um⟩ : Tg) = ⟨tc, tn, tm⟩) := by rw [hisE.out]; simp
    subst hIS
    clear hisE
    go_wp2_with fail
    refine (fin.out _ rfl).mono ?_
    rintro e w14 ⟨A14, n14, c14, rfl, hb14, hc14, hl14, fB, fC, fW⟩
    have B14 := fW _ _ B13 B13.size (fun g2 e => Nat.le_trans HS5.out (HNW.out g2 e))
    have hbX14 := fB _ _ _ hbX13
    have hbY14 := fB _ _ _ hbY13
    have hcc14 := fC g _ _ _ HNE.out hcc13
    have hM14 : CurN w14 pO rO := by
      rcases hM13 with hh | ⟨g2, s2, e2, hc2⟩
      · exact .inl hh
      · exact .inr ⟨g2, s2, e2, fC g2 _ _ _ (fun e3 => HMI.out g2 e3 e2) hc2⟩
    have hn7 : n7 ≤ 1099511627776 := by have e1 := hbX14.len; have e2 := hb14.len; omega
    clear fB fC fW hM13 hbX13 hbY13 hcc13 hN13 fin
    go_wp2_with fail
    refine (refSame A14 A7 n14 n7 c14 c7 rI rI _ hb14 hbX14 hl14 hn7).mono ?_
    rintro e w15 ⟨rfl, q15⟩
    rw [decide_eq_true rfl]
    have B15 := B14.trans q15.below
    have hcc15 := hcc14.qt q15
    have hM15 := hM14.below q15.below
    have hbY15 := hbY14.qt q15
    clear hb14 hbX14 hcc14 hM14 hbY14
    go_wp2_with fail
    refine (curAt g kO l _ hcc15).mono ?_
    rintro e w16 ⟨rfl, rfl⟩
    go_wp2_with fail
    refine (restN pO rO _ hM15).mono ?_
    rintro e w17 ⟨A17, n17, c17, rfl, hb17, hc17, hl17, fB, fC, fW⟩
    have B17 := fW _ _ B15 B15.size (fun g2 e => Nat.le_trans HS8.out (HMG.out g2 e))
    have hbY17 := fB _ _ _ hbY15
    have hn10 : n10 ≤ 1099511627776 := by have e1 := hbY17.len; have e2 := hb17.len; omega
    clear fB fC fW hM15 hbY15 hcc15
    go_wp2_with fail
    refine (refSame A17 A10 n17 n10 c17 c10 rO rO _ hb17 hbY17 hl17 hn10).mono ?_
    rintro e w18 ⟨rfl, q18⟩
    rw [decide_eq_true rfl]
    have B18 := B17.trans q18.below
    go_wp2
    go_ret
    exact ⟨rfl, B18⟩
  · have e3 : (E == 0) = false := by simp; exact qE
    have hIS : IS = false := by rw [hisE.out, decide_eq_false qE]; rfl
    subst hIS
    clear hisE
    go_wp2_with fail
    refine (fin.out _ rfl).mono ?_
    rintro e w14 ⟨A14, n14, c14, rfl, hb14, hc14, hl14, fB, fC, fW⟩
    have B14 := fW _ _ B13 B13.size (fun g2 e => Nat.le_trans HS5.out (HNW.out g2 e))
    have hbX14 := fB _ _ _ hbX13
    have hbY14 := fB _ _ _ hbY13
    have hcc14 := fC g _ _ _ HNE.out hcc13
    have hM14 : CurN w14 pO rO := by
      rcases hM13 with hh | ⟨g2, s2, e2, hc2⟩
      · exact .inl hh
      · exact .inr ⟨g2, s2, e2, fC g2 _ _ _ (fun e3 => HMI.out g2 e3 e2) hc2⟩
    have hn7 : n7 ≤ 1099511627776 := by have e1 := hbX14.len; have e2 := hb14.len; omega
    clear fB fC fW hM13 hbX13 hbY13 hcc13 hN13 fin
    go_wp2_with fail
    refine (refSame A14 A7 n14 n7 c14 c7 rI rI _ hb14 hbX14 hl14 hn7).mono ?_
    rintro e w15 ⟨rfl, q15⟩
    rw [decide_eq_true rfl]
    have B15 := B14.trans q15.below
    have hcc15 := hcc14.qt q15
    have hM15 := hM14.below q15.below
    have hbY15 := hbY14.qt q15
    clear hb14 hbX14 hcc14 hM14 hbY14
    go_wp2_with fail
    refine (curAt g kO l _ hcc15).mono ?_
    rintro e w16 ⟨rfl, rfl⟩
    go_wp2_with fail
    refine (restN pO rO _ hM15).mono ?_
    rintro e w17 ⟨A17, n17, c17, rfl, hb17, hc17, hl17, fB, fC, fW⟩
    have B17 := fW _ _ B15 B15.size (fun g2 e => Nat.le_trans HS8.out (HMG.out g2 e))
    have hbY17 := fB _ _ _ hbY15
    have hn10 : n10 ≤ 1099511627776 := by have e1 := hbY17.len; have e2 := hb17.len; omega
    clear fB fC fW hM15 hbY15 hcc15
    go_wp2_with fail
    refine (refSame A17 A10 n17 n10 c17 c10 rO rO _ hb17 hbY17 hl17 hn10).mono ?_
    rintro e w18 ⟨rfl, q18⟩
    rw [decide_eq_true rfl]
    have B18 := B17.trans q18.below
    go_wp2
    go_ret
    exact ⟨rfl, B18⟩


set_option maxHeartbeats 12800000 in
theorem lawOpens_true (A : Option Addr) (n c : Nat) (l : List UInt8) (t : Tg) (w : World) (h : Bs w A n l) (hc : n ≤ c) :
    Calls Try.prog 5 #[.slice A n c, t.v, .bool true] w fun e w' => e = .returned (.bool true) ∧ Below w.heap.size w w' := by
  have h' : Bs w A (min n 3000) (l.take (min n 3000)) := h.take (by omega)
  have hn' : min n 3000 ≤ 3000 := by omega
  obtain ⟨ta, tb, td⟩ := t
  unfold Tg.v
  have o0 := Own3.new w (.int .i64 ta) (.int .i64 tb) (.bool td) 23
  have B0 := below_alloc1 w (blkR ta tb td)
  go_enter Try.func5, Try.ntmps5
  go_wp2_with fail
  refine (few2 A n c _ hc).mono ?_
  rintro e w0 ⟨rfl, rfl⟩
  have hc' : min n 3000 ≤ c := by omega
  clear h hc
  generalize min n 3000 = n at *
  generalize l.take n = l at *
  have h := h'
  have hc := hc'
  clear h' hc'
  have hl := Lib.hid h.len
  go_wp2_with fail
  refine (refReadTag A n c 0 0 l _ (h.below B0) (by omega) (by omega) rfl).mono ?_
  rintro e w1 ⟨rfl, b1⟩
  have B1' := bstep B0 b1
  obtain ⟨p0, p1, p2, f0, f1, f2⟩ := o0.below b1
  have hsz1' : w.heap.size < w1.heap.size := by have := b1.size; simp at this; omega
  generalize rTag l 0 = T at *
  obtain ⟨⟨tc, tn, tm⟩, kk, EE⟩ := T
  unfold tagV Tg.v
  have o1 : Own3 (((w1.setCell ⟨w.heap.size, 0, none⟩ (.int .i64 tc)).setCell ⟨w.heap.size, 1, none⟩ (.int .i64 tn)).setCell ⟨w.heap.size, 2, none⟩ (.bool tm)) w.heap.size (.int .i64 tc) (.int .i64 tn) (.bool tm) := Own3.set (o0.below b1) _ _ _
  have B1 : Below w.heap.size w (((w1.setCell ⟨w.heap.size, 0, none⟩ (.int .i64 tc)).setCell ⟨w.heap.size, 1, none⟩ (.int .i64 tn)).setCell ⟨w.heap.size, 2, none⟩ (.bool tm)) := below_set3 B1' B1'.size (Nat.le_refl _) _ _ _
  have hsz1 : w.heap.size < (((w1.setCell ⟨w.heap.size, 0, none⟩ (.int .i64 tc)).setCell ⟨w.heap.size, 1, none⟩ (.int .i64 tn)).setCell ⟨w.heap.size, 2, none⟩ (.bool tm)).heap.size := by simpa [World.setCell] using hsz1'
  clear B0 o0 b1 B1' hsz1'
  go_wp2_with fail
  clear p0 p1 p2 f0 f1 f2
  generalize ((w1.setCell ⟨w.heap.size, 0, none⟩ (.int .i64 tc)).setCell ⟨w.heap.size, 1, none⟩ (.int .i64 tn)).setCell ⟨w.heap.size, 2, none⟩ (.bool tm) = w1 at *
  refine (octNew A n c l _ (h.below B1) (by omega)).mono ?_
  rintro e w2 ⟨g, s, rfl, hg2, hc2, b2⟩
  have B2 := bstep B1 b2
  have hgw : w.heap.size < g := Nat.lt_of_lt_of_le hsz1 hg2
  have o2 := o1.below b2
  clear b2 hg2 o1
  -- Is
  have hTo := Lib.hid (fun W => lawTo ⟨tc, tn, tm⟩ W)
  have hIs := Lib.hid (fun W (hW : Cur W g s l 0) => hdIs g 0 l ⟨tc, tn, tm⟩ W hW)
  have hOpn := Lib.hid (fun W (hW : Cur W g s l 0) => hdOpen g 0 l ⟨tc, tn, tm⟩ W hW)
  have hrOp := Lib.hid (fun W (hW : Bs W A n l) => refOpen A n c 0 0 l ⟨tc, tn, tm⟩ W hW (by omega) hc (by omega) rfl)
  have hAl := Lib.hid (fun W (hW : Bs W A n l) => hdAlone A n c l ⟨tc, tn, tm⟩ W hW (by omega))
  have hrAl := Lib.hid (fun W (hW : Bs W A n l) => refAlone A n c l ⟨tc, tn, tm⟩ W hW (by omega) hc)
  unfold Tg.v at hTo hIs hOpn hrOp hAl hrAl
  have ⟨p0, p1, p2, _, _, _⟩ := o2
  go_wp2_with fail
  refine (hTo.out _).mono ?_
  rintro e w3 ⟨rfl, b3⟩
  have B3 := bstep B2 b3
  have o3 := o2.below b3
  clear p0 p1 p2 o2
  go_wp2_with fail
  refine (hIs.out _ (hc2.below b3)).mono ?_
  rintro e w4 ⟨rfl, hc4, hO4⟩
  have B4 := hO4.below B3 (by omega) B3.size
  have o4 := o3.only hO4 (by omega)
  clear o3 hO4 hc2 b3
  go_wp2_with fail
  refine (curAt g 0 l _ hc4).mono ?_
  rintro e w9 ⟨rfl, rfl⟩
  -- Open
  have ⟨p0, p1, p2, _, _, _⟩ := o4
  go_wp2_with fail
  refine (hTo.out _).mono ?_
  rintro e w5 ⟨rfl, b5⟩
  have B5 := bstep B4 b5
  have o5 := o4.below b5
  have hc5 := hc4.below b5
  clear p0 p1 p2 o4 b5 hc4
  go_wp2_with fail
  refine (hOpn.out _ hc5).mono ?_
  rintro e w6 ⟨pI, rfl, hc6, hO6, hI1, hI2⟩
  have B6 := hO6.below B5 (by omega) B5.size
  have o6 := o5.only hO6 (by omega)
  obtain ⟨hN6, hNg⟩ := OpenOk.curN (w := w5) (g := g) (s := s) hI1 hI2
  have hNw : ∀ g2, pI = some ⟨g2, 0, none⟩ → w5.heap.size ≤ g2 := hNg
  have hgl5 := hc5.lt
  have hNne : pI ≠ some ⟨g, 0, none⟩ := fun e => by have := hNw g e; omega
  have HNW := Lib.hid hNw
  have HNE := Lib.hid hNne
  have HGL := Lib.hid hgl5
  have HS5 := Lib.hid B5.size
  clear hI1 hI2 hNg hNw o5 hO6 hc5 hNne hgl5
  -- ref.Open
  have ⟨p0, p1, p2, _, _, _⟩ := o6
  go_wp2_with fail
  refine (hrOp.out _ (h.below B6)).mono ?_
  rintro e w7 ⟨A7, n7, c7, rfl, hb7, hc7, b7⟩
  have B7 := bstep B6 b7
  have o7 := o6.below b7
  have hN7 := hN6.below b7
  have hcc7 := hc6.below b7
  clear p0 p1 p2 o6 b7 hN6 hc6
  -- Alone
  have ⟨p0, p1, p2, _, _, _⟩ := o7
  go_wp2_with fail
  refine (hTo.out _).mono ?_
  rintro e w8 ⟨rfl, b8⟩
  have B8 := bstep B7 b8
  have o8 := o7.below b8
  have hN8 := hN7.below b8
  have hcc8 := hcc7.below b8
  have hb8 := hb7.below b8
  clear p0 p1 p2 o7 b8 hN7 hcc7 hb7
  go_wp2_with fail
  refine (hAl.out _ (h.below B8)).mono ?_
  rintro e w9 ⟨pO, rfl, b9, hO1, hO2⟩
  have B9 := bstep B8 b9
  have o9 := o8.below b9
  have hN9 := hN8.below b9
  have hcc9 := hcc8.below b9
  have hb9 := hb8.below b9
  have hglt9 := hcc8.lt
  have hIlt : ∀ g2, pI = some ⟨g2, 0, none⟩ → g2 < w8.heap.size := by
    intro g2 e
    rcases hN8 with ⟨e2, _⟩ | ⟨g3, s3, e2, hc3⟩
    · rw [e2] at e; cases e
    · rw [e2] at e; cases e; exact hc3.lt
  obtain ⟨hM9, hMg⟩ := AloneOk.curN (w := w8) hO1 hO2
  have hMne : pO ≠ some ⟨g, 0, none⟩ := fun e => by have := hMg g e; omega
  have hMI : ∀ g2, pI = some ⟨g2, 0, none⟩ → pO ≠ some ⟨g2, 0, none⟩ := fun g2 e e2 => by have := hMg g2 e2; have := hIlt g2 e; omega
  have HMG := Lib.hid hMg
  have HMNE := Lib.hid hMne
  have HMI := Lib.hid hMI
  have HS8 := Lib.hid B8.size
  clear hO1 hO2 b9 o8 hN8 hcc8 hb8 hMg hMne hMI hIlt hglt9
  -- ref.Alone
  have ⟨p0, p1, p2, _, _, _⟩ := o9
  go_wp2_with fail
  refine (hrAl.out _ (h.below B9)).mono ?_
  rintro e w10 ⟨A10, n10, c10, rfl, hb10', hc10, b10⟩
  have B10 := bstep B9 b10
  have o10 := o9.below b10
  have hN10 := hN9.below b10
  have hM10 := hM9.below b10
  have hcc10 := hcc9.below b10
  have hb10 := hb9.below b10
  clear p0 p1 p2 o9 b10 hN9 hM9 hcc9 hb9 hTo hIs hOpn hrOp hAl hrAl
  -- ref.Read
  go_wp2_with fail
  refine (refRead A n c 0 0 l _ (h.below B10) (by omega) (by omega) rfl).mono ?_
  rintro e w11 ⟨rfl, b11⟩
  have B11 := bstep B10 b11
  have o11 := o10.below b11
  have hN11 := hN10.below b11
  have hM11 := hM10.below b11
  have hcc11 := hcc10.below b11
  have hbX := hb10.below b11
  have hbY := hb10'.below b11
  clear o10 b11 hN10 hM10 hcc10 hb10 hb10'
  have hisE : Hid (rIs l 0 ⟨tc, tn, tm⟩ = (decide ((rHead l 0).2.2.2 = 0) && decide ((rHead l 0).1 = ⟨tc, tn, tm⟩))) := rfl
  generalize rIs l 0 ⟨tc, tn, tm⟩ = IS at *
  generalize rHead l 0 = T at *
  obtain ⟨⟨uc, un, um⟩, y, k1, E⟩ := T
  simp only at hisE
  unfold headV Tg.v
  have b12 := below_alloc1 w11 (blkR uc un um)
  have B12 := bstep B11 b12
  have o12 := o11.below b12
  have ot := Own3.new w11 (.int .i64 uc) (.int .i64 un) (.bool um) 23
  have hN12 := hN11.below b12
  have hM12 := hM11.below b12
  have hcc12 := hcc11.below b12
  have hbX12 := hbX.below b12
  have hbY12 := hbY.below b12
  clear b12 o11 hN11 hM11 hcc11 hbX hbY
  -- known
  go_wp2_with fail
  refine (known2 _).mono ?_
  rintro e w13 ⟨rfl, b13⟩
  have B13 := bstep B12 b13
  obtain ⟨p0, p1, p2, _, _, _⟩ := o12.below b13
  obtain ⟨q0, q1, q2, _, _, _⟩ := ot.below b13
  have hN13 := hN12.below b13
  have hM13 := hM12.below b13
  have hcc13 := hcc12.below b13
  have hbX13 := hbX12.below b13
  have hbY13 := hbY12.below b13
  clear b13 o12 ot hN12 hM12 hcc12 hbX12 hbY12
  have heq := @eqlTag
  generalize rOpen l 0 ⟨tc, tn, tm⟩ = RO at *
  obtain ⟨rI, kO, EO⟩ := RO
  generalize rAlone l ⟨tc, tn, tm⟩ = RA at *
  obtain ⟨rO, EA⟩ := RA
  simp only at hN13 hM13 hcc13 hbX13 hbY13
  have fin : Hid (∀ (W : World), W = w13 → Calls Try.prog 38 #[.pointer pI] W (RestN w13 pI rI)) := by rintro W rfl; exact restN pI rI W hN13
  have hls : ∀ Y Z : Bool, Y = Z → (Y == Z) = true := by rintro Y Z rfl; simp
  by_cases qE : E = 0
  · subst qE
    have hIS : IS = decide ((⟨uc, un, um⟩ : Tg) = ⟨tc, tn, tm⟩) := by rw [hisE.out]; simp
    subst hIS
    clear hisE
    go_wp2_with fail
    refine (fin.out _ rfl).mono ?_
    rintro e w14 ⟨A14, n14, c14, rfl, hb14, hc14, hl14, fB, fC, fW⟩
    have B14 := fW _ _ B13 B13.size (fun g2 e => Nat.le_trans HS5.out (HNW.out g2 e))
    have hbX14 := fB _ _ _ hbX13
    have hbY14 := fB _ _ _ hbY13
    have hcc14 := fC g _ _ _ HNE.out hcc13
    have hM14 : CurN w14 pO rO := by
      rcases hM13 with hh | ⟨g2, s2, e2, hc2⟩
      · exact .inl hh
      · exact .inr ⟨g2, s2, e2, fC g2 _ _ _ (fun e3 => HMI.out g2 e3 e2) hc2⟩
    have hn7 : n7 ≤ 1099511627776 := by have e1 := hbX14.len; have e2 := hb14.len; omega
    clear fB fC fW hM13 hbX13 hbY13 hcc13 hN13 fin
    go_wp2_with fail
    refine (refSame A14 A7 n14 n7 c14 c7 rI rI _ hb14 hbX14 hl14 hn7).mono ?_
    rintro e w15 ⟨rfl, q15⟩
    rw [decide_eq_true rfl]
    have B15 := B14.trans q15.below
    have hcc15 := hcc14.qt q15
    have hM15 := hM14.below q15.below
    have hbY15 := hbY14.qt q15
    clear hb14 hbX14 hcc14 hM14 hbY14
    go_wp2_with fail
    refine (curAt g kO l _ hcc15).mono ?_
    rintro e w16 ⟨rfl, rfl⟩
    go_wp2_with fail
    refine (restN pO rO _ hM15).mono ?_
    rintro e w17 ⟨A17, n17, c17, rfl, hb17, hc17, hl17, fB, fC, fW⟩
    have B17 := fW _ _ B15 B15.size (fun g2 e => Nat.le_trans HS8.out (HMG.out g2 e))
    have hbY17 := fB _ _ _ hbY15
    have hn10 : n10 ≤ 1099511627776 := by have e1 := hbY17.len; have e2 := hb17.len; omega
    clear fB fC fW hM15 hbY15 hcc15
    go_wp2_with fail
    refine (refSame A17 A10 n17 n10 c17 c10 rO rO _ hb17 hbY17 hl17 hn10).mono ?_
    rintro e w18 ⟨rfl, q18⟩
    rw [decide_eq_true rfl]
    have B18 := B17.trans q18.below
    go_wp2
    go_ret
    exact ⟨rfl, B18⟩
  · have e3 : (E == 0) = false := by simp; exact qE
    have hIS : IS = false := by rw [hisE.out, decide_eq_false qE]; rfl
    subst hIS
    clear hisE
    go_wp2_with fail
    refine (fin.out _ rfl).mono ?_
    rintro e w14 ⟨A14, n14, c14, rfl, hb14, hc14, hl14, fB, fC, fW⟩
    have B14 := fW _ _ B13 B13.size (fun g2 e => Nat.le_trans HS5.out (HNW.out g2 e))
    have hbX14 := fB _ _ _ hbX13
    have hbY14 := fB _ _ _ hbY13
    have hcc14 := fC g _ _ _ HNE.out hcc13
    have hM14 : CurN w14 pO rO := by
      rcases hM13 with hh | ⟨g2, s2, e2, hc2⟩
      · exact .inl hh
      · exact .inr ⟨g2, s2, e2, fC g2 _ _ _ (fun e3 => HMI.out g2 e3 e2) hc2⟩
    have hn7 : n7 ≤ 1099511627776 := by have e1 := hbX14.len; have e2 := hb14.len; omega
    clear fB fC fW hM13 hbX13 hbY13 hcc13 hN13 fin
    go_wp2_with fail
    refine (refSame A14 A7 n14 n7 c14 c7 rI rI _ hb14 hbX14 hl14 hn7).mono ?_
    rintro e w15 ⟨rfl, q15⟩
    rw [decide_eq_true rfl]
    have B15 := B14.trans q15.below
    have hcc15 := hcc14.qt q15
    have hM15 := hM14.below q15.below
    have hbY15 := hbY14.qt q15
    clear hb14 hbX14 hcc14 hM14 hbY14
    go_wp2_with fail
    refine (curAt g kO l _ hcc15).mono ?_
    rintro e w16 ⟨rfl, rfl⟩
    go_wp2_with fail
    refine (restN pO rO _ hM15).mono ?_
    rintro e w17 ⟨A17, n17, c17, rfl, hb17, hc17, hl17, fB, fC, fW⟩
    have B17 := fW _ _ B15 B15.size (fun g2 e => Nat.le_trans HS8.out (HMG.out g2 e))
    have hbY17 := fB _ _ _ hbY15
    have hn10 : n10 ≤ 1099511627776 := by have e1 := hbY17.len; have e2 := hb17.len; omega
    clear fB fC fW hM15 hbY15 hcc15
    go_wp2_with fail
    refine (refSame A17 A10 n17 n10 c17 c10 rO rO _ hb17 hbY17 hl17 hn10).mono ?_
    rintro e w18 ⟨rfl, q18⟩
    rw [decide_eq_true rfl]
    have B18 := B17.trans q18.below
    go_wp2
    go_ret
    exact ⟨rfl, B18⟩

theorem lawOpens (A : Option Addr) (n c : Nat) (l : List UInt8) (t : Tg) (m : Bool) (w : World) (h : Bs w A n l) (hc : n ≤ c) :
    Calls Try.prog 5 #[.slice A n c, t.v, .bool m] w fun e w' => e = .returned (.bool true) ∧ Below w.heap.size w w' := by
  cases m
  · exact lawOpens_false A n c l t w h hc
  · exact lawOpens_true A n c l t w h hc

end Go.Proofs.Ytolcfoaffjnibaa
