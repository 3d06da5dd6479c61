/-
  The law ClockBack.
-/
import Derived.Test.YtepbjjhidemaiaaKn
namespace Go.Proofs.Ytepbjjhidemaiaa
open Go.RowKit
set_option linter.unusedVariables false
set_option linter.unusedSimpArgs false
set_option maxRecDepth 4000

theorem neqCT (w : World) (a b : Int) : (binOp .neq 28 (.agg #[.int .i64 a, .int .i64 b]) (.agg #[.int .i64 a, .int .i64 b])).run Try.prog w = .ok (.bool false) w := by go_simp
theorem tmR_open {L : List UInt8} {j : Nat} {k : Int} (hk : k = 23 ∨ k = 24) (h : (rOpen L j (tgU k)).2.2 = 0) : tmR L j = prsV k (rOpen L j (tgU k)).1 := by
  unfold rOpen at h ⊢
  by_cases h1 : (rHead L j).2.2.2 = 0
  · rw [if_pos h1] at h ⊢
    by_cases h2 : (rHead L j).1 = tgU k
    · rw [if_pos h2] at h ⊢
      by_cases h3 : (L.length : Int) - (rHead L j).2.2.1 < (rHead L j).2.1
      · rw [if_pos h3] at h; exact absurd h (by show ¬ (3 : Int) = 0; decide)
      · rw [if_neg h3]
        have hok : okTg (rHead L j).1 := by
          rw [h2]
          refine ⟨hk, rfl, ?_⟩
          rcases hk with rfl | rfl <;> rfl
        unfold tmR
        rw [if_neg (fun x => x h1), if_neg (fun x => x hok), if_neg h3]
        have hnum : (rHead L j).1.num = k := by rw [h2]; rfl
        rw [hnum]
    · rw [if_neg h2] at h; exact absurd h (by show ¬ (4 : Int) = 0; decide)
  · rw [if_neg h1] at h; exact absurd h h1
theorem open_wrap0 (l : List UInt8) (t : Tg) (h : t.right) (hl : l.length ≤ 16777216) : rOpen (wrapB t l) 0 t = (l, (wrapB t l).length, 0) := by
  have := rOpen_wrapB [] [] l t h hl
  simpa using this
theorem rightT_of {k y m d a b c : Int} (hr : RgtC y m d a b c) (hk : k = 24 ∨ (k = 23 ∧ 1950 ≤ y ∧ y ≤ 2049)) : rightT k (sec y m d a b c) := by
  have h := kindS_of hr
  unfold rightT
  rcases hk with rfl | ⟨rfl, h1, h2⟩
  · refine ⟨?_, .inr rfl⟩
    rw [h]; split <;> decide
  · rw [if_pos ⟨h1, h2⟩] at h
    rw [h]; exact ⟨by decide, .inl rfl⟩
theorem rightT_utc {k y m d a b c : Int} (hr : RgtC y m d a b c) (h : rightT k (sec y m d a b c)) : k = 24 ∨ (k = 23 ∧ 1950 ≤ y ∧ y ≤ 2049) := by
  have hk := kindS_of hr
  rcases h.kind with rfl | rfl
  · right
    refine ⟨rfl, ?_⟩
    obtain ⟨_, h2 | h2⟩ := h
    · rw [hk] at h2
      by_cases g : 1950 ≤ y ∧ y ≤ 2049
      · exact g
      · rw [if_neg g] at h2; exact absurd h2 (by decide)
    · exact absurd h2 (by decide)
  · exact .inl rfl
theorem back_facts {k s y m d a b c : Int} (h : rightT k s) (hr : RgtC y m d a b c) (he : sec y m d a b c = s) :
    tmR (wrapB (tgU k) (contC k y m d a b c)) 0 = (k, s, 0) ∧ (k = 24 → tmG (wrapB (tgU k) (contC k y m d a b c)) 0 = (24, s, 0)) ∧ (wrapB (tgU k) (contC k y m d a b c)).length ≤ 24 := by
  have hl : (contC k y m d a b c).length ≤ 15 := by rw [contC_len]; split <;> omega
  have ho := open_wrap0 (contC k y m d a b c) (tgU k) ((Tg.rightB_iff _).1 (tgU_right h.kind)) (by omega)
  subst he
  have hp := prs_cont hr (rightT_utc hr h)
  refine ⟨?_, ?_, ?_⟩
  · rw [tmR_open h.kind (by rw [ho]), ho]; exact hp
  · rintro rfl
    unfold tmG
    rw [ho, if_neg (by simp)]; exact hp
  · have h1 := tagB_len (tgU k)
    have h2 := lenB_len (contC k y m d a b c).length
    unfold wrapB; simp only [List.length_append]; omega

/-- A time's whole, as the project hands it back. -/
theorem ckWriteAny (k s : Int) (hs : I64 s) (h : rightT k s) : ∃ (L : List UInt8), (∀ w, Calls Try.prog 9 #[tmv k s] w (NewBs2 w L)) ∧ L.length ≤ 24 ∧ tmR L 0 = (k, s, 0) ∧ (k = kindS s → tmS L 0 = (k, s, 0)) ∧ (k = 24 → tmG L 0 = (24, s, 0)) := by
  obtain ⟨y, m, d, a, b, c, hr, he⟩ := sec_of s h.range.1 h.range.2
  obtain ⟨b1, b2, b3⟩ := back_facts h hr he
  refine ⟨_, fun w => ckWrite k s y m d a b c w hs h hr he, b3, b1, fun hk => ?_, b2⟩
  unfold tmS
  rw [b1, if_neg (fun x => x.2 hk)]

set_option maxHeartbeats 6400000 in
theorem lawBackNo (s k : Int) (A : Option Addr) (n0 n c : Nat) (b : List UInt8) (w : World) (hn0 : n = min n0 100) (hb : Bs w A n b) (hc0 : n0 ≤ c) (hs : I64 s) (h : kindS s = 0) :
    Calls Try.prog 5 #[.int .i64 s, .int .i64 k, .slice A n0 c] w fun e w' => e = .returned (.bool true) ∧ Below w.heap.size w w' := by
  have hc : n ≤ c := by omega
  have hn : n ≤ 100 := by omega
  have hmin : min (n0 : Int) 100 = (n : Int) := by omega
  have hmin2 : (if (100 : Int) < (n0 : Int) then (100 : Int) else (n0 : Int)) = (n : Int) := by split <;> omega
  have m1 : (n : Int) ≤ (c : Int) := by omega
  have hbl : b.length ≤ 100 := by have := hb.len; omega
  have HP0 := fun c' W (hW : Bs W A n b) => ckParse k A n c' b W hW (by omega)
  have HV : Hid (((prsV k b).2.2 = 0 ∧ ∀ W, Calls Try.prog 7 #[tmv (prsV k b).1 (prsV k b).2.1] W (RowOk W b)) ∨ (prsV k b).2.2 ≠ 0) := by
    by_cases g : (prsV k b).2.2 = 0
    · refine .inl ⟨g, fun W => ?_⟩
      obtain ⟨hk, hp, hv⟩ := prsV_ok g
      obtain ⟨e1, e2⟩ := cont_prs hk hp
      have := ckContents k (secC k b) _ _ _ _ _ _ W (by have := sec_range hp.2.2; unfold secC I64; omega) (rightT_of hp.2.2 e2) hp.2.2 rfl
      rw [e1] at this
      rw [hv]; exact this
    · exact .inr g
  generalize prsV k b = V at *
  obtain ⟨v1, v2, v3⟩ := V
  simp only at HV
  unfold prsE tmv at HP0
  unfold tmv RowOk at HV
  have HP := Lib.hid HP0
  have HKn := Lib.hid known10
  have SB0 := Lib.hid hb
  have HSame := Lib.hid (fun A n c B m d (x : List UInt8) W hx hy hn hm => refSame A B n m c d x b W hx hy hn hm)
  clear hn0 HP0 hb hc0
  have HO0 := fun W => ckOf s W hs
  rw [if_neg (by simpa using h)] at HO0
  unfold tmv at HO0
  have HO := Lib.hid HO0
  clear HO0 h hs
  go_enter Try.func5, Try.ntmps5
  go_wp2_with fail
  refine (HO.out _).mono ?_
  rintro e w2 ⟨rfl, hB2⟩
  have hB3 := hB2.alloc hB2.size (.cells #[.int .i64 0, .int .i64 0] 28)
  have HB3 := Lib.hid hB3
  have SB := Lib.hid (SB0.out.below hB3)
  clear hB2 hB3 HO SB0
  go_upto_region 11 with (fail)
  generalize w2.alloc (.cells #[.int .i64 0, .int .i64 0] 28) = W3 at *
  go_wp2_with fail
  refine (HP.out _ _ SB.out).mono ?_
  rintro e wp ⟨rfl, hBp⟩
  have hBq := hBp.alloc hBp.size (.cells #[.int .i64 v1, .int .i64 v2] 28)
  have HBq := Lib.hid (HB3.out.trans (hBq.mono HB3.out.size))
  have SBq := Lib.hid (SB.out.below hBq)
  have Xq := Lib.hid (Blk.two_new wp (.int .i64 v1) (.int .i64 v2) 28)
  clear hBp hBq SB
  go_upto_region 12 with (fail)
  generalize wp.alloc (.cells #[.int .i64 v1, .int .i64 v2] 28) = Wq at *
  generalize wp.heap.size = Dq at *
  obtain ⟨u0, u1, _, _⟩ := Xq.out.two
  rcases HV.out with ⟨hv, hcx⟩ | hv
  rotate_left
  · have e9 : (v3 == 0) = false := by simpa using hv
    clear hv HV
    go_wp2_with fail
    refine (HKn.out _).mono ?_
    rintro e wz ⟨rfl, hBz⟩
    have FF := Lib.hid (HBq.out.trans (hBz.mono HBq.out.size))
    clear hBz
    go_wp2
    go_ret
    exact ⟨rfl, FF.out⟩
  subst hv
  have HCX := Lib.hid hcx
  clear hcx HV
  go_wp2_with fail
  refine (HCX.out _).mono ?_
  rintro e wr ⟨Ar, nr, cr, rfl, hor, hBr⟩
  have HBr := Lib.hid (HBq.out.trans (hBr.mono HBq.out.size))
  have SBr := Lib.hid (SBq.out.below hBr)
  have SCr := Lib.hid hor.bs.1
  have hnr : nr ≤ 1099511627776 := by have := SCr.out.len; omega
  clear hor hBr u0 u1 Xq SBq HBq HCX
  go_wp2_with fail
  refine (HSame.out _ _ _ _ _ _ _ _ SCr.out SBr.out hnr (by omega)).mono ?_
  rintro e ws ⟨rfl, hqs⟩
  have HBs := Lib.hid (HBr.out.trans (hqs.below.mono HBr.out.size))
  rw [show decide (b = b) = true from by simp]
  clear hqs SCr SBr HBr
  go_wp2_with fail
  refine (HKn.out _).mono ?_
  rintro e wz ⟨rfl, hBz⟩
  have FF := Lib.hid (HBs.out.trans (hBz.mono HBs.out.size))
  clear hBz
  go_wp2
  go_ret
  exact ⟨rfl, FF.out⟩

set_option maxHeartbeats 12800000 in
theorem lawBackYes (s k : Int) (A : Option Addr) (n0 n c : Nat) (b : List UInt8) (w : World) (hn0 : n = min n0 100) (hb : Bs w A n b) (hc0 : n0 ≤ c) (hs : I64 s) (h : kindS s ≠ 0) :
    Calls Try.prog 5 #[.int .i64 s, .int .i64 k, .slice A n0 c] w fun e w' => e = .returned (.bool true) ∧ Below w.heap.size w w' := by
  have hc : n ≤ c := by omega
  have hn : n ≤ 100 := by omega
  have hmin : min (n0 : Int) 100 = (n : Int) := by omega
  have hmin2 : (if (100 : Int) < (n0 : Int) then (100 : Int) else (n0 : Int)) = (n : Int) := by split <;> omega
  have m1 : (n : Int) ≤ (c : Int) := by omega
  have hbl : b.length ≤ 100 := by have := hb.len; omega
  have HP0 := fun c' W (hW : Bs W A n b) => ckParse k A n c' b W hW (by omega)
  have HV : Hid (((prsV k b).2.2 = 0 ∧ ∀ W, Calls Try.prog 7 #[tmv (prsV k b).1 (prsV k b).2.1] W (RowOk W b)) ∨ (prsV k b).2.2 ≠ 0) := by
    by_cases g : (prsV k b).2.2 = 0
    · refine .inl ⟨g, fun W => ?_⟩
      obtain ⟨hk, hp, hv⟩ := prsV_ok g
      obtain ⟨e1, e2⟩ := cont_prs hk hp
      have := ckContents k (secC k b) _ _ _ _ _ _ W (by have := sec_range hp.2.2; unfold secC I64; omega) (rightT_of hp.2.2 e2) hp.2.2 rfl
      rw [e1] at this
      rw [hv]; exact this
    · exact .inr g
  generalize prsV k b = V at *
  obtain ⟨v1, v2, v3⟩ := V
  simp only at HV
  unfold prsE tmv at HP0
  unfold tmv RowOk at HV
  have HP := Lib.hid HP0
  have HKn := Lib.hid known10
  have SB0 := Lib.hid hb
  have HSame := Lib.hid (fun A n c B m d (x : List UInt8) W hx hy hn hm => refSame A B n m c d x b W hx hy hn hm)
  clear hn0 HP0 hb hc0
  have HO0 := fun W => ckOf s W hs
  rw [if_pos h] at HO0
  have HG0 := fun W => ckGeneral s W hs
  rw [if_pos h] at HG0
  obtain ⟨L1, kw1, ll1, _, ks1, _⟩ := ckWriteAny (kindS s) s hs ⟨h, .inl rfl⟩
  obtain ⟨L2, kw2, ll2, _, _, kg2⟩ := ckWriteAny 24 s hs ⟨h, .inr rfl⟩
  have hS0 := fun g (sv : Value) W (hW : Cur W g sv L1 0) => ckReadStrict g 0 L1 W hW (by omega)
  have hG20 := fun g (sv : Value) W (hW : Cur W g sv L2 0) => ckReadGeneral g 0 L2 W hW (by omega)
  unfold KeptOk at hS0
  rw [ks1 rfl] at hS0
  rw [kg2 rfl] at hG20
  unfold prsE tmv at hS0
  unfold NewBs2 tmv at kw1 kw2
  unfold tmv at HO0 HG0
  generalize kindS s = K at *
  have HO := Lib.hid HO0
  have HG := Lib.hid HG0
  have HW1 := Lib.hid kw1
  have HW2 := Lib.hid kw2
  have HS := Lib.hid hS0
  have HG2 := Lib.hid hG20
  have ON := Lib.hid (fun A n c (L : List UInt8) W h hn => octNew A n c L W h hn)
  have NQ := fun W => neqCT W K s
  clear HO0 HG0 kw1 kw2 hS0 hG20 ks1 kg2 h hs
  go_enter Try.func5, Try.ntmps5
  go_wp2_with fail
  refine (HO.out _).mono ?_
  rintro e w2 ⟨rfl, hB2⟩
  have hB3 := hB2.alloc hB2.size (.cells #[.int .i64 K, .int .i64 s] 28)
  have HB3 := Lib.hid hB3
  have SB3 := Lib.hid (SB0.out.below hB3)
  have X3 := Lib.hid (Blk.two_new w2 (.int .i64 K) (.int .i64 s) 28)
  clear hB2 hB3 HO SB0
  go_upto_region 3 with (fail)
  generalize w2.alloc (.cells #[.int .i64 K, .int .i64 s] 28) = W3 at *
  generalize w2.heap.size = D1 at *
  obtain ⟨x0, x1, _, _⟩ := X3.out.two
  go_wp2_with fail
  refine (HW1.out _).mono ?_
  rintro e w4 ⟨A4, n4, c4, rfl, ho4, hB4⟩
  have HB4 := Lib.hid (HB3.out.trans (hB4.mono HB3.out.size))
  have SB4 := Lib.hid (SB3.out.below hB4)
  have X4 := Lib.hid (X3.out.below hB4)
  have S4 := Lib.hid ho4.bs.1
  have hn4 : n4 ≤ 1099511627776 := by have := S4.out.len; omega
  clear ho4 hB4 HB3 SB3 X3 x0 x1 HW1
  go_wp2_with fail
  refine (ON.out _ _ _ _ _ S4.out hn4).mono ?_
  rintro e w5 ⟨g5, sv5, rfl, hg5, hc5, hB5⟩
  have HB5 := Lib.hid (HB4.out.trans (hB5.mono HB4.out.size))
  have SB5 := Lib.hid (SB4.out.below hB5)
  have X5 := Lib.hid (X4.out.below hB5)
  have hD1 : D1 ≠ g5 := by have := X4.out.lt; omega
  have hgw5 : w.heap.size ≤ g5 := Nat.le_trans HB4.out.size hg5
  have C5 := Lib.hid hc5
  clear hc5 hB5 HB4 SB4 X4 S4 hn4 hg5
  go_wp2_with fail
  refine (HS.out _ _ _ C5.out).mono ?_
  rintro e w6 ⟨rfl, _, ho6⟩
  have HB6 := Lib.hid (ho6.below HB5.out hgw5 HB5.out.size)
  have SB6 := Lib.hid (SB5.out.only ho6 C5.out.noByte)
  have X6 := Lib.hid (X5.out.only ho6 hD1)
  have hB7 := below_alloc1 w6 (.cells #[.int .i64 K, .int .i64 s] 28)
  have HB7 := Lib.hid (HB6.out.trans (hB7.mono HB6.out.size))
  have SB7 := Lib.hid (SB6.out.below hB7)
  have X7 := Lib.hid (X6.out.below hB7)
  have Y7 := Lib.hid (Blk.two_new w6 (.int .i64 K) (.int .i64 s) 28)
  clear ho6 hB7 HB5 HB6 SB5 SB6 X5 X6 C5 hD1 hgw5 HS
  go_wp2_with fail
  generalize w6.alloc (.cells #[.int .i64 K, .int .i64 s] 28) = W7 at *
  generalize w6.heap.size = D2 at *
  refine (HG.out _).mono ?_
  rintro e w8 ⟨rfl, hB8⟩
  have hB9 := hB8.alloc hB8.size (.cells #[.int .i64 24, .int .i64 s] 28)
  have HB9 := Lib.hid (HB7.out.trans (hB9.mono HB7.out.size))
  have SB9 := Lib.hid (SB7.out.below hB9)
  have X9 := Lib.hid (X7.out.below hB9)
  have Y9 := Lib.hid (Y7.out.below hB9)
  have Z9 := Lib.hid (Blk.two_new w8 (.int .i64 24) (.int .i64 s) 28)
  clear hB8 hB9 HB7 SB7 X7 Y7 HG
  go_upto_region 7 with (fail)
  generalize w8.alloc (.cells #[.int .i64 24, .int .i64 s] 28) = W9 at *
  generalize w8.heap.size = D3 at *
  obtain ⟨x0, x1, _, _⟩ := Z9.out.two
  go_wp2_with fail
  refine (HW2.out _).mono ?_
  rintro e w10 ⟨A10, n10, c10, rfl, ho10, hB10⟩
  have HB10 := Lib.hid (HB9.out.trans (hB10.mono HB9.out.size))
  have SB10 := Lib.hid (SB9.out.below hB10)
  have X10 := Lib.hid (X9.out.below hB10)
  have Y10 := Lib.hid (Y9.out.below hB10)
  have S10 := Lib.hid ho10.bs.1
  have hn10 : n10 ≤ 1099511627776 := by have := S10.out.len; omega
  clear ho10 hB10 HB9 SB9 X9 Y9 Z9 x0 x1 HW2
  go_wp2_with fail
  refine (ON.out _ _ _ _ _ S10.out hn10).mono ?_
  rintro e w11 ⟨g11, sv11, rfl, hg11, hc11, hB11⟩
  have HB11 := Lib.hid (HB10.out.trans (hB11.mono HB10.out.size))
  have SB11 := Lib.hid (SB10.out.below hB11)
  have X11 := Lib.hid (X10.out.below hB11)
  have Y11 := Lib.hid (Y10.out.below hB11)
  have hD1 : D1 ≠ g11 := by have := X10.out.lt; omega
  have hD2 : D2 ≠ g11 := by have := Y10.out.lt; omega
  have hgw11 : w.heap.size ≤ g11 := Nat.le_trans HB10.out.size hg11
  have C11 := Lib.hid hc11
  clear hc11 hB11 HB10 SB10 X10 Y10 S10 hn10 hg11
  go_wp2_with fail
  refine (HG2.out _ _ _ C11.out).mono ?_
  rintro e w12 ⟨rfl, _, ho12⟩
  have HB12 := Lib.hid (ho12.below HB11.out hgw11 HB11.out.size)
  have SB := Lib.hid (SB11.out.only ho12 C11.out.noByte)
  have X12 := Lib.hid (X11.out.only ho12 hD1)
  have Y12 := Lib.hid (Y11.out.only ho12 hD2)
  clear ho12 HB11 SB11 X11 Y11 C11 hD1 hD2 hgw11 HG2 ON
  obtain ⟨x0, x1, _, _⟩ := X12.out.two
  obtain ⟨y0, y1, _, _⟩ := Y12.out.two
  go_upto_region 11 with (fail)
  clear x0 x1 y0 y1 X12 Y12 NQ
  go_wp2_with fail
  refine (HP.out _ _ SB.out).mono ?_
  rintro e wp ⟨rfl, hBp⟩
  have hBq := hBp.alloc hBp.size (.cells #[.int .i64 v1, .int .i64 v2] 28)
  have HBq := Lib.hid (HB12.out.trans (hBq.mono HB12.out.size))
  have SBq := Lib.hid (SB.out.below hBq)
  have Xq := Lib.hid (Blk.two_new wp (.int .i64 v1) (.int .i64 v2) 28)
  clear hBp hBq SB
  go_upto_region 12 with (fail)
  generalize wp.alloc (.cells #[.int .i64 v1, .int .i64 v2] 28) = Wq at *
  generalize wp.heap.size = Dq at *
  obtain ⟨u0, u1, _, _⟩ := Xq.out.two
  rcases HV.out with ⟨hv, hcx⟩ | hv
  rotate_left
  · have e9 : (v3 == 0) = false := by simpa using hv
    clear hv HV
    go_wp2_with fail
    refine (HKn.out _).mono ?_
    rintro e wz ⟨rfl, hBz⟩
    have FF := Lib.hid (HBq.out.trans (hBz.mono HBq.out.size))
    clear hBz
    go_wp2
    go_ret
    exact ⟨rfl, FF.out⟩
  subst hv
  have HCX := Lib.hid hcx
  clear hcx HV
  go_wp2_with fail
  refine (HCX.out _).mono ?_
  rintro e wr ⟨Ar, nr, cr, rfl, hor, hBr⟩
  have HBr := Lib.hid (HBq.out.trans (hBr.mono HBq.out.size))
  have SBr := Lib.hid (SBq.out.below hBr)
  have SCr := Lib.hid hor.bs.1
  have hnr : nr ≤ 1099511627776 := by have := SCr.out.len; omega
  clear hor hBr u0 u1 Xq SBq HBq HCX
  go_wp2_with fail
  refine (HSame.out _ _ _ _ _ _ _ _ SCr.out SBr.out hnr (by omega)).mono ?_
  rintro e ws ⟨rfl, hqs⟩
  have HBs := Lib.hid (HBr.out.trans (hqs.below.mono HBr.out.size))
  rw [show decide (b = b) = true from by simp]
  clear hqs SCr SBr HBr
  go_wp2_with fail
  refine (HKn.out _).mono ?_
  rintro e wz ⟨rfl, hBz⟩
  have FF := Lib.hid (HBs.out.trans (hBz.mono HBs.out.size))
  clear hBz
  go_wp2
  go_ret
  exact ⟨rfl, FF.out⟩

theorem lawBack (s k : Int) (A : Option Addr) (n0 n c : Nat) (b : List UInt8) (w : World) (hn0 : n = min n0 100) (hb : Bs w A n b) (hc0 : n0 ≤ c) (hs : I64 s) :
    Calls Try.prog 5 #[.int .i64 s, .int .i64 k, .slice A n0 c] w fun e w' => e = .returned (.bool true) ∧ Below w.heap.size w w' := by
  by_cases h : kindS s = 0
  · exact lawBackNo s k A n0 n c b w hn0 hb hc0 hs h
  · exact lawBackYes s k A n0 n c b w hn0 hb hc0 hs h
end Go.Proofs.Ytepbjjhidemaiaa
