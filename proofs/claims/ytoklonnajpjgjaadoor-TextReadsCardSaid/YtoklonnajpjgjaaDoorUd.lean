/-
  The reference of texts: Read.
-/
import Derived.Test.YtoklonnajpjgjaaDoorUa
import Derived.Deep.Cut
import Derived.Test.YtoklonnajpjgjaaDoorTo
import Derived.Test.YtoklonnajpjgjaaDoorUr
import Derived.Deep.RegionWith
namespace Go.Proofs.YtoklonnajpjgjaaDoor
open Go.RowKit Go.Shelf
set_option linter.unusedVariables false
set_option linter.unusedSimpArgs false
set_option maxRecDepth 4000

/-- Is a number among the first q kinds? -/
def okAt (ks : List Int) (u : Int) (q : Nat) : Bool := (decide (ks.length = 0) && isK u) || (ks.take q).contains u
theorem okAt_end (ks : List Int) (u : Int) : okAt ks u ks.length = (effK ks).contains u := by
  unfold okAt effK
  cases ks with
  | nil => simp [isK_contains u, isK]
  | cons a t => simp
theorem okAt_step (ks : List Int) (u : Int) (q : Nat) (h : q < ks.length) : okAt ks u (q + 1) = (okAt ks u q || (zth ks q == u)) := by
  unfold okAt zth
  have h1 : ks.take (q + 1) = ks.take q ++ [ks.getD q 0] := by
    rw [List.take_add_one, List.getElem?_eq_getElem h]; simp [List.getD, h]
  rw [h1, List.contains_append, ← Bool.or_assoc]
  congr 1
  rw [List.contains_cons, List.contains_nil, Bool.or_false]
  exact Bool.beq_comm
theorem cutK (A : Option Addr) (n c k y : Nat) (hk : k + y ≤ n) (hc : n ≤ c) : ∃ A', (∀ (W : World), (Instr.slice 22 (.slice A n c) (some (.int .i64 (k : Int))) (some (.int .i64 ((k + y : Nat) : Int))) none).run Tryd.prog W = .ok (.slice A' y (c - k)) W) ∧
    ∀ (W : World) (l : List UInt8), Bs W A n l → Bs W A' y ((l.drop k).take y) := by
  by_cases h : k = c
  · subst h
    have : n = k := by omega
    subst this
    have : y = 0 := by omega
    subst this
    refine ⟨A, fun W => ?_, fun W l hb => ?_⟩
    · go_simp
      try (cases A <;> simp [sliced])
    · rw [List.take_zero]
      exact Bs.nil _ _
  · refine ⟨Option.map (fun x => x.add k) A, fun W => ?_, fun W l hb => ?_⟩
    · have h1 : k + y ≤ c := by omega
      have : ¬ c = k := fun e => h e.symm
      have e1 : ((k : Int) + (y : Int)).toNat = k + y := by omega
      have e2 : 0 ≤ (k : Int) + (y : Int) ∧ (k : Int) + (y : Int) ≤ (c : Int) := by omega
      go_simp
      try (cases A <;> simp [sliced, h, h1, this, e1, e2, Nat.sub_eq_zero_iff_le])
    · have := hb.cut (i := k) (j := k + y) (by omega) hk
      rw [Nat.add_sub_cancel_left] at this
      exact this

/-- What the reference's Read hands back. -/
def RdT6 (w : World) (r : (Int × List UInt8) × Nat × Int) (e : Ending) (w' : World) : Prop :=
  ∃ A n c, e = .returned (.tuple #[.agg #[.int .i64 r.1.1, .slice A n c], .int .i64 (r.2.1 : Int), .int .i64 r.2.2]) ∧ Bs w' A n r.1.2 ∧ n ≤ c ∧ Below w.heap.size w w'

set_option maxHeartbeats 3200000 in
theorem ref6Read (A : Option Addr) (n c p : Nat) (x : Int) (l : List UInt8) (K : Option Addr) (m d : Nat) (ks : List Int) (w : World) (h : Bs w A n l) (hc : n ≤ c) (hn : n ≤ 1000000) (hp : p ≤ n) (hx : x = p) (hz : Zs w K m ks) (hm : m ≤ 1099511) :
    Calls Tryd.prog 27 #[.slice A n c, .int .i64 x, .slice K m d] w (RdT6 w (rdT l p (effK ks))) := by
  have hok := rHead_ok l p
  have hlen := Lib.hid h.len
  have hzl := Lib.hid hz.len
  have b0 := below_alloc1 w (.cells #[.int .i64 0, .slice none 0 0] 24)
  have hR := Blk.new2 w (.int .i64 0) (.slice none 0 0) 24
  have HZ := Lib.hid hz
  have HM := Lib.hid hm
  have HX := Lib.hid hx
  have HN := Lib.hid hn
  have HC := Lib.hid hc
  have FIN : Hid (∀ (W : World) (u : Int) (A : Option Addr) (n c : Nat) (q : Int) (E : Int), Below w.heap.size w W → Blk W w.heap.size 24 [.int .i64 0, .slice none 0 0] → (rdT l p (effK ks)).1.1 = u → ((rdT l p (effK ks)).2.1 : Int) = q → (rdT l p (effK ks)).2.2 = E → Bs W A n (rdT l p (effK ks)).1.2 → n ≤ c →
      RdT6 w (rdT l p (effK ks)) (.returned (.tuple #[.agg #[.int .i64 u, .slice A n c], .int .i64 q, .int .i64 E])) ((W.setCell ⟨w.heap.size, 0, none⟩ (.int .i64 u)).setCell ⟨w.heap.size, 1, none⟩ (.slice A n c))) := Lib.hid (by
    intro W u A n c q E hB hb hu hq he hbs hnc
    subst hu hq he
    exact ⟨A, n, c, rfl, hbs.put hb (NoB.str _ _ _ _) _ _, hnc, below_set2 hB hB.size (Nat.le_refl _) _ _⟩)
  have F2 : Hid (∀ (W : World), Blk W w.heap.size 24 [.int .i64 0, .slice none 0 0] → ∀ (x y : Value), ((W.cell? ⟨w.heap.size, 0, none⟩ = some (.int .i64 0) ∧ W.cell? ⟨w.heap.size, 1, none⟩ = some (.slice none 0 0)) ∧ W.frozen? ⟨w.heap.size, 0, none⟩ = false ∧ W.frozen? ⟨w.heap.size, 1, none⟩ = false) ∧ ((W.setCell ⟨w.heap.size, 0, none⟩ x).setCell ⟨w.heap.size, 1, none⟩ y).cell? ⟨w.heap.size, 0, none⟩ = some x ∧ ((W.setCell ⟨w.heap.size, 0, none⟩ x).setCell ⟨w.heap.size, 1, none⟩ y).cell? ⟨w.heap.size, 1, none⟩ = some y) := Lib.hid (fun W hW x y => ⟨⟨⟨hW.two.1, hW.two.2.1⟩, hW.two.2.2.1, hW.two.2.2.2⟩, (hW.put x y).two.1, (hW.put x y).two.2.1⟩)
  have RD : Hid (∀ W : World, Below w.heap.size w W → Calls Tryd.prog 49 #[.slice A n c, .int .i64 x] W fun e w' => e = headV (rHead l p) ∧ Below W.heap.size W w') := Lib.hid (fun W hW => refRead A n c p x l W (h.below hW) (by omega) hp hx)
  have HB := Lib.hid h
  have hH : Hid (rdT l p (effK ks) = if (rHead l p).2.2.2 = 0 then
    (if (rHead l p).1.cls = 0 ∧ (rHead l p).1.made = false ∧ (effK ks).contains (rHead l p).1.num = true then
      (if (l.length : Int) - (rHead l p).2.2.1 < (rHead l p).2.1 then ((0, []), p, 3)
       else (if rightT (rHead l p).1.num ((l.drop (rHead l p).2.2.1).take (rHead l p).2.1.toNat) = true then (((rHead l p).1.num, (l.drop (rHead l p).2.2.1).take (rHead l p).2.1.toNat), (rHead l p).2.2.1 + (rHead l p).2.1.toNat, 0)
         else ((0, []), p, 6)))
     else ((0, []), p, 4))
    else ((0, []), p, (rHead l p).2.2.2)) := Lib.hid rfl
  clear hz hm hx hn hc hp h
  go_enter Tryd.func27, Tryd.ntmps27
  go_upto_region 1 with (fail)
  generalize (w.alloc (Obj.cells #[.int .i64 0, .slice none 0 0] 24)) = W0 at *
  generalize rHead l p = T at *
  obtain ⟨⟨uc, un, um⟩, y, k1, e1⟩ := T
  unfold headV Tg.v at RD
  simp only at hH hok RD
  go_wp2_with fail
  refine (RD.out W0 b0).mono ?_
  rintro e w1 ⟨rfl, b1⟩
  have hR1 := hR.below b1
  have B1 := b0.trans (Below.mono b1 b0.size)
  have hT1 := Blk.new w1 [.int .i64 uc, .int .i64 un, .bool um] 61
  have b2 := below_alloc1 w1 (.cells #[.int .i64 uc, .int .i64 un, .bool um] 61)
  have hR2 := hR1.below b2
  have B2 := B1.trans (Below.mono b2 B1.size)
  clear RD hR b0 b1 hR1 B1 b2
  go_upto_region 2 with (fail)
  generalize (w1.alloc (Obj.cells #[.int .i64 uc, .int .i64 un, .bool um] 61)) = W2 at *
  generalize w1.heap.size = G at *
  have K2 : Hid (∀ W : World, Below W2.heap.size W2 W → (W.cell? ⟨G, 0, none⟩ = some (.int .i64 uc) ∧ W.cell? ⟨G, 1, none⟩ = some (.int .i64 un) ∧ W.cell? ⟨G, 2, none⟩ = some (.bool um)) ∧ Blk W w.heap.size 24 [.int .i64 0, .slice none 0 0] ∧ Below w.heap.size w W ∧ Zs W K m ks ∧ Bs W A n l) := Lib.hid (fun W hW => ⟨⟨(hT1.below hW).cell 0, (hT1.below hW).cell 1, (hT1.below hW).cell 2⟩, hR2.below hW, B2.trans (Below.mono hW B2.size), HZ.out.below (B2.trans (Below.mono hW B2.size)), HB.out.below (B2.trans (Below.mono hW B2.size))⟩)
  clear hT1 hR2 B2 HZ HB
  generalize w.heap.size = R at *
  by_cases he : e1 = 0
  · subst he
    rw [if_pos rfl] at hH
    have hok := hok rfl
    obtain ⟨hy0, hy1, hk2⟩ := hok
    obtain ⟨yn, rfl⟩ : ∃ yn : Nat, y = yn := ⟨y.toNat, by omega⟩
    simp only [Int.toNat_natCast] at hH
    have HY := Lib.hid (show yn ≤ 16777216 ∧ k1 ≤ n by have := hlen.out; omega)
    clear hy0 hy1 hk2
    obtain ⟨⟨g0, g1, g2⟩, kR, kb, kz, kbs⟩ := K2.out _ (Below.refl _ _)
    by_cases hm0 : m = 0
    · have OK0 : okAt ks un 0 = isK un := by unfold okAt; rw [hzl.out]; simp [hm0]
      have m1 : ((m : Int) == 0) = true := by simpa using hm0
      have m2 : (m == 0) = true := by simpa using hm0
      have m3 : ((m : Int) = 0) := by omega
      clear hm0
      have KD := ref6Kind un W2
      clear kR kb kz kbs
      go_wp2_with fail
      refine KD.mono ?_
      rintro e w3 ⟨rfl, hw3⟩
      obtain rfl : W2 = w3 := hw3.symm
      clear KD g0 g1 g2 m1 m2 m3
      go_wp2
      go_loopw [13, 14] (fun ok i wr => ∃ q : Nat, q ≤ m ∧ i = .int .i64 (q : Int) ∧ ok = .bool (okAt ks un q) ∧ Below W2.heap.size W2 wr) (fun _ i _ => m - (intOf i).toNat)
      case atStart => exact ⟨0, by omega, rfl, by rw [OK0], Below.refl _ _⟩
      case round =>
        obtain ⟨q, hq, rfl, rfl, hbr⟩ := hrel
        obtain ⟨⟨g0, g1, g2⟩, kR, kb, kz, kbs⟩ := K2.out _ hbr
        by_cases hqm : q < m
        · obtain ⟨bz, oz, rfl, hcell⟩ := kz.at_ hqm
          have hst := okAt_step ks un q (by rw [hzl.out]; exact hqm)
          have hm1 := HM.out
          have t1 : decide ((q : Int) < (m : Int)) = true := by simpa using hqm
          have t2 : ((q : Int) < (m : Int)) := by omega
          have HQ := Lib.hid hqm
          cases hv : okAt ks un q
          · rw [hv, Bool.false_or] at hst
            have HST := Lib.hid hst
            have HRB := Lib.hid hbr
            clear hst kR kb kz kbs K2 FIN F2 hH hqm hbr hv hq g0 g2
            generalize zth ks q = zq at *
            go_wp2
            go_quiet (fail)
            go_wp2
            go_roundw
            case rel => exact ⟨q + 1, by have := HQ.out; omega, by first | rfl | go_num, by rw [HST.out], below_drewN HRB.out _⟩
            case measure => have := HQ.out; simp [intOf]; omega
          · rw [hv, Bool.true_or] at hst
            have HST := Lib.hid hst
            have HRB := Lib.hid hbr
            clear hst kR kb kz kbs K2 FIN F2 hH hqm hbr hv hq g0 g2
            go_wp2
            go_quiet (fail)
            go_wp2
            go_roundw
            case rel => exact ⟨q + 1, by have := HQ.out; omega, by first | rfl | go_num, by rw [HST.out], below_drewN HRB.out _⟩
            case measure => have := HQ.out; simp [intOf]; omega
        · have hqe : q = m := by omega
          have HEND : okAt ks un q = (effK ks).contains un := by rw [hqe, ← hzl.out]; exact okAt_end ks un
          have t1 : decide ((q : Int) < (m : Int)) = false := by simpa using (show m ≤ q by omega)
          have t2 : ¬ ((q : Int) < (m : Int)) := by omega
          rw [HEND]
          clear HEND hqe hqm hq
          rename World => W3
          obtain ⟨⟨⟨f0, f1⟩, f2, f3⟩, f4, f5⟩ := F2.out _ kR (.int .i64 0) (.slice none 0 0)
          cases hct : (effK ks).contains un
          · rw [if_neg (by rw [hct]; simp)] at hH
            have FF := Lib.hid (FIN.out W3 0 none 0 0 x 4 kb kR (by rw [hH.out]) (by rw [hH.out, HX.out]) (by rw [hH.out]) (by rw [hH.out]; exact Bs.nil _ _) (Nat.le_refl _))
            clear K2 F2 FIN kz kbs kR kb
            go_wp2
            refine bodyPost_ret (v := .tuple #[.agg #[.int .i64 0, .slice none 0 0], .int .i64 x, .int .i64 4]) (by simp [results, Tryd.results27, go_sem, f4, f5]) rfl ?_
            exact FF.out
          · by_cases hcls : uc = 0
            · subst hcls
              have u1 : ((0 : Int) != 0) = false := by simp
              cases hum : um
              · subst hum
                rw [if_pos ⟨rfl, rfl, hct⟩] at hH
                have hln := hlen.out
                have hn1 := HN.out
                have hk1 := HY.out.2
                by_cases h3 : (l.length : Int) - k1 < yn
                · rw [if_pos h3] at hH
                  rw [hln] at h3
                  have h4 : decide ((n : Int) - k1 < yn) = true := by simpa using h3
                  have FF := Lib.hid (FIN.out W3 0 none 0 0 x 3 kb kR (by rw [hH.out]) (by rw [hH.out, HX.out]) (by rw [hH.out]) (by rw [hH.out]; exact Bs.nil _ _) (Nat.le_refl _))
                  clear K2 F2 FIN kz kbs kR kb
                  go_wp2
                  refine bodyPost_ret (v := .tuple #[.agg #[.int .i64 0, .slice none 0 0], .int .i64 x, .int .i64 3]) (by simp [results, Tryd.results27, go_sem, f4, f5]) rfl ?_
                  exact FF.out
                · rw [if_neg h3] at hH
                  rw [hln] at h3
                  have h4 : decide ((n : Int) - k1 < yn) = false := by simpa using h3
                  have hyn := HY.out
                  obtain ⟨A', hcut, hbc⟩ := cutK A n c k1 yn (by omega) HC.out
                  have hbs := hbc W3 l kbs
                  simp only [Int.natCast_add] at hcut
                  have HYC : Hid (yn ≤ c - k1 ∧ yn ≤ 1000000) := Lib.hid (by have := HC.out; have := HN.out; omega)
                  generalize (l.drop k1).take yn = b at *
                  have b5 := below_alloc1 W3 (.cells #[.int .i64 un, .slice A' yn (c - k1)] 24)
                  have hX := Blk.new2 W3 (.int .i64 un) (.slice A' yn (c - k1)) 24
                  have kR5 := Lib.hid (kR.below b5)
                  have kb5 := Lib.hid (Below.trans kb (Below.mono b5 (by have := kR.lt; omega)))
                  have hbs5 := Lib.hid (hbs.below b5)
                  have HSG : Hid (∀ W : World, Bs W A' yn b → Calls Tryd.prog 13 #[.agg #[.int .i64 un, .slice A' yn (c - k1)]] W (SgR un b W)) := Lib.hid (fun W hW => ref6Signs un A' yn (c - k1) b W hW HYC.out.2)
                  have h5 : (k1 : Int) + (yn : Int) ≤ 1000000 := by omega
                  have h7 : IntKind.i64.wrap ((k1 : Int) + (yn : Int)) = (k1 : Int) + (yn : Int) := wrap64_in (by omega)
                  have h8 : ((k1 : Int) + (yn : Int)).toNat = k1 + yn := by omega
                  have h9 : (k1 : Int) + (yn : Int) ≤ (c : Int) := by have := HC.out; omega
                  have h10 : 0 ≤ (k1 : Int) + (yn : Int) := by omega
                  have gA := (K2.out _ (Below.trans hbr (Below.mono (below_alloc1 W3 (.cells #[.int .i64 0, .slice none 0 0] 24)) hbr.size))).1.2.1
                  clear kR kb hbs hbc kz kbs b5 K2 hyn hbr hct f0 f1 f2 f3 f4 f5 hln
                  go_upto_region 13 with (fail)
                  go_region_with (fail)
                  all_goals
                    clear hcut gA h5 h7 h8 h9 h10 g0 g1 g2 t1 t2
                    generalize (W3.alloc (Obj.cells #[.int .i64 un, .slice A' yn (c - k1)] 24)) = W5 at *
                    generalize W3.heap.size = X at *
                    obtain ⟨x0, x1, _, _⟩ := hX.two
                    have HXB := Lib.hid hX
                    clear hX
                    cases hr : rightT un b
                    · rw [if_neg (by rw [hr]; simp)] at hH
                      have HHR := Lib.hid hr
                      clear hr
                      go_wp2_with fail
                      refine (HSG.out _ hbs5.out.drew).mono ?_
                      rintro e w6 ⟨_, hno, b6⟩
                      obtain rfl := hno HHR.out
                      have B6 : Below W5.heap.size W5 w6 := Below.trans (Below.drew (Below.refl _ _)) b6
                      have kR6 := kR5.out.below B6
                      obtain ⟨⟨⟨f0, f1⟩, f2, f3⟩, f4, f5⟩ := F2.out _ kR6 (.int .i64 0) (.slice none 0 0)
                      have FF := Lib.hid (FIN.out w6 0 none 0 0 x 6 (Below.trans kb5.out (Below.mono B6 (by have := kR5.out.lt; omega))) kR6 (by rw [hH.out]) (by rw [hH.out, HX.out]) (by rw [hH.out]) (by rw [hH.out]; exact Bs.nil _ _) (Nat.le_refl _))
                      clear kR6 B6 b6 hno x0 x1 HXB F2 FIN HSG hbs5 kR5 kb5
                      go_wp2
                      refine bodyPost_ret (v := .tuple #[.agg #[.int .i64 0, .slice none 0 0], .int .i64 x, .int .i64 6]) (by simp [results, Tryd.results27, go_sem, f4, f5]) rfl ?_
                      exact FF.out
                    · rw [if_pos hr] at hH
                      have HHR := Lib.hid hr
                      clear hr
                      go_wp2_with fail
                      refine (HSG.out _ hbs5.out.drew).mono ?_
                      rintro e w6 ⟨hyes, _, b6⟩
                      obtain ⟨v6, rfl, _⟩ := hyes HHR.out
                      have B6 : Below W5.heap.size W5 w6 := Below.trans (Below.drew (Below.refl _ _)) b6
                      have kR6 := kR5.out.below B6
                      clear x0 x1
                      obtain ⟨x0, x1, _, _⟩ := (HXB.out.below B6).two
                      obtain ⟨⟨⟨f0, f1⟩, f2, f3⟩, f4, f5⟩ := F2.out _ kR6 (.int .i64 un) (.slice A' yn (c - k1))
                      have FF := Lib.hid (FIN.out w6 un A' yn (c - k1) ((k1 : Int) + (yn : Int)) 0 (Below.trans kb5.out (Below.mono B6 (by have := kR5.out.lt; omega))) kR6 (by rw [hH.out]) (by rw [hH.out]; exact Int.natCast_add _ _) (by rw [hH.out]) (by rw [hH.out]; exact hbs5.out.below B6) HYC.out.1)
                      have h7 : (k1 : Int) + (yn : Int) ≤ 100000000 := by have := HYC.out; omega
                      clear kR6 B6 b6 hyes HXB F2 FIN HSG hbs5 kR5 kb5
                      go_wp2
                      refine bodyPost_ret (v := .tuple #[.agg #[.int .i64 un, .slice A' yn (c - k1)], .int .i64 ((k1 : Int) + (yn : Int)), .int .i64 0]) (by simp [results, Tryd.results27, go_sem, f4, f5]) rfl ?_
                      exact FF.out
              · subst hum
                rw [if_neg (by simp)] at hH
                have FF := Lib.hid (FIN.out W3 0 none 0 0 x 4 kb kR (by rw [hH.out]) (by rw [hH.out, HX.out]) (by rw [hH.out]) (by rw [hH.out]; exact Bs.nil _ _) (Nat.le_refl _))
                clear K2 F2 FIN kz kbs kR kb
                go_wp2
                refine bodyPost_ret (v := .tuple #[.agg #[.int .i64 0, .slice none 0 0], .int .i64 x, .int .i64 4]) (by simp [results, Tryd.results27, go_sem, f4, f5]) rfl ?_
                exact FF.out
            · have u1 : (uc != 0) = true := by simpa using hcls
              rw [if_neg (fun h => hcls h.1)] at hH
              have FF := Lib.hid (FIN.out W3 0 none 0 0 x 4 kb kR (by rw [hH.out]) (by rw [hH.out, HX.out]) (by rw [hH.out]) (by rw [hH.out]; exact Bs.nil _ _) (Nat.le_refl _))
              clear K2 F2 FIN kz kbs kR kb
              go_wp2
              refine bodyPost_ret (v := .tuple #[.agg #[.int .i64 0, .slice none 0 0], .int .i64 x, .int .i64 4]) (by simp [results, Tryd.results27, go_sem, f4, f5]) rfl ?_
              exact FF.out
    · have OK0 : okAt ks un 0 = false := by unfold okAt; rw [hzl.out]; simp [hm0]
      have m1 : ((m : Int) == 0) = false := by simpa using hm0
      have m2 : (m == 0) = false := by simpa using hm0
      have m3 : ¬ ((m : Int) = 0) := by omega
      clear kR kb kz kbs
      go_wp2
      clear m1 m2 m3 g0 g1 g2
      go_loopw [13, 14] (fun ok i wr => ∃ q : Nat, q ≤ m ∧ i = .int .i64 (q : Int) ∧ ok = .bool (okAt ks un q) ∧ Below W2.heap.size W2 wr) (fun _ i _ => m - (intOf i).toNat)
      case atStart => exact ⟨0, by omega, rfl, by rw [OK0], Below.refl _ _⟩
      case round =>
        obtain ⟨q, hq, rfl, rfl, hbr⟩ := hrel
        obtain ⟨⟨g0, g1, g2⟩, kR, kb, kz, kbs⟩ := K2.out _ hbr
        by_cases hqm : q < m
        · obtain ⟨bz, oz, rfl, hcell⟩ := kz.at_ hqm
          have hst := okAt_step ks un q (by rw [hzl.out]; exact hqm)
          have hm1 := HM.out
          have t1 : decide ((q : Int) < (m : Int)) = true := by simpa using hqm
          have t2 : ((q : Int) < (m : Int)) := by omega
          have HQ := Lib.hid hqm
          cases hv : okAt ks un q
          · rw [hv, Bool.false_or] at hst
            have HST := Lib.hid hst
            have HRB := Lib.hid hbr
            clear hst kR kb kz kbs K2 FIN F2 hH hqm hbr hv hq g0 g2
            generalize zth ks q = zq at *
            go_wp2
            go_quiet (fail)
            go_wp2
            go_roundw
            case rel => exact ⟨q + 1, by have := HQ.out; omega, by first | rfl | go_num, by rw [HST.out], below_drewN HRB.out _⟩
            case measure => have := HQ.out; simp [intOf]; omega
          · rw [hv, Bool.true_or] at hst
            have HST := Lib.hid hst
            have HRB := Lib.hid hbr
            clear hst kR kb kz kbs K2 FIN F2 hH hqm hbr hv hq g0 g2
            go_wp2
            go_quiet (fail)
            go_wp2
            go_roundw
            case rel => exact ⟨q + 1, by have := HQ.out; omega, by first | rfl | go_num, by rw [HST.out], below_drewN HRB.out _⟩
            case measure => have := HQ.out; simp [intOf]; omega
        · have hqe : q = m := by omega
          have HEND : okAt ks un q = (effK ks).contains un := by rw [hqe, ← hzl.out]; exact okAt_end ks un
          have t1 : decide ((q : Int) < (m : Int)) = false := by simpa using (show m ≤ q by omega)
          have t2 : ¬ ((q : Int) < (m : Int)) := by omega
          rw [HEND]
          clear HEND hqe hqm hq
          rename World => W3
          obtain ⟨⟨⟨f0, f1⟩, f2, f3⟩, f4, f5⟩ := F2.out _ kR (.int .i64 0) (.slice none 0 0)
          cases hct : (effK ks).contains un
          · rw [if_neg (by rw [hct]; simp)] at hH
            have FF := Lib.hid (FIN.out W3 0 none 0 0 x 4 kb kR (by rw [hH.out]) (by rw [hH.out, HX.out]) (by rw [hH.out]) (by rw [hH.out]; exact Bs.nil _ _) (Nat.le_refl _))
            clear K2 F2 FIN kz kbs kR kb
            go_wp2
            refine bodyPost_ret (v := .tuple #[.agg #[.int .i64 0, .slice none 0 0], .int .i64 x, .int .i64 4]) (by simp [results, Tryd.results27, go_sem, f4, f5]) rfl ?_
            exact FF.out
          · by_cases hcls : uc = 0
            · subst hcls
              have u1 : ((0 : Int) != 0) = false := by simp
              cases hum : um
              · subst hum
                rw [if_pos ⟨rfl, rfl, hct⟩] at hH
                have hln := hlen.out
                have hn1 := HN.out
                have hk1 := HY.out.2
                by_cases h3 : (l.length : Int) - k1 < yn
                · rw [if_pos h3] at hH
                  rw [hln] at h3
                  have h4 : decide ((n : Int) - k1 < yn) = true := by simpa using h3
                  have FF := Lib.hid (FIN.out W3 0 none 0 0 x 3 kb kR (by rw [hH.out]) (by rw [hH.out, HX.out]) (by rw [hH.out]) (by rw [hH.out]; exact Bs.nil _ _) (Nat.le_refl _))
                  clear K2 F2 FIN kz kbs kR kb
                  go_wp2
                  refine bodyPost_ret (v := .tuple #[.agg #[.int .i64 0, .slice none 0 0], .int .i64 x, .int .i64 3]) (by simp [results, Tryd.results27, go_sem, f4, f5]) rfl ?_
                  exact FF.out
                · rw [if_neg h3] at hH
                  rw [hln] at h3
                  have h4 : decide ((n : Int) - k1 < yn) = false := by simpa using h3
                  have hyn := HY.out
                  obtain ⟨A', hcut, hbc⟩ := cutK A n c k1 yn (by omega) HC.out
                  have hbs := hbc W3 l kbs
                  simp only [Int.natCast_add] at hcut
                  have HYC : Hid (yn ≤ c - k1 ∧ yn ≤ 1000000) := Lib.hid (by have := HC.out; have := HN.out; omega)
                  generalize (l.drop k1).take yn = b at *
                  have b5 := below_alloc1 W3 (.cells #[.int .i64 un, .slice A' yn (c - k1)] 24)
                  have hX := Blk.new2 W3 (.int .i64 un) (.slice A' yn (c - k1)) 24
                  have kR5 := Lib.hid (kR.below b5)
                  have kb5 := Lib.hid (Below.trans kb (Below.mono b5 (by have := kR.lt; omega)))
                  have hbs5 := Lib.hid (hbs.below b5)
                  have HSG : Hid (∀ W : World, Bs W A' yn b → Calls Tryd.prog 13 #[.agg #[.int .i64 un, .slice A' yn (c - k1)]] W (SgR un b W)) := Lib.hid (fun W hW => ref6Signs un A' yn (c - k1) b W hW HYC.out.2)
                  have h5 : (k1 : Int) + (yn : Int) ≤ 1000000 := by omega
                  have h7 : IntKind.i64.wrap ((k1 : Int) + (yn : Int)) = (k1 : Int) + (yn : Int) := wrap64_in (by omega)
                  have h8 : ((k1 : Int) + (yn : Int)).toNat = k1 + yn := by omega
                  have h9 : (k1 : Int) + (yn : Int) ≤ (c : Int) := by have := HC.out; omega
                  have h10 : 0 ≤ (k1 : Int) + (yn : Int) := by omega
                  have gA := (K2.out _ (Below.trans hbr (Below.mono (below_alloc1 W3 (.cells #[.int .i64 0, .slice none 0 0] 24)) hbr.size))).1.2.1
                  clear kR kb hbs hbc kz kbs b5 K2 hyn hbr hct f0 f1 f2 f3 f4 f5 hln
                  go_upto_region 13 with (fail)
                  go_region_with (fail)
                  all_goals
                    clear hcut gA h5 h7 h8 h9 h10 g0 g1 g2 t1 t2
                    generalize (W3.alloc (Obj.cells #[.int .i64 un, .slice A' yn (c - k1)] 24)) = W5 at *
                    generalize W3.heap.size = X at *
                    obtain ⟨x0, x1, _, _⟩ := hX.two
                    have HXB := Lib.hid hX
                    clear hX
                    cases hr : rightT un b
                    · rw [if_neg (by rw [hr]; simp)] at hH
                      have HHR := Lib.hid hr
                      clear hr
                      go_wp2_with fail
                      refine (HSG.out _ hbs5.out.drew).mono ?_
                      rintro e w6 ⟨_, hno, b6⟩
                      obtain rfl := hno HHR.out
                      have B6 : Below W5.heap.size W5 w6 := Below.trans (Below.drew (Below.refl _ _)) b6
                      have kR6 := kR5.out.below B6
                      obtain ⟨⟨⟨f0, f1⟩, f2, f3⟩, f4, f5⟩ := F2.out _ kR6 (.int .i64 0) (.slice none 0 0)
                      have FF := Lib.hid (FIN.out w6 0 none 0 0 x 6 (Below.trans kb5.out (Below.mono B6 (by have := kR5.out.lt; omega))) kR6 (by rw [hH.out]) (by rw [hH.out, HX.out]) (by rw [hH.out]) (by rw [hH.out]; exact Bs.nil _ _) (Nat.le_refl _))
                      clear kR6 B6 b6 hno x0 x1 HXB F2 FIN HSG hbs5 kR5 kb5
                      go_wp2
                      refine bodyPost_ret (v := .tuple #[.agg #[.int .i64 0, .slice none 0 0], .int .i64 x, .int .i64 6]) (by simp [results, Tryd.results27, go_sem, f4, f5]) rfl ?_
                      exact FF.out
                    · rw [if_pos hr] at hH
                      have HHR := Lib.hid hr
                      clear hr
                      go_wp2_with fail
                      refine (HSG.out _ hbs5.out.drew).mono ?_
                      rintro e w6 ⟨hyes, _, b6⟩
                      obtain ⟨v6, rfl, _⟩ := hyes HHR.out
                      have B6 : Below W5.heap.size W5 w6 := Below.trans (Below.drew (Below.refl _ _)) b6
                      have kR6 := kR5.out.below B6
                      clear x0 x1
                      obtain ⟨x0, x1, _, _⟩ := (HXB.out.below B6).two
                      obtain ⟨⟨⟨f0, f1⟩, f2, f3⟩, f4, f5⟩ := F2.out _ kR6 (.int .i64 un) (.slice A' yn (c - k1))
                      have FF := Lib.hid (FIN.out w6 un A' yn (c - k1) ((k1 : Int) + (yn : Int)) 0 (Below.trans kb5.out (Below.mono B6 (by have := kR5.out.lt; omega))) kR6 (by rw [hH.out]) (by rw [hH.out]; exact Int.natCast_add _ _) (by rw [hH.out]) (by rw [hH.out]; exact hbs5.out.below B6) HYC.out.1)
                      have h7 : (k1 : Int) + (yn : Int) ≤ 100000000 := by have := HYC.out; omega
                      clear kR6 B6 b6 hyes HXB F2 FIN HSG hbs5 kR5 kb5
                      go_wp2
                      refine bodyPost_ret (v := .tuple #[.agg #[.int .i64 un, .slice A' yn (c - k1)], .int .i64 ((k1 : Int) + (yn : Int)), .int .i64 0]) (by simp [results, Tryd.results27, go_sem, f4, f5]) rfl ?_
                      exact FF.out
              · subst hum
                rw [if_neg (by simp)] at hH
                have FF := Lib.hid (FIN.out W3 0 none 0 0 x 4 kb kR (by rw [hH.out]) (by rw [hH.out, HX.out]) (by rw [hH.out]) (by rw [hH.out]; exact Bs.nil _ _) (Nat.le_refl _))
                clear K2 F2 FIN kz kbs kR kb
                go_wp2
                refine bodyPost_ret (v := .tuple #[.agg #[.int .i64 0, .slice none 0 0], .int .i64 x, .int .i64 4]) (by simp [results, Tryd.results27, go_sem, f4, f5]) rfl ?_
                exact FF.out
            · have u1 : (uc != 0) = true := by simpa using hcls
              rw [if_neg (fun h => hcls h.1)] at hH
              have FF := Lib.hid (FIN.out W3 0 none 0 0 x 4 kb kR (by rw [hH.out]) (by rw [hH.out, HX.out]) (by rw [hH.out]) (by rw [hH.out]; exact Bs.nil _ _) (Nat.le_refl _))
              clear K2 F2 FIN kz kbs kR kb
              go_wp2
              refine bodyPost_ret (v := .tuple #[.agg #[.int .i64 0, .slice none 0 0], .int .i64 x, .int .i64 4]) (by simp [results, Tryd.results27, go_sem, f4, f5]) rfl ?_
              exact FF.out
  · have e2 : (e1 == 0) = false := by simpa using he
    have e3 : (e1 != 0) = true := by simpa using he
    rw [if_neg he] at hH
    obtain ⟨_, kR, kb, _, _⟩ := K2.out _ (Below.refl _ _)
    obtain ⟨⟨⟨f0, f1⟩, f2, f3⟩, f4, f5⟩ := F2.out _ kR (.int .i64 0) (.slice none 0 0)
    have FF := Lib.hid (FIN.out W2 0 none 0 0 x e1 kb kR (by rw [hH.out]) (by rw [hH.out, HX.out]) (by rw [hH.out]) (by rw [hH.out]; exact Bs.nil _ _) (Nat.le_refl _))
    clear K2 F2 FIN hok
    go_wp2
    refine bodyPost_ret (v := .tuple #[.agg #[.int .i64 0, .slice none 0 0], .int .i64 x, .int .i64 e1]) (by simp [results, Tryd.results27, go_sem, f4, f5]) rfl ?_
    exact FF.out
end Go.Proofs.YtoklonnajpjgjaaDoor
