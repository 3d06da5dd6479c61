/-
  The contracts of text: next.
-/
import Derived.Test.YtoklonnajpjgjaaDoorUa
import Derived.Deep.Cut
namespace Go.Proofs.YtoklonnajpjgjaaDoor
open Go.RowKit Go.Shelf
set_option linter.unusedVariables false
set_option linter.unusedSimpArgs false
set_option maxRecDepth 4000

set_option maxHeartbeats 3200000 in
theorem txNext (g p : Nat) (l : List UInt8) (ks : List Int) (K : Option Addr) (m d : Nat) (w : World) {s : Value} (h : Cur w g s l p) (hz : ∀ W, Only g w W → Zs W K m ks) (hm : m ≤ 1099511627776) (hT : Tb w) (hg : 2 < g) (hl : l.length ≤ 1099511) :
    Calls Tryd.prog 46 #[.pointer (some ⟨g, 0, none⟩), .slice K m d] w (RawT w g s l p ks) := by
  have hgl := Lib.hid h.lt
  have hok := rHead_ok l p
  have hge := Lib.hid (rHead_ge l p)
  have b0 := below_alloc1 w (.cells #[.int .i64 0, .slice none 0 0] 25)
  have hR := Blk.new2 w (.int .i64 0) (.slice none 0 0) 25
  have h0 := h.below b0
  have o0 : Only g w (w.alloc (.cells #[.int .i64 0, .slice none 0 0] 25)) := Only.of_below b0
  have HZ := Lib.hid hz
  have HT := Lib.hid hT
  have HM := Lib.hid hm
  have HL := Lib.hid hl
  have HG := Lib.hid hg
  have FIN : Hid (∀ (W : World) (u : Int) (A : Option Addr) (n c : Nat) (E : Int) (k' : Nat), Only g w W → Cur W g s l k' → Blk W w.heap.size 25 [.int .i64 0, .slice none 0 0] → p ≤ k' → (rdT l p ks).2.2 = E →
      (E = 0 → ∃ b, rdT l p ks = ((u, b), k', 0) ∧ Ob W w.heap.size 5 (.slice A n c) b) →
      RawT w g s l p ks (.returned (.tuple #[.agg #[.int .i64 u, .slice A n c], .int .i64 E])) ((W.setCell ⟨w.heap.size, 0, none⟩ (.int .i64 u)).setCell ⟨w.heap.size, 1, none⟩ (.slice A n c))) := Lib.hid (by
    intro W u A n c E k' ho hc hb hk he hE
    have oR := ((Only.refl w.heap.size W).setCell (p := ⟨w.heap.size, 0, none⟩) rfl (.int .i64 u)).setCell (p := ⟨w.heap.size, 1, none⟩) rfl (.slice A n c)
    have nb := hb.noByte (NoB.str 0 none 0 0)
    have hgl := hgl.out
    refine ⟨u, A, n, c, E, k', rfl, hc.only oR (by omega) nb, hk, Only.grown ho oR (by intro x hx; cases hx; omega), he, fun h0 => ?_⟩
    obtain ⟨b, hb1, hb2⟩ := hE h0
    exact ⟨b, hb1, hb2.put hb (by decide) _ _⟩)
  have hH : Hid (rdT l p ks = if (rHead l p).2.2.2 = 0 then
    (if (rHead l p).1.cls = 0 ∧ (rHead l p).1.made = false ∧ ks.contains (rHead l p).1.num = true then
      (if (l.length : Int) - (rHead l p).2.2.1 < (rHead l p).2.1 then ((0, []), p, 3)
       else (if rightT (rHead l p).1.num ((l.drop (rHead l p).2.2.1).take (rHead l p).2.1.toNat) = true then (((rHead l p).1.num, (l.drop (rHead l p).2.2.1).take (rHead l p).2.1.toNat), (rHead l p).2.2.1 + (rHead l p).2.1.toNat, 0)
         else ((0, []), p, 6)))
     else ((0, []), p, 4))
    else ((0, []), p, (rHead l p).2.2.2)) := Lib.hid rfl
  have hne : w.heap.size ≠ g := by have := hgl.out; omega
  have HNE := Lib.hid hne
  clear hz hT hm hl hg h hne
  go_enter Tryd.func46, Tryd.ntmps46
  go_upto_region 1 with (fail)
  generalize (w.alloc (Obj.cells #[.int .i64 0, .slice none 0 0] 25)) = W0 at *
  have RD := hdRead g p l W0 h0
  unfold HeadOk at RD
  generalize rHead l p = T at *
  obtain ⟨⟨uc, un, um⟩, y, k1, e1⟩ := T
  unfold Tg.v at RD
  simp only at hH hok hge RD
  go_wp2_with fail
  refine RD.mono ?_
  rintro e w1 ⟨rfl, c1, o1⟩
  have hR1 := hR.only o1 HNE.out
  have o1' := o0.trans o1
  have hT1 := Blk.new w1 [.int .i64 uc, .int .i64 un, .bool um] 79
  have b1 := below_alloc1 w1 (.cells #[.int .i64 uc, .int .i64 un, .bool um] 79)
  have c2 := c1.below b1
  have o2 := o1'.trans (Only.of_below b1)
  have hR2 := hR1.below b1
  have ht2 : Hid (w1.heap.size ≠ g ∧ w1.heap.size ≠ w.heap.size) := Lib.hid ⟨by have := c1.lt; omega, by have := hR1.lt; omega⟩
  have hk1 := Lib.hid c1.lt
  clear RD hR h0 o0 b0 o1 hR1 o1' c1
  go_upto_region 2 with (fail)
  generalize (w1.alloc (Obj.cells #[.int .i64 uc, .int .i64 un, .bool um] 79)) = W2 at *
  generalize w1.heap.size = G at *
  clear b1
  have K2 : Hid (∀ W : World, Only g W2 W → (W.cell? ⟨G, 0, none⟩ = some (.int .i64 uc) ∧ W.cell? ⟨G, 1, none⟩ = some (.int .i64 un) ∧ W.cell? ⟨G, 2, none⟩ = some (.bool um)) ∧ Blk W w.heap.size 25 [.int .i64 0, .slice none 0 0] ∧ Only g w W ∧ Zs W K m ks ∧ Tb W) := Lib.hid (fun W hW => ⟨⟨(hT1.only hW ht2.out.1).cell 0, (hT1.only hW ht2.out.1).cell 1, (hT1.only hW ht2.out.1).cell 2⟩, hR2.only hW HNE.out, o2.trans hW, HZ.out _ (o2.trans hW), HT.out.only HG.out (o2.trans hW)⟩)
  have F2 : Hid (∀ (W : World), Blk W w.heap.size 25 [.int .i64 0, .slice none 0 0] → ∀ (x y : Value), ((W.cell? ⟨w.heap.size, 0, none⟩ = some (.int .i64 0) ∧ W.cell? ⟨w.heap.size, 1, none⟩ = some (.slice none 0 0)) ∧ W.frozen? ⟨w.heap.size, 0, none⟩ = false ∧ W.frozen? ⟨w.heap.size, 1, none⟩ = false) ∧ ((W.setCell ⟨w.heap.size, 0, none⟩ x).setCell ⟨w.heap.size, 1, none⟩ y).cell? ⟨w.heap.size, 0, none⟩ = some x ∧ ((W.setCell ⟨w.heap.size, 0, none⟩ x).setCell ⟨w.heap.size, 1, none⟩ y).cell? ⟨w.heap.size, 1, none⟩ = some y) := Lib.hid (fun W hW x y => ⟨⟨⟨hW.two.1, hW.two.2.1⟩, hW.two.2.2.1, hW.two.2.2.2⟩, (hW.put x y).two.1, (hW.put x y).two.2.1⟩)
  have HS : Hid (w.heap.size ≤ W2.heap.size) := Lib.hid (by have := hR2.lt; omega)
  clear hT1 hR2 o2 ht2 hgl HT
  generalize w.heap.size = R at *
  by_cases he : e1 = 0
  · subst he
    rw [if_pos rfl] at hH
    have hok := hok rfl
    obtain ⟨hy0, hy1, hk2⟩ := hok
    obtain ⟨yn, rfl⟩ : ∃ yn : Nat, y = yn := ⟨y.toNat, by omega⟩
    simp only [Int.toNat_natCast] at hH
    have HY := Lib.hid (show yn ≤ 16777216 ∧ k1 ≤ l.length by omega)
    clear hy0 hy1 hk2
    obtain ⟨⟨g0, g1, g2⟩, kR, ko, kz, kT⟩ := K2.out _ (Only.refl _ _)
    obtain ⟨⟨⟨f0, f1⟩, f2, f3⟩, f4, f5⟩ := F2.out _ kR (.int .i64 0) (.slice none 0 0)
    by_cases hcls : uc = 0
    · subst hcls
      have u1 : ((0 : Int) != 0) = false := by simp
      cases hum : um
      · subst hum
        have CT := slContains K m d ks un W2 kz HM.out
        cases hct : ks.contains un
        · rw [hct] at CT
          rw [if_neg (by rw [hct]; simp)] at hH
          have FF := Lib.hid (FIN.out W2 0 none 0 0 4 k1 ko c2 kR hge.out (by rw [hH.out]) (fun h => by omega))
          clear c2 K2 F2 FIN kz kT kR ko
          go_wp2_with fail
          refine CT.mono ?_
          rintro e w3 ⟨rfl, rfl⟩
          go_wp2
          refine bodyPost_ret (v := .tuple #[.agg #[.int .i64 0, .slice none 0 0], .int .i64 4]) (by simp [results, Tryd.results46, go_sem, f4, f5]) rfl ?_
          exact FF.out
        · rw [hct] at CT
          rw [if_pos ⟨rfl, rfl, hct⟩] at hH
          by_cases h3 : (l.length : Int) - k1 < yn
          · rw [if_pos h3] at hH
            have TK := curTakeNo g k1 (yn : Int) l W2 c2 (.inr h3)
            rw [if_neg (by omega)] at TK
            have FF : Hid (∀ W, Qt W2 W → RawT w g s l p ks (.returned (.tuple #[.agg #[.int .i64 0, .slice none 0 0], .int .i64 3])) ((W.setCell ⟨R, 0, none⟩ (.int .i64 0)).setCell ⟨R, 1, none⟩ (.slice none 0 0))) := Lib.hid (fun W hW => FIN.out W 0 none 0 0 3 k1 (ko.trans (Only.of_qt hW)) (c2.qt hW) (kR.below hW.below) hge.out (by rw [hH.out]) (fun h => by omega))
            have HB := Lib.hid kR
            clear c2 K2 FIN kz kT kR ko h3
            go_wp2_with fail
            refine CT.mono ?_
            rintro e w3 ⟨rfl, rfl⟩
            go_wp2_with fail
            refine TK.mono ?_
            rintro e w4 ⟨rfl, q4⟩
            clear f0 f1 f2 f3 f4 f5 g0 g1 g2 CT TK
            obtain ⟨⟨⟨f0, f1⟩, f2, f3⟩, f4, f5⟩ := F2.out _ (HB.out.below q4.below) (.int .i64 0) (.slice none 0 0)
            have FG := Lib.hid (FF.out _ q4)
            clear F2 HB FF q4
            go_wp2
            refine bodyPost_ret (v := .tuple #[.agg #[.int .i64 0, .slice none 0 0], .int .i64 3]) (by simp [results, Tryd.results46, go_sem, f4, f5]) rfl ?_
            exact FG.out
          · rw [if_neg h3] at hH
            have TK := curTake g k1 yn (yn : Int) l W2 c2 (by omega) rfl
            unfold TakeOk at TK
            have hbl : ((l.drop k1).take yn).length ≤ 1099511 := by have := HL.out; simp; omega
            generalize (l.drop k1).take yn = b at *
            clear kz kT kR ko h3 c2
            go_wp2_with fail
            refine CT.mono ?_
            rintro e w3 ⟨rfl, rfl⟩
            go_wp2_with fail
            refine TK.mono ?_
            rintro e w4 ⟨Ab, nb, cb, rfl, ob4, c4, o4⟩
            clear f0 f1 f2 f3 f4 f5 g0 g1 g2 CT TK
            obtain ⟨⟨g0, g1, g2⟩, kR, ko, kz, kT⟩ := K2.out _ o4
            have b5 := below_alloc1 w4 (.cells #[.int .i64 un, .slice Ab nb cb] 25)
            have hX := Blk.new2 w4 (.int .i64 un) (.slice Ab nb cb) 25
            have kR5 := kR.below b5
            have ko5 := ko.trans (Only.of_below b5)
            have kT5 := kT.below b5
            have c5 := c4.below b5
            have ob5 := (ob4.below b5).mono (base' := R) (by have := HS.out; omega)
            have hbs5 := ob5.bs
            have hnb : nb ≤ 1099511 := by have := hbs5.1.len; omega
            clear kz kR kT ko c4 ob4 o4 b5 K2
            go_upto_region 10 with (fail)
            generalize (w4.alloc (Obj.cells #[.int .i64 un, .slice Ab nb cb] 25)) = W5 at *
            generalize w4.heap.size = X at *
            have RT := txRight un Ab nb cb b W5 kT5 hbs5.1 hnb hbs5.2
            obtain ⟨x0, x1, _, _⟩ := hX.two
            cases hr : rightT un b
            · rw [hr] at RT
              rw [if_neg (by rw [hr]; simp)] at hH
              clear hbs5 hnb ob5 kT5
              go_wp2_with fail
              refine RT.mono ?_
              rintro e w6 ⟨rfl, b6⟩
              have kR6 := kR5.below b6
              obtain ⟨⟨⟨f0, f1⟩, f2, f3⟩, f4, f5⟩ := F2.out _ kR6 (.int .i64 0) (.slice none 0 0)
              have FF := Lib.hid (FIN.out w6 0 none 0 0 6 (k1 + yn) (ko5.trans (Only.of_below b6)) (c5.below b6) kR6 (by have := hge.out; omega) (by rw [hH.out]) (fun h => by omega))
              clear RT kR6 kR5 ko5 c5 b6 hX x0 x1 F2 FIN
              go_wp2
              refine bodyPost_ret (v := .tuple #[.agg #[.int .i64 0, .slice none 0 0], .int .i64 6]) (by simp [results, Tryd.results46, go_sem, f4, f5]) rfl ?_
              exact FF.out
            · rw [hr] at RT
              rw [if_pos hr] at hH
              clear hbs5 hnb kT5
              go_wp2_with fail
              refine RT.mono ?_
              rintro e w6 ⟨rfl, b6⟩
              have kR6 := kR5.below b6
              obtain ⟨⟨⟨f0, f1⟩, f2, f3⟩, f4, f5⟩ := F2.out _ kR6 (.int .i64 un) (.slice Ab nb cb)
              have FF := Lib.hid (FIN.out w6 un Ab nb cb 0 (k1 + yn) (ko5.trans (Only.of_below b6)) (c5.below b6) kR6 (by have := hge.out; omega) (by rw [hH.out]) (fun h => ⟨b, by rw [hH.out], ob5.below b6⟩))
              clear x0 x1
              obtain ⟨x0, x1, _, _⟩ := (hX.below b6).two
              clear RT kR6 kR5 ko5 c5 b6 hX F2 FIN ob5
              go_wp2
              refine bodyPost_ret (v := .tuple #[.agg #[.int .i64 un, .slice Ab nb cb], .int .i64 0]) (by simp [results, Tryd.results46, go_sem, f4, f5]) rfl ?_
              exact FF.out
      · subst hum
        rw [if_neg (by simp)] at hH
        have FF := Lib.hid (FIN.out W2 0 none 0 0 4 k1 ko c2 kR hge.out (by rw [hH.out]) (fun h => by omega))
        clear c2 K2 F2 FIN kz kT kR ko
        go_wp2
        refine bodyPost_ret (v := .tuple #[.agg #[.int .i64 0, .slice none 0 0], .int .i64 4]) (by simp [results, Tryd.results46, go_sem, f4, f5]) rfl ?_
        exact FF.out
    · have u1 : (uc != 0) = true := by simpa using hcls
      rw [if_neg (fun h => hcls h.1)] at hH
      have FF := Lib.hid (FIN.out W2 0 none 0 0 4 k1 ko c2 kR hge.out (by rw [hH.out]) (fun h => by omega))
      clear c2 K2 F2 FIN kz kT kR ko
      go_wp2
      refine bodyPost_ret (v := .tuple #[.agg #[.int .i64 0, .slice none 0 0], .int .i64 4]) (by simp [results, Tryd.results46, go_sem, f4, f5]) rfl ?_
      exact FF.out
  · have e2 : (e1 == 0) = false := by simpa using he
    have e3 : (e1 != 0) = true := by simpa using he
    rw [if_neg he] at hH
    obtain ⟨_, kR, ko, _, _⟩ := K2.out _ (Only.refl _ _)
    obtain ⟨⟨⟨f0, f1⟩, f2, f3⟩, f4, f5⟩ := F2.out _ kR (.int .i64 0) (.slice none 0 0)
    have FF := Lib.hid (FIN.out W2 0 none 0 0 e1 k1 ko c2 kR hge.out (by rw [hH.out]) (fun h => absurd h he))
    clear c2 K2 F2 FIN hok
    go_wp2
    refine bodyPost_ret (v := .tuple #[.agg #[.int .i64 0, .slice none 0 0], .int .i64 e1]) (by simp [results, Tryd.results46, go_sem, f4, f5]) rfl ?_
    exact FF.out
end Go.Proofs.YtoklonnajpjgjaaDoor
