/-
  The contracts of text: Read.
-/
import Derived.Test.YtoklonnajpjgjaaDoorUb
namespace Go.Proofs.YtoklonnajpjgjaaDoor
open Go.RowKit Go.Shelf
set_option linter.unusedVariables false
set_option linter.unusedSimpArgs false
set_option maxRecDepth 4000

set_option maxHeartbeats 3200000 in
theorem txReadSome (g p : Nat) (l : List UInt8) (ks : List Int) (K : Option Addr) (m d : Nat) (w : World) {s : Value} (h : Cur w g s l p) (hz : ∀ W, Only g w W → Zs W K m ks) (hm : m ≤ 1099511627776) (hT : Tb w) (hg : 2 < g) (hl : l.length ≤ 1099511) (h0 : m ≠ 0) :
    Calls Tryd.prog 25 #[.pointer (some ⟨g, 0, none⟩), .slice K m d] w (ReadT w g s l p ks) := by
  have hgl := Lib.hid h.lt
  have b0 := below_alloc1 w (.cells #[.int .i64 0, .slice none 0 0] 25)
  have hR := Blk.new2 w (.int .i64 0) (.slice none 0 0) 25
  have c0 := h.below b0
  have o0 : Only g w (w.alloc (.cells #[.int .i64 0, .slice none 0 0] 25)) := Only.of_below b0
  have HZ := Lib.hid hz
  have HT := Lib.hid hT
  have HM := Lib.hid hm
  have HL := Lib.hid hl
  have HG := Lib.hid hg
  have HNE : Hid (w.heap.size ≠ g) := Lib.hid (by have := hgl.out; omega)
  have hm0 := (hz w (Only.refl _ _)).len
  have FIN : Hid (∀ (W : World) (u : Int) (A : Option Addr) (n c : Nat) (E : Int), Only g w W → Cur W g s l (rdT l p ks).2.1 → Blk W w.heap.size 25 [.int .i64 0, .slice none 0 0] → (rdT l p ks).1.1 = u → (rdT l p ks).2.2 = E → Ob W w.heap.size 5 (.slice A n c) (rdT l p ks).1.2 →
      ReadT w g s l p ks (.returned (.tuple #[.agg #[.int .i64 u, .slice A n c], .int .i64 E])) ((W.setCell ⟨w.heap.size, 0, none⟩ (.int .i64 u)).setCell ⟨w.heap.size, 1, none⟩ (.slice A n c))) := Lib.hid (by
    intro W u A n c E ho hc hb hu he hob
    have oR := ((Only.refl w.heap.size W).setCell (p := ⟨w.heap.size, 0, none⟩) rfl (.int .i64 u)).setCell (p := ⟨w.heap.size, 1, none⟩) rfl (.slice A n c)
    have nb := hb.noByte (NoB.str 0 none 0 0)
    have hgl := hgl.out
    subst hu he
    exact ⟨A, n, c, rfl, hob.put hb (by decide) _ _, hc.only oR (by omega) nb, Only.grown ho oR (by intro x hx; cases hx; omega)⟩)
  have hno := Lib.hid (rdT_no l p ks)
  have F2 : Hid (∀ (W : World), Blk W w.heap.size 25 [.int .i64 0, .slice none 0 0] → ∀ (x y : Value), ((W.cell? ⟨w.heap.size, 0, none⟩ = some (.int .i64 0) ∧ W.cell? ⟨w.heap.size, 1, none⟩ = some (.slice none 0 0)) ∧ W.frozen? ⟨w.heap.size, 0, none⟩ = false ∧ W.frozen? ⟨w.heap.size, 1, none⟩ = false) ∧ ((W.setCell ⟨w.heap.size, 0, none⟩ x).setCell ⟨w.heap.size, 1, none⟩ y).cell? ⟨w.heap.size, 0, none⟩ = some x ∧ ((W.setCell ⟨w.heap.size, 0, none⟩ x).setCell ⟨w.heap.size, 1, none⟩ y).cell? ⟨w.heap.size, 1, none⟩ = some y) := Lib.hid (fun W hW x y => ⟨⟨⟨hW.two.1, hW.two.2.1⟩, hW.two.2.2.1, hW.two.2.2.2⟩, (hW.put x y).two.1, (hW.put x y).two.2.1⟩)
  have m1 : ((m : Int) == 0) = false := by simpa using h0
  have m2 : (m == 0) = false := by simpa using h0
  have m3 : ¬ ((m : Int) = 0) := by omega
  have m4 := h0
  clear hz hT hm hl hg h hm0 h0
  go_enter Tryd.func25, Tryd.ntmps25
  go_upto_region 3 with (fail)
  generalize (w.alloc (Obj.cells #[.int .i64 0, .slice none 0 0] 25)) = W1 at *
  have NX : Hid (Calls Tryd.prog 46 #[.pointer (some ⟨g, 0, none⟩), .slice K m d] W1 (RawT W1 g s l p ks)) := Lib.hid (txNext g p l ks K m d W1 c0 (fun W hW => HZ.out W (o0.trans hW)) HM.out (HT.out.only HG.out o0) HG.out HL.out)
  have c1 := c0
  have hR1 := hR
  have o1 := o0
  have HS : Hid (w.heap.size ≤ W1.heap.size) := Lib.hid b0.size
  clear c0 hR o0 b0 m1 m2 m3 m4
  go_wp2_with fail
  refine (curAt g p l W1 c1).mono ?_
  rintro e w2 ⟨rfl, hw2⟩
  subst hw2
  go_wp2_with fail
  refine NX.out.mono ?_
  rintro e w3 ⟨u, A, n, c, E, k', rfl, c3, hk, o3, hE, hOk⟩
  have HK := Lib.hid hk
  have HE := Lib.hid hE
  have HO := Lib.hid hOk
  have hR3 := hR1.only o3 HNE.out
  have o3' := o1.trans o3
  have b4 := below_alloc1 w3 (.cells #[.int .i64 u, .slice A n c] 25)
  have hX := Blk.new2 w3 (.int .i64 u) (.slice A n c) 25
  have hR4 := hR3.below b4
  have o4 := o3'.trans (Only.of_below b4)
  have c4 := c3.below b4
  have hXne : Hid (w3.heap.size ≠ g) := Lib.hid (by have := c3.lt; omega)
  have HO4 : Hid (E = 0 → ∃ b, rdT l p ks = ((u, b), k', 0) ∧ Ob (w3.alloc (.cells #[.int .i64 u, .slice A n c] 25)) w.heap.size 5 (.slice A n c) b) := Lib.hid (fun h => by
    obtain ⟨b, h1, h2⟩ := HO.out h
    exact ⟨b, h1, (h2.below b4).mono HS.out⟩)
  clear hk hE hOk NX hR1 c1 o1 c3 o3 hR3 o3' b4 HO
  go_upto_region 5 with (fail)
  generalize (w3.alloc (Obj.cells #[.int .i64 u, .slice A n c] 25)) = W4 at *
  generalize w3.heap.size = X at *
  have HX := Lib.hid hX
  have HR := Lib.hid hR4
  have HC := Lib.hid c4
  have HOn := Lib.hid o4
  clear hX hR4 c4 o4
  by_cases he : E = 0
  · subst he
    obtain ⟨b, hb1, hb2⟩ := HO4.out rfl
    obtain ⟨x0, x1, _, _⟩ := HX.out.two
    obtain ⟨⟨⟨f0, f1⟩, f2, f3⟩, f4, f5⟩ := F2.out _ HR.out (.int .i64 u) (.slice A n c)
    have FF := Lib.hid (FIN.out W4 u A n c 0 HOn.out (by rw [hb1]; exact HC.out) HR.out (by rw [hb1]) (by rw [hb1]) (by rw [hb1]; exact hb2))
    clear hb1 hb2 HO4 HX HR HC HOn FIN F2 hno HE HK HZ HT HM HL HG HNE HS
    go_wp2
    refine bodyPost_ret (v := .tuple #[.agg #[.int .i64 u, .slice A n c], .int .i64 0]) (by simp [results, Tryd.results25, go_sem, f4, f5]) rfl ?_
    exact FF.out
  · have e2 : (E == 0) = false := by simpa using he
    have e3 : (E != 0) = true := by simpa using he
    have BK := Lib.hid (curBack g k' p (p : Int) l W4 HC.out HK.out rfl)
    have hHe := Lib.hid he
    clear he HO4
    go_wp2_with fail
    refine BK.out.mono ?_
    rintro e w5 ⟨rfl, c5, o5⟩
    have hR5 := HR.out.only o5 HNE.out
    obtain ⟨⟨⟨f0, f1⟩, f2, f3⟩, f4, f5⟩ := F2.out _ hR5 (.int .i64 0) (.slice none 0 0)
    have hN := hno.out (by rw [HE.out]; exact hHe.out)
    have FF := Lib.hid (FIN.out w5 0 none 0 0 E (HOn.out.trans o5) (by rw [hN]; exact c5) hR5 (by rw [hN]) HE.out (by rw [hN]; exact Ob.nil _ _ _))
    clear BK hN c5 o5 hR5 HX HR HC HOn FIN F2 hno HE HK HZ HT HM HL HG HNE HS
    go_wp2
    refine bodyPost_ret (v := .tuple #[.agg #[.int .i64 0, .slice none 0 0], .int .i64 E]) (by simp [results, Tryd.results25, go_sem, f4, f5]) rfl ?_
    exact FF.out

set_option maxHeartbeats 3200000 in
theorem txReadNone (g p : Nat) (l : List UInt8) (ks : List Int) (K : Option Addr) (m d : Nat) (w : World) {s : Value} (h : Cur w g s l p) (hz : ∀ W, Only g w W → Zs W K m ks) (hm : m ≤ 1099511627776) (hT : Tb w) (hg : 2 < g) (hl : l.length ≤ 1099511) (h0 : m = 0) :
    Calls Tryd.prog 25 #[.pointer (some ⟨g, 0, none⟩), .slice K m d] w (ReadT w g s l p (effK [])) := by
  have hgl := Lib.hid h.lt
  have b0 := below_alloc1 w (.cells #[.int .i64 0, .slice none 0 0] 25)
  have hR := Blk.new2 w (.int .i64 0) (.slice none 0 0) 25
  have c0 := h.below b0
  have o0 : Only g w (w.alloc (.cells #[.int .i64 0, .slice none 0 0] 25)) := Only.of_below b0
  have HZ := Lib.hid hz
  have HT := Lib.hid hT
  have HM := Lib.hid hm
  have HL := Lib.hid hl
  have HG := Lib.hid hg
  have HNE : Hid (w.heap.size ≠ g) := Lib.hid (by have := hgl.out; omega)
  have hm0 := (hz w (Only.refl _ _)).len
  have FIN : Hid (∀ (W : World) (u : Int) (A : Option Addr) (n c : Nat) (E : Int), Only g w W → Cur W g s l (rdT l p (effK [])).2.1 → Blk W w.heap.size 25 [.int .i64 0, .slice none 0 0] → (rdT l p (effK [])).1.1 = u → (rdT l p (effK [])).2.2 = E → Ob W w.heap.size 5 (.slice A n c) (rdT l p (effK [])).1.2 →
      ReadT w g s l p (effK []) (.returned (.tuple #[.agg #[.int .i64 u, .slice A n c], .int .i64 E])) ((W.setCell ⟨w.heap.size, 0, none⟩ (.int .i64 u)).setCell ⟨w.heap.size, 1, none⟩ (.slice A n c))) := Lib.hid (by
    intro W u A n c E ho hc hb hu he hob
    have oR := ((Only.refl w.heap.size W).setCell (p := ⟨w.heap.size, 0, none⟩) rfl (.int .i64 u)).setCell (p := ⟨w.heap.size, 1, none⟩) rfl (.slice A n c)
    have nb := hb.noByte (NoB.str 0 none 0 0)
    have hgl := hgl.out
    subst hu he
    exact ⟨A, n, c, rfl, hob.put hb (by decide) _ _, hc.only oR (by omega) nb, Only.grown ho oR (by intro x hx; cases hx; omega)⟩)
  have hno := Lib.hid (rdT_no l p (effK []))
  have F2 : Hid (∀ (W : World), Blk W w.heap.size 25 [.int .i64 0, .slice none 0 0] → ∀ (x y : Value), ((W.cell? ⟨w.heap.size, 0, none⟩ = some (.int .i64 0) ∧ W.cell? ⟨w.heap.size, 1, none⟩ = some (.slice none 0 0)) ∧ W.frozen? ⟨w.heap.size, 0, none⟩ = false ∧ W.frozen? ⟨w.heap.size, 1, none⟩ = false) ∧ ((W.setCell ⟨w.heap.size, 0, none⟩ x).setCell ⟨w.heap.size, 1, none⟩ y).cell? ⟨w.heap.size, 0, none⟩ = some x ∧ ((W.setCell ⟨w.heap.size, 0, none⟩ x).setCell ⟨w.heap.size, 1, none⟩ y).cell? ⟨w.heap.size, 1, none⟩ = some y) := Lib.hid (fun W hW x y => ⟨⟨⟨hW.two.1, hW.two.2.1⟩, hW.two.2.2.1, hW.two.2.2.2⟩, (hW.put x y).two.1, (hW.put x y).two.2.1⟩)
  subst h0
  clear hz hT hm hl hg h hm0
  go_enter Tryd.func25, Tryd.ntmps25
  go_upto_region 2 with (fail)
  generalize (w.alloc (Obj.cells #[.int .i64 0, .slice none 0 0] 25)) = W0 at *
  go_wp2_with fail
  refine (txKinds W0).mono ?_
  rintro e W1 ⟨rfl, kz, bk⟩
  have c1 := c0.below bk
  have hR1 := hR.below bk
  have o1 := o0.trans (Only.of_below bk)
  have hKne : W0.heap.size ≠ g := by have := c0.lt; omega
  have NX : Hid (Calls Tryd.prog 46 #[.pointer (some ⟨g, 0, none⟩), .slice (some ⟨W0.heap.size, 0, none⟩) 6 6] W1 (RawT W1 g s l p (effK []))) := Lib.hid (txNext g p l (effK []) _ 6 6 W1 c1 (fun W hW => Zs.onlyNe kz hW hKne) (by omega) (HT.out.only HG.out o1) HG.out HL.out)
  have HS : Hid (w.heap.size ≤ W1.heap.size) := Lib.hid (by have := b0.size; have := bk.size; omega)
  clear c0 hR o0 b0 bk kz hKne
  generalize W0.heap.size = Kb at *
  go_wp2_with fail
  refine (curAt g p l W1 c1).mono ?_
  rintro e w2 ⟨rfl, hw2⟩
  subst hw2
  go_wp2_with fail
  refine NX.out.mono ?_
  rintro e w3 ⟨u, A, n, c, E, k', rfl, c3, hk, o3, hE, hOk⟩
  have HK := Lib.hid hk
  have HE := Lib.hid hE
  have HO := Lib.hid hOk
  have hR3 := hR1.only o3 HNE.out
  have o3' := o1.trans o3
  have b4 := below_alloc1 w3 (.cells #[.int .i64 u, .slice A n c] 25)
  have hX := Blk.new2 w3 (.int .i64 u) (.slice A n c) 25
  have hR4 := hR3.below b4
  have o4 := o3'.trans (Only.of_below b4)
  have c4 := c3.below b4
  have hXne : Hid (w3.heap.size ≠ g) := Lib.hid (by have := c3.lt; omega)
  have HO4 : Hid (E = 0 → ∃ b, rdT l p (effK []) = ((u, b), k', 0) ∧ Ob (w3.alloc (.cells #[.int .i64 u, .slice A n c] 25)) w.heap.size 5 (.slice A n c) b) := Lib.hid (fun h => by
    obtain ⟨b, h1, h2⟩ := HO.out h
    exact ⟨b, h1, (h2.below b4).mono HS.out⟩)
  clear hk hE hOk NX hR1 c1 o1 c3 o3 hR3 o3' b4 HO
  go_upto_region 5 with (fail)
  generalize (w3.alloc (Obj.cells #[.int .i64 u, .slice A n c] 25)) = W4 at *
  generalize w3.heap.size = X at *
  have HX := Lib.hid hX
  have HR := Lib.hid hR4
  have HC := Lib.hid c4
  have HOn := Lib.hid o4
  clear hX hR4 c4 o4
  by_cases he : E = 0
  · subst he
    obtain ⟨b, hb1, hb2⟩ := HO4.out rfl
    obtain ⟨x0, x1, _, _⟩ := HX.out.two
    obtain ⟨⟨⟨f0, f1⟩, f2, f3⟩, f4, f5⟩ := F2.out _ HR.out (.int .i64 u) (.slice A n c)
    have FF := Lib.hid (FIN.out W4 u A n c 0 HOn.out (by rw [hb1]; exact HC.out) HR.out (by rw [hb1]) (by rw [hb1]) (by rw [hb1]; exact hb2))
    clear hb1 hb2 HO4 HX HR HC HOn FIN F2 hno HE HK HZ HT HM HL HG HNE HS
    go_wp2
    refine bodyPost_ret (v := .tuple #[.agg #[.int .i64 u, .slice A n c], .int .i64 0]) (by simp [results, Tryd.results25, go_sem, f4, f5]) rfl ?_
    exact FF.out
  · have e2 : (E == 0) = false := by simpa using he
    have e3 : (E != 0) = true := by simpa using he
    have BK := Lib.hid (curBack g k' p (p : Int) l W4 HC.out HK.out rfl)
    have hHe := Lib.hid he
    clear he HO4
    go_wp2_with fail
    refine BK.out.mono ?_
    rintro e w5 ⟨rfl, c5, o5⟩
    have hR5 := HR.out.only o5 HNE.out
    obtain ⟨⟨⟨f0, f1⟩, f2, f3⟩, f4, f5⟩ := F2.out _ hR5 (.int .i64 0) (.slice none 0 0)
    have hN := hno.out (by rw [HE.out]; exact hHe.out)
    have FF := Lib.hid (FIN.out w5 0 none 0 0 E (HOn.out.trans o5) (by rw [hN]; exact c5) hR5 (by rw [hN]) HE.out (by rw [hN]; exact Ob.nil _ _ _))
    clear BK hN c5 o5 hR5 HX HR HC HOn FIN F2 hno HE HK HZ HT HM HL HG HNE HS
    go_wp2
    refine bodyPost_ret (v := .tuple #[.agg #[.int .i64 0, .slice none 0 0], .int .i64 E]) (by simp [results, Tryd.results25, go_sem, f4, f5]) rfl ?_
    exact FF.out

theorem txRead (g p : Nat) (l : List UInt8) (ks : List Int) (K : Option Addr) (m d : Nat) (w : World) {s : Value} (h : Cur w g s l p) (hz : ∀ W, Only g w W → Zs W K m ks) (hm : m ≤ 1099511627776) (hT : Tb w) (hg : 2 < g) (hl : l.length ≤ 1099511) :
    Calls Tryd.prog 25 #[.pointer (some ⟨g, 0, none⟩), .slice K m d] w (ReadT w g s l p (effK ks)) := by
  have hm0 := (hz w (Only.refl _ _)).len
  by_cases h0 : m = 0
  · have : ks = [] := List.eq_nil_of_length_eq_zero (by omega)
    subst this
    exact txReadNone g p l [] K m d w h hz hm hT hg hl h0
  · have : effK ks = ks := by unfold effK; rw [if_neg (by omega)]
    rw [this]
    exact txReadSome g p l ks K m d w h hz hm hT hg hl h0
end Go.Proofs.YtoklonnajpjgjaaDoor
