/-
  The law TextBack: there and back.
-/
import Derived.Test.YtoklonnajpjgjaaDoorUc
import Derived.Test.YtoklonnajpjgjaaDoorTr
import Derived.Test.YtoklonnajpjgjaaDoorTv
import Derived.Test.YtoklonnajpjgjaaDoorTj
import Derived.Test.YtoklonnajpjgjaaDoorBackB
import Derived.Deep.RegionHeld3
namespace Go.Proofs.YtoklonnajpjgjaaDoor
open Go.RowKit Go.Shelf
set_option linter.unusedVariables false
set_option linter.unusedSimpArgs false
set_option maxRecDepth 4000

theorem below_sf {a b c : World} (h : Below a.heap.size a b) (k : Below b.heap.size b c) : Below a.heap.size a c := h.trans (Below.mono k h.size)
theorem rdT_back (k : Int) (l : List UInt8) (hr : rightT k l = true) (hl : l.length ≤ 16777216) : rdT (wrapB (tg6 k) l) 0 (effK []) = ((k, l), (wrapB (tg6 k) l).length, 0) := by
  have hk : isK k = true := by unfold rightT at hr; simp only [Bool.and_eq_true] at hr; exact hr.1
  have hR : (tg6 k).right := by rcases isK_cases hk with rfl | rfl | rfl | rfl | rfl | rfl <;> (unfold Tg.right tg6; simp)
  have h1 := rHead_wrapB [] [] l (tg6 k) hR hl
  simp only [List.nil_append, List.append_nil, List.length_nil, Nat.zero_add] at h1
  have hlen : (wrapB (tg6 k) l).length = (tagB (tg6 k)).length + (lenB l.length).length + l.length := by simp [wrapB]; omega
  have hd : ((wrapB (tg6 k) l).drop ((tagB (tg6 k)).length + (lenB l.length).length)).take l.length = l := by
    have e : wrapB (tg6 k) l = (tagB (tg6 k) ++ lenB l.length) ++ l := rfl
    rw [e, show (tagB (tg6 k)).length + (lenB (l.length : Int)).length = (tagB (tg6 k) ++ lenB (l.length : Int)).length by simp, List.drop_left, List.take_length]
  have hm : (tg6 k).made = false := by rcases isK_cases hk with rfl | rfl | rfl | rfl | rfl | rfl <;> rfl
  have hc : (effK []).contains k = true := by rw [effK_nil]; rcases isK_cases hk with rfl | rfl | rfl | rfl | rfl | rfl <;> rfl
  have hn : (tg6 k).num = k := rfl
  unfold rdT
  rw [h1]
  simp only [Int.toNat_natCast, hd, hn, hm, hc, hr]
  rw [if_pos trivial, if_pos ⟨rfl, trivial, trivial⟩, if_neg (by omega), if_pos trivial, hlen]

theorem ofV_back {k : Int} {l : List UInt8} (h : rightT k l = true) : ofV k (runesT k l) = (k, l, 0) := by
  have h1 := h
  unfold rightT at h1
  simp only [Bool.and_eq_true] at h1
  unfold ofV
  rw [if_pos h1.1, if_pos h1.2, enc_runes k l h1.2]
theorem runes_back {k : Int} {l : List UInt8} (h : rightT k l = true) : runesT 12 ((runesT k l).flatMap Lib.encodeRune) = runesT k l := by
  have h1 := h
  unfold rightT at h1
  simp only [Bool.and_eq_true] at h1
  refine runes_enc12 _ ?_
  have h2 := h1.2
  rw [List.all_eq_true] at h2 ⊢
  exact fun r hr => hasT_valid h1.1 (h2 r hr)
theorem flatF_len : ∀ (L : List Int), (L.flatMap Lib.encodeRune).length ≤ 4 * L.length
  | [] => by simp
  | r :: t => by
    have h1 := flatF_len t
    have h2 := (encT_length 12 r).2
    rw [encT12] at h2
    simp only [List.flatMap_cons, List.length_append, List.length_cons]
    omega
theorem wlenF (t : Tg) (l : List UInt8) : (wrapB t l).length ≤ l.length + 100 := by
  unfold wrapB tagB lenB
  simp only [List.length_append]
  repeat' split
  all_goals first | (simp; omega) | simp | omega

set_option maxHeartbeats 6400000 in
theorem backWalk (k : Int) (A : Option Addr) (n0 c : Nat) (l0 : List UInt8) (w : World) (hT : Tb w) (h : Bs w A n0 l0) (hc : n0 ≤ c) :
    Calls Tryd.prog 5 #[.agg #[.int .i64 k, .slice A n0 c]] w fun e w' => e = .returned (.bool true) ∧ Below w.heap.size w w' := by
  have hTo := lw6To k A n0 c (w.alloc (.cells #[.int .i64 k, .slice A n0 c] 24)) hc
  obtain ⟨n, hnn⟩ : ∃ n, min n0 500 = n := ⟨_, rfl⟩
  rw [hnn] at hTo
  have hn500 : n ≤ 500 := by omega
  have hnc : n ≤ c := by omega
  have hl := h.take (m := n) (by omega)
  generalize l0.take n = l at hl
  have hb0 := below_alloc1 w (.cells #[.int .i64 k, .slice A n0 c] 24)
  obtain ⟨o0, o1, _, _⟩ := (Blk.new2 w (.int .i64 k) (.slice A n0 c) 24).two
  clear hnn h hc
  have hH5 := Lib.hid hn500
  have hHc := Lib.hid hnc
  go_enter Tryd.func5, Tryd.ntmps5
  go_wp2_with fail
  refine hTo.mono ?_
  rintro e w1 ⟨rfl, hb1⟩
  have hB1 : Below w.heap.size w w1 := hb0.trans (Below.mono hb1 (by simp))
  clear hTo hb0 hb1 o0 o1
  have hb2 := below_alloc1 w1 (.cells #[.int .i64 k, .slice A n c] 25)
  have hX2 := Blk.new2 w1 (.int .i64 k) (.slice A n c) 25
  have hB2 := below_sf hB1 hb2
  have hl2 := hl.below hB2
  have hT2 := hT.below hB2
  clear hb2 hB1 hT hl hn500 hnc
  go_upto_region 2 with (fail)
  generalize (w1.alloc (Obj.cells #[.int .i64 k, .slice A n c] 25)) = W2 at *
  generalize w1.heap.size = X at *
  have KX : Hid (∀ W : World, Below W2.heap.size W2 W → (W.cell? ⟨X, 0, none⟩ = some (.int .i64 k) ∧ W.cell? ⟨X, 1, none⟩ = some (.slice A n c)) ∧ Bs W A n l ∧ Tb W ∧ Below w.heap.size w W) := Lib.hid (fun W hW => ⟨⟨(hX2.below hW).two.1, (hX2.below hW).two.2.1⟩, hl2.below hW, hT2.below hW, below_sf hB2 hW⟩)
  have hlen := Lib.hid hl2.len
  have hrl := Lib.hid (runesT_length k l)
  have RGT : Hid (∀ W : World, Below W2.heap.size W2 W → Calls Tryd.prog 16 #[.agg #[.int .i64 k, .slice A n c]] W fun e w' => e = .returned (.bool (rightT k l)) ∧ Below W.heap.size W w') := Lib.hid (fun W hW => txRight k A n c l W (KX.out W hW).2.2.1 (KX.out W hW).2.1 (by have := hH5.out; omega) hHc.out)
  have KN : Hid (∀ W : World, Below W2.heap.size W2 W → Calls Tryd.prog 15 #[] W fun e w' => e = .returned (.bool true) ∧ Below W.heap.size W w') := Lib.hid (fun W hW => known6 W (KX.out W hW).2.2.1)
  clear hX2 hl2 hT2 hB2
  have hB : Below W2.heap.size W2 W2 := Below.refl _ _
  cases hr : rightT k l
  · rw [hr] at RGT
    have WR : Hid (∀ W : World, Below W2.heap.size W2 W → Calls Tryd.prog 24 #[.agg #[.int .i64 k, .slice A n c]] W fun e w' => e = .returned (.tuple #[.slice none 0 0, .int .i64 6]) ∧ Below W.heap.size W w') := Lib.hid (fun W hW => txWriteNo k A n c l W (KX.out W hW).2.2.1 (KX.out W hW).2.1 (by have := hH5.out; omega) hHc.out hr)
    clear hr
    obtain ⟨⟨y0, y1⟩, _⟩ := KX.out _ hB
    go_wp2_with fail
    refine (RGT.out _ hB).mono ?_
    rintro e w3 ⟨rfl, hb⟩
    replace hB := below_sf hB hb
    clear hb y0 y1
    obtain ⟨⟨y0, y1⟩, _⟩ := KX.out _ hB
    go_wp2_with fail
    refine (WR.out _ hB).mono ?_
    rintro e w4 ⟨rfl, hb⟩
    replace hB := below_sf hB hb
    clear hb y0 y1
    go_wp2_with fail
    refine (KN.out _ hB).mono ?_
    rintro e w5 ⟨rfl, hb⟩
    replace hB := below_sf hB hb
    clear hb
    have FB := (KX.out _ hB).2.2.2
    go_wp2
    go_ret
    exact ⟨rfl, FB⟩
  · rw [hr] at RGT
    have HHr := Lib.hid hr
    have SG : Hid (∀ W : World, Below W2.heap.size W2 W → Calls Tryd.prog 11 #[.agg #[.int .i64 k, .slice A n c]] W fun e w' => ∃ v, e = .returned (.tuple #[v, .int .i64 0]) ∧ Ov w' W.heap.size 3 v ((runesT k l).map intV) ∧ Below W.heap.size W w') := Lib.hid (fun W hW => txSignsYes k A n c l W (KX.out W hW).2.2.1 (KX.out W hW).2.1 (by have := hH5.out; omega) hHc.out HHr.out)
    have U8 : Hid (∀ W : World, Below W2.heap.size W2 W → Calls Tryd.prog 12 #[.agg #[.int .i64 k, .slice A n c]] W fun e w' => e = .returned (.tuple #[.string ⟨((runesT k l).flatMap Lib.encodeRune).toArray⟩, .int .i64 0]) ∧ Below W.heap.size W w') := Lib.hid (fun W hW => txUtf8Yes k A n c l W (KX.out W hW).2.2.1 (KX.out W hW).2.1 (by have := hH5.out; omega) hHc.out HHr.out)
    have WR : Hid (∀ W : World, Below W2.heap.size W2 W → Calls Tryd.prog 24 #[.agg #[.int .i64 k, .slice A n c]] W (NewBs2 W (wrapB (tg6 k) l))) := Lib.hid (fun W hW => txWriteYes k A n c l W (KX.out W hW).2.2.1 (KX.out W hW).2.1 (by have := hH5.out; omega) hHc.out HHr.out)
    have OF : Hid (∀ (W : World) (A1 : Option Addr) (c1 : Nat), Zs W A1 (runesT k l).length (runesT k l) → Calls Tryd.prog 20 #[.int .i64 k, .slice A1 (runesT k l).length c1] W (OfR (k, l, 0) W)) := Lib.hid (fun W A1 c1 hz => by
      have h1 := txOfR k A1 (runesT k l).length c1 (runesT k l) W hz (by have := hrl.out; have := hlen.out; have := hH5.out; omega)
      rw [ofV_back HHr.out] at h1
      exact h1)
    have FU : Hid (∀ W : World, Below W2.heap.size W2 W → Calls Tryd.prog 22 #[.int .i64 k, .string ⟨((runesT k l).flatMap Lib.encodeRune).toArray⟩] W (OfR (k, l, 0) W)) := Lib.hid (fun W hW => by
      have h1 := txFromR k ⟨((runesT k l).flatMap Lib.encodeRune).toArray⟩ W (KX.out W hW).2.2.1 (by have h2 := flatF_len (runesT k l); have := hrl.out; have := hlen.out; have := hH5.out; show (List.toArray _).size ≤ _; rw [List.size_toArray]; omega)
      simp only [List.toList_toArray] at h1
      rw [runes_back HHr.out, ofV_back HHr.out] at h1
      exact h1)
    have hRB := Lib.hid (rdT_back k l hr (by have := hlen.out; have := hH5.out; omega))
    have hWL := Lib.hid (wlenF (tg6 k) l)
    have RD : Hid (∀ (g : Nat) (s : Value) (W : World), W2.heap.size ≤ g → Below W2.heap.size W2 W → Cur W g s (wrapB (tg6 k) l) 0 → Calls Tryd.prog 25 #[.pointer (some ⟨g, 0, none⟩), .slice none 0 0] W (fun e w' => ∃ (A : Option Addr) (n c : Nat), e = .returned (.tuple #[.agg #[.int .i64 k, .slice A n c], .int .i64 0]) ∧ Bs w' A n l ∧ Only g W w')) := Lib.hid (fun g s W hg hW hC => by
      have hTb := (KX.out W hW).2.2.1
      have h1 := txRead g 0 _ [] none 0 0 W hC (fun _ _ => Zs.nil _ _) (by omega) hTb (by have := (KX.out W2 (Below.refl _ _)).2.2.1.lt; omega) (by have := hWL.out; have := hlen.out; have := hH5.out; omega)
      refine h1.mono ?_
      rintro e w' ⟨A', n', c', he, hob, _, ho⟩
      rw [hRB.out] at he hob
      exact ⟨A', n', c', he, hob.bs.1, ho⟩)
    clear hr
    generalize wrapB (tg6 k) l = wb at *
    generalize hRg : runesT k l = R at *
    generalize R.flatMap Lib.encodeRune = fl at *
    clear hRg hRB
    have HWB : Hid (wb.length ≤ 1099511) := Lib.hid (by have := hWL.out; have := hlen.out; have := hH5.out; omega)
    obtain ⟨⟨y0, y1⟩, _⟩ := KX.out _ hB
    go_wp2_with fail
    refine (RGT.out _ hB).mono ?_
    rintro e w3 ⟨rfl, hb⟩
    replace hB := below_sf hB hb
    clear hb y0 y1
    obtain ⟨⟨y0, y1⟩, _⟩ := KX.out _ hB
    go_wp2_with fail
    refine (SG.out _ hB).mono ?_
    rintro e w5 ⟨v1, rfl, hov1, hb⟩
    obtain ⟨A1, c1, rfl, hc1, hvs1⟩ := hov1.slice
    have hz1 : Zs w5 A1 (R.map intV).length R := hvs1
    rw [List.length_map] at hz1 ⊢
    have OF1 := Lib.hid (OF.out w5 A1 c1 hz1)
    unfold OfR at OF1
    replace hB := below_sf hB hb
    clear hb y0 y1 hov1 hvs1 hc1 hz1
    obtain ⟨⟨y0, y1⟩, _⟩ := KX.out _ hB
    go_wp2_with fail
    refine OF1.out.mono ?_
    rintro e w6 ⟨A6, n6, c6, rfl, bs6, _, hb⟩
    replace hB := below_sf hB hb
    have b7 := below_alloc1 w6 (.cells #[.int .i64 k, .slice A6 n6 c6] 25)
    have hY := Blk.new2 w6 (.int .i64 k) (.slice A6 n6 c6) 25
    have bs7 := bs6.below b7
    replace hB := below_sf hB b7
    clear hb b7 bs6 y0 y1 OF1
    simp only at bs7 ⊢
    go_upto_region 7 with (fail)
    generalize (w6.alloc (Obj.cells #[.int .i64 k, .slice A6 n6 c6] 25)) = W7 at *
    generalize w6.heap.size = Y at *
    have KY : Hid (∀ W : World, Below W7.heap.size W7 W → (W.cell? ⟨Y, 0, none⟩ = some (.int .i64 k) ∧ W.cell? ⟨Y, 1, none⟩ = some (.slice A6 n6 c6)) ∧ Bs W A6 n6 l) := Lib.hid (fun W hW => ⟨⟨(hY.below hW).two.1, (hY.below hW).two.2.1⟩, bs7.below hW⟩)
    have HB7 := Lib.hid hB
    have hC : Below W7.heap.size W7 W7 := Below.refl _ _
    clear hY bs7 hB
    obtain ⟨⟨y0, y1⟩, _⟩ := KX.out _ (below_sf HB7.out hC)
    go_wp2_with fail
    refine (WR.out _ (below_sf HB7.out hC)).mono ?_
    rintro e w8 ⟨A8, n8, c8, rfl, hob8, hb⟩
    have bs8 := hob8.bs.1
    replace hC := below_sf hC hb
    clear hb y0 y1 hob8
    have NW := Lib.hid (octNew A8 n8 c8 wb w8 bs8 (by have := bs8.len; have := HWB.out; omega))
    clear bs8
    go_wp2_with fail
    refine NW.out.mono ?_
    rintro e w9 ⟨g, s, rfl, hg, cu, hb⟩
    have RD1 := Lib.hid (RD.out g s w9 (by have := HB7.out.size; have := hC.size; omega) (below_sf HB7.out (below_sf hC hb)) cu)
    have HC9 := Lib.hid (below_sf hC hb)
    have HG9 : Hid (W7.heap.size ≤ g) := Lib.hid (by have := hC.size; omega)
    clear hb cu NW hC hg
    go_wp2_with fail
    refine RD1.out.mono ?_
    rintro e wa ⟨Aa, na, ca, rfl, bsa, oa⟩
    have hCa := oa.below HC9.out HG9.out HC9.out.size
    have bb := below_alloc1 wa (.cells #[.int .i64 k, .slice Aa na ca] 25)
    have hZ := Blk.new2 wa (.int .i64 k) (.slice Aa na ca) 25
    have bsb := bsa.below bb
    have hCb := below_sf hCa bb
    clear RD1 HC9 HG9 oa bsa hCa bb
    go_upto_region 9 with (fail)
    generalize (wa.alloc (Obj.cells #[.int .i64 k, .slice Aa na ca] 25)) = Wb at *
    generalize wa.heap.size = Z at *
    have KZ : Hid (∀ W : World, Below Wb.heap.size Wb W → (W.cell? ⟨Z, 0, none⟩ = some (.int .i64 k) ∧ W.cell? ⟨Z, 1, none⟩ = some (.slice Aa na ca)) ∧ Bs W Aa na l) := Lib.hid (fun W hW => ⟨⟨(hZ.below hW).two.1, (hZ.below hW).two.2.1⟩, bsb.below hW⟩)
    have HBb := Lib.hid hCb
    have hD : Below Wb.heap.size Wb Wb := Below.refl _ _
    clear hZ bsb hCb
    obtain ⟨⟨y0, y1⟩, _⟩ := KX.out _ (below_sf HB7.out (below_sf HBb.out hD))
    go_wp2_with fail
    refine (U8.out _ (below_sf HB7.out (below_sf HBb.out hD))).mono ?_
    rintro e wc ⟨rfl, hb⟩
    replace hD := below_sf hD hb
    clear hb y0 y1
    obtain ⟨⟨y0, y1⟩, _⟩ := KX.out _ (below_sf HB7.out (below_sf HBb.out hD))
    have FU1 := Lib.hid (FU.out _ (below_sf HB7.out (below_sf HBb.out hD)))
    unfold OfR at FU1
    go_wp2_with fail
    refine FU1.out.mono ?_
    rintro e wd ⟨Ad, nd, cd, rfl, bsd, _, hb⟩
    replace hD := below_sf hD hb
    have be := below_alloc1 wd (.cells #[.int .i64 k, .slice Ad nd cd] 25)
    have hU := Blk.new2 wd (.int .i64 k) (.slice Ad nd cd) 25
    have bse := bsd.below be
    replace hD := below_sf hD be
    clear hb be bsd y0 y1 FU1
    simp only at bse ⊢
    go_upto_region 11 with (fail)
    generalize (wd.alloc (Obj.cells #[.int .i64 k, .slice Ad nd cd] 25)) = We at *
    generalize wd.heap.size = U at *
    have ST : Hid (∀ W, Below We.heap.size We W → (W.cell? ⟨X, 0, none⟩ = some (.int .i64 k) ∧ W.cell? ⟨X, 1, none⟩ = some (.slice A n c) ∧ W.cell? ⟨Y, 0, none⟩ = some (.int .i64 k) ∧ W.cell? ⟨Y, 1, none⟩ = some (.slice A6 n6 c6) ∧ W.cell? ⟨Z, 0, none⟩ = some (.int .i64 k) ∧ W.cell? ⟨Z, 1, none⟩ = some (.slice Aa na ca) ∧ W.cell? ⟨U, 0, none⟩ = some (.int .i64 k) ∧ W.cell? ⟨U, 1, none⟩ = some (.slice Ad nd cd)) ∧ Bs W A n l ∧ Bs W A6 n6 l ∧ Bs W Aa na l ∧ Bs W Ad nd l ∧ Below W2.heap.size W2 W) := Lib.hid (fun W hW => by
      have h1 := below_sf hD hW
      have h2 := below_sf HBb.out h1
      have h3 := below_sf HB7.out h2
      exact ⟨⟨(KX.out _ h3).1.1, (KX.out _ h3).1.2, (KY.out _ h2).1.1, (KY.out _ h2).1.2, (KZ.out _ h1).1.1, (KZ.out _ h1).1.2, (hU.below hW).two.1, (hU.below hW).two.2.1⟩, (KX.out _ h3).2.1, (KY.out _ h2).2, (KZ.out _ h1).2, bse.below hW, h3⟩)
    clear hU bse hD KY KZ HBb HB7 SG U8 WR OF FU RD RGT
    refine wp_region_held_drew (S := fun w' => w'.cell? ⟨X, 0, none⟩ = some (.int .i64 k) ∧ w'.cell? ⟨X, 1, none⟩ = some (.slice A n c) ∧ w'.cell? ⟨Y, 0, none⟩ = some (.int .i64 k) ∧ w'.cell? ⟨Y, 1, none⟩ = some (.slice A6 n6 c6) ∧ w'.cell? ⟨Z, 0, none⟩ = some (.int .i64 k) ∧ w'.cell? ⟨Z, 1, none⟩ = some (.slice Aa na ca) ∧ w'.cell? ⟨U, 0, none⟩ = some (.int .i64 k) ∧ w'.cell? ⟨U, 1, none⟩ = some (.slice Ad nd cd)) (by kernel_rfl) ?_ (fun hHeld => ?_)
    · (try dsimp only); exact (ST.out _ (Below.drew (Below.refl _ _))).1
    refine wpAnyH_ready (rs := [0]) (by kernel_rfl) (by simp) ?_
    refine AllReadyH.cons rfl (fun K hK => ?_) AllReadyH.nil
    go_simp
    refine (KN.out _ (ST.out _ (Below.drew (Below.refl _ _))).2.2.2.2.2).mono ?_
    rintro e q0 ⟨rfl, z0⟩
    have Z0 : Below We.heap.size We q0 := Below.trans (Below.drew (Below.refl _ _)) z0
    go_wp2_with fail
    refine hK.out _ _ ?_ (fun hHeld => ?_)
    · (try dsimp only); exact (ST.out _ Z0).1
    clear hK K
    try simp only [Act.put, List.setIfInBounds_toArray, List.set_cons_zero, List.set_cons_succ, List.getElem_toArray, List.getElem_cons_succ, List.getElem_cons_zero]
    refine wpAnyH_take (i := 1) (v := ?_) rfl (by kernel_rfl) (by kernel_rfl) (by kernel_rfl) (fun _ _ _ h => h) (Or.inl ⟨by kernel_rfl, ?_⟩) (by assumption) ?_
    rotate_left 1
    · (intro w hSw; (try dsimp only at hSw); go_simp) <;> (try with_reducible rfl)
    try simp only [Act.put, List.setIfInBounds_toArray, List.set_cons_zero, List.set_cons_succ, List.getElem_toArray, List.getElem_cons_succ, List.getElem_cons_zero]
    refine wpAnyH_take (i := 2) (v := ?_) rfl (by kernel_rfl) (by kernel_rfl) (by kernel_rfl) (fun _ _ _ h => h) (Or.inl ⟨by kernel_rfl, ?_⟩) (by assumption) ?_
    rotate_left 1
    · (intro w hSw; (try dsimp only at hSw); go_simp) <;> (try with_reducible rfl)
    try simp only [Act.put, List.setIfInBounds_toArray, List.set_cons_zero, List.set_cons_succ, List.getElem_toArray, List.getElem_cons_succ, List.getElem_cons_zero]
    refine wpAnyH_take (i := 3) (v := ?_) rfl (by kernel_rfl) (by kernel_rfl) (by kernel_rfl) (fun _ _ _ h => h) (Or.inl ⟨by kernel_rfl, ?_⟩) (by assumption) ?_
    rotate_left 1
    · (intro w hSw; (try dsimp only at hSw); go_simp) <;> (try with_reducible rfl)
    try simp only [Act.put, List.setIfInBounds_toArray, List.set_cons_zero, List.set_cons_succ, List.getElem_toArray, List.getElem_cons_succ, List.getElem_cons_zero]
    refine wpAnyH_take (i := 4) (v := ?_) rfl (by kernel_rfl) (by kernel_rfl) (by kernel_rfl) (fun _ _ _ h => h) (Or.inl ⟨by kernel_rfl, ?_⟩) (by assumption) ?_
    rotate_left 1
    · (intro w hSw; (try dsimp only at hSw); go_simp) <;> (try with_reducible rfl)
    try simp only [Act.put, List.setIfInBounds_toArray, List.set_cons_zero, List.set_cons_succ, List.getElem_toArray, List.getElem_cons_succ, List.getElem_cons_zero]
    refine wpAnyH_take (i := 5) (v := ?_) rfl (by kernel_rfl) (by kernel_rfl) (by kernel_rfl) (fun _ _ _ h => h) (Or.inl ⟨by kernel_rfl, ?_⟩) (by assumption) ?_
    rotate_left 1
    · (intro w hSw; (try dsimp only at hSw); go_simp) <;> (try with_reducible rfl)
    try simp only [Act.put, List.setIfInBounds_toArray, List.set_cons_zero, List.set_cons_succ, List.getElem_toArray, List.getElem_cons_succ, List.getElem_cons_zero]
    refine wpAnyH_take (i := 6) (v := ?_) rfl (by kernel_rfl) (by kernel_rfl) (by kernel_rfl) (fun _ _ _ h => h) (Or.inl ⟨by kernel_rfl, ?_⟩) (by assumption) ?_
    rotate_left 1
    · (intro w hSw; (try dsimp only at hSw); go_simp) <;> (try with_reducible rfl)
    try simp only [Act.put, List.setIfInBounds_toArray, List.set_cons_zero, List.set_cons_succ, List.getElem_toArray, List.getElem_cons_succ, List.getElem_cons_zero]
    refine wpAnyH_take (i := 7) (v := ?_) rfl (by kernel_rfl) (by kernel_rfl) (by kernel_rfl) (fun _ _ _ h => h) (Or.inl ⟨by kernel_rfl, ?_⟩) (by assumption) ?_
    rotate_left 1
    · (intro w hSw; (try dsimp only at hSw); go_simp) <;> (try with_reducible rfl)
    try simp only [Act.put, List.setIfInBounds_toArray, List.set_cons_zero, List.set_cons_succ, List.getElem_toArray, List.getElem_cons_succ, List.getElem_cons_zero]
    refine wpAnyH_take (i := 8) (v := ?_) rfl (by kernel_rfl) (by kernel_rfl) (by kernel_rfl) (fun _ _ _ h => h) (Or.inl ⟨by kernel_rfl, ?_⟩) (by assumption) ?_
    rotate_left 1
    · (intro w hSw; (try dsimp only at hSw); go_simp) <;> (try with_reducible rfl)
    try simp only [Act.put, List.setIfInBounds_toArray, List.set_cons_zero, List.set_cons_succ, List.getElem_toArray, List.getElem_cons_succ, List.getElem_cons_zero]
    refine wpAnyH_take (i := 9) (v := ?_) rfl (by kernel_rfl) (by kernel_rfl) (by kernel_rfl) (fun _ _ _ h => h) (Or.inl ⟨by kernel_rfl, ?_⟩) (by assumption) ?_
    rotate_left 1
    · (intro w hSw; (try dsimp only at hSw); go_simp) <;> (try with_reducible rfl)
    try simp only [Act.put, List.setIfInBounds_toArray, List.set_cons_zero, List.set_cons_succ, List.getElem_toArray, List.getElem_cons_succ, List.getElem_cons_zero]
    refine wpAnyH_take (i := 10) (v := ?_) rfl (by kernel_rfl) (by kernel_rfl) (by kernel_rfl) (fun _ _ _ h => h) (Or.inl ⟨by kernel_rfl, ?_⟩) (by assumption) ?_
    rotate_left 1
    · (intro w hSw; (try dsimp only at hSw); go_simp) <;> (try with_reducible rfl)
    try simp only [Act.put, List.setIfInBounds_toArray, List.set_cons_zero, List.set_cons_succ, List.getElem_toArray, List.getElem_cons_succ, List.getElem_cons_zero]
    refine wpAnyH_take (i := 12) (v := ?_) rfl (by kernel_rfl) (by kernel_rfl) (by kernel_rfl) (fun _ _ _ h => h) (Or.inl ⟨by kernel_rfl, ?_⟩) (by assumption) ?_
    rotate_left 1
    · (intro w hSw; (try dsimp only at hSw); go_simp) <;> (try with_reducible rfl)
    try simp only [Act.put, List.setIfInBounds_toArray, List.set_cons_zero, List.set_cons_succ, List.getElem_toArray, List.getElem_cons_succ, List.getElem_cons_zero]
    refine wpAnyH_ready (rs := [11]) (by kernel_rfl) (by simp) ?_
    refine AllReadyH.cons rfl (fun K hK => ?_) AllReadyH.nil
    go_simp
    refine (lw6Of k A n c _).mono ?_
    rintro e q1 ⟨rfl, z1⟩
    have Z1 := below_sf Z0 z1
    go_wp2_with fail
    refine hK.out _ _ ?_ (fun hHeld => ?_)
    · (try dsimp only); exact (ST.out _ Z1).1
    clear hK K
    try simp only [Act.put, List.setIfInBounds_toArray, List.set_cons_zero, List.set_cons_succ, List.getElem_toArray, List.getElem_cons_succ, List.getElem_cons_zero]
    refine wpAnyH_ready (rs := [13]) (by kernel_rfl) (by simp) ?_
    refine AllReadyH.cons rfl (fun K hK => ?_) AllReadyH.nil
    go_simp
    refine (lw6Of k A6 n6 c6 _).mono ?_
    rintro e q2 ⟨rfl, z2⟩
    have Z2 := below_sf Z1 z2
    go_wp2_with fail
    refine hK.out _ _ ?_ (fun hHeld => ?_)
    · (try dsimp only); exact (ST.out _ Z2).1
    clear hK K
    try simp only [Act.put, List.setIfInBounds_toArray, List.set_cons_zero, List.set_cons_succ, List.getElem_toArray, List.getElem_cons_succ, List.getElem_cons_zero]
    refine wpAnyH_ready (rs := [14]) (by kernel_rfl) (by simp) ?_
    refine AllReadyH.cons rfl (fun K hK => ?_) AllReadyH.nil
    go_simp
    refine (rf6SameT k A A6 n n6 c c6 l _ (ST.out _ Z2).2.1 (ST.out _ Z2).2.2.1).mono ?_
    rintro e q3 ⟨rfl, z3⟩
    have Z3 := below_sf Z2 z3
    go_wp2_with fail
    refine hK.out _ _ ?_ (fun hHeld => ?_)
    · (try dsimp only); exact (ST.out _ Z3).1
    clear hK K
    try simp only [Act.put, List.setIfInBounds_toArray, List.set_cons_zero, List.set_cons_succ, List.getElem_toArray, List.getElem_cons_succ, List.getElem_cons_zero]
    refine wpAnyH_take (i := 15) (v := ?_) rfl (by kernel_rfl) (by kernel_rfl) (by kernel_rfl) (fun _ _ _ h => h) (Or.inl ⟨by kernel_rfl, ?_⟩) (by assumption) ?_
    rotate_left 1
    · (intro w hSw; (try dsimp only at hSw); go_simp) <;> (try with_reducible rfl)
    try simp only [Act.put, List.setIfInBounds_toArray, List.set_cons_zero, List.set_cons_succ, List.getElem_toArray, List.getElem_cons_succ, List.getElem_cons_zero]
    refine wpAnyH_take (i := 16) (v := ?_) rfl (by kernel_rfl) (by kernel_rfl) (by kernel_rfl) (fun _ _ _ h => h) (Or.inl ⟨by kernel_rfl, ?_⟩) (by assumption) ?_
    rotate_left 1
    · (intro w hSw; (try dsimp only at hSw); go_simp) <;> (try with_reducible rfl)
    try simp only [Act.put, List.setIfInBounds_toArray, List.set_cons_zero, List.set_cons_succ, List.getElem_toArray, List.getElem_cons_succ, List.getElem_cons_zero]
    refine wpAnyH_take (i := 17) (v := ?_) rfl (by kernel_rfl) (by kernel_rfl) (by kernel_rfl) (fun _ _ _ h => h) (Or.inl ⟨by kernel_rfl, ?_⟩) (by assumption) ?_
    rotate_left 1
    · (intro w hSw; (try dsimp only at hSw); go_simp) <;> (try with_reducible rfl)
    try simp only [Act.put, List.setIfInBounds_toArray, List.set_cons_zero, List.set_cons_succ, List.getElem_toArray, List.getElem_cons_succ, List.getElem_cons_zero]
    refine wpAnyH_take (i := 18) (v := ?_) rfl (by kernel_rfl) (by kernel_rfl) (by kernel_rfl) (fun _ _ _ h => h) (Or.inl ⟨by kernel_rfl, ?_⟩) (by assumption) ?_
    rotate_left 1
    · (intro w hSw; (try dsimp only at hSw); go_simp) <;> (try with_reducible rfl)
    try simp only [Act.put, List.setIfInBounds_toArray, List.set_cons_zero, List.set_cons_succ, List.getElem_toArray, List.getElem_cons_succ, List.getElem_cons_zero]
    refine wpAnyH_take (i := 19) (v := ?_) rfl (by kernel_rfl) (by kernel_rfl) (by kernel_rfl) (fun _ _ _ h => h) (Or.inl ⟨by kernel_rfl, ?_⟩) (by assumption) ?_
    rotate_left 1
    · (intro w hSw; (try dsimp only at hSw); go_simp) <;> (try with_reducible rfl)
    try simp only [Act.put, List.setIfInBounds_toArray, List.set_cons_zero, List.set_cons_succ, List.getElem_toArray, List.getElem_cons_succ, List.getElem_cons_zero]
    refine wpAnyH_take (i := 20) (v := ?_) rfl (by kernel_rfl) (by kernel_rfl) (by kernel_rfl) (fun _ _ _ h => h) (Or.inl ⟨by kernel_rfl, ?_⟩) (by assumption) ?_
    rotate_left 1
    · (intro w hSw; (try dsimp only at hSw); go_simp) <;> (try with_reducible rfl)
    try simp only [Act.put, List.setIfInBounds_toArray, List.set_cons_zero, List.set_cons_succ, List.getElem_toArray, List.getElem_cons_succ, List.getElem_cons_zero]
    refine wpAnyH_take (i := 21) (v := ?_) rfl (by kernel_rfl) (by kernel_rfl) (by kernel_rfl) (fun _ _ _ h => h) (Or.inl ⟨by kernel_rfl, ?_⟩) (by assumption) ?_
    rotate_left 1
    · (intro w hSw; (try dsimp only at hSw); go_simp) <;> (try with_reducible rfl)
    try simp only [Act.put, List.setIfInBounds_toArray, List.set_cons_zero, List.set_cons_succ, List.getElem_toArray, List.getElem_cons_succ, List.getElem_cons_zero]
    refine wpAnyH_take (i := 22) (v := ?_) rfl (by kernel_rfl) (by kernel_rfl) (by kernel_rfl) (fun _ _ _ h => h) (Or.inl ⟨by kernel_rfl, ?_⟩) (by assumption) ?_
    rotate_left 1
    · (intro w hSw; (try dsimp only at hSw); go_simp) <;> (try with_reducible rfl)
    try simp only [Act.put, List.setIfInBounds_toArray, List.set_cons_zero, List.set_cons_succ, List.getElem_toArray, List.getElem_cons_succ, List.getElem_cons_zero]
    refine wpAnyH_take (i := 23) (v := ?_) rfl (by kernel_rfl) (by kernel_rfl) (by kernel_rfl) (fun _ _ _ h => h) (Or.inl ⟨by kernel_rfl, ?_⟩) (by assumption) ?_
    rotate_left 1
    · (intro w hSw; (try dsimp only at hSw); go_simp) <;> (try with_reducible rfl)
    try simp only [Act.put, List.setIfInBounds_toArray, List.set_cons_zero, List.set_cons_succ, List.getElem_toArray, List.getElem_cons_succ, List.getElem_cons_zero]
    refine wpAnyH_take (i := 24) (v := ?_) rfl (by kernel_rfl) (by kernel_rfl) (by kernel_rfl) (fun _ _ _ h => h) (Or.inl ⟨by kernel_rfl, ?_⟩) (by assumption) ?_
    rotate_left 1
    · (intro w hSw; (try dsimp only at hSw); go_simp) <;> (try with_reducible rfl)
    try simp only [Act.put, List.setIfInBounds_toArray, List.set_cons_zero, List.set_cons_succ, List.getElem_toArray, List.getElem_cons_succ, List.getElem_cons_zero]
    refine wpAnyH_take (i := 25) (v := ?_) rfl (by kernel_rfl) (by kernel_rfl) (by kernel_rfl) (fun _ _ _ h => h) (Or.inl ⟨by kernel_rfl, ?_⟩) (by assumption) ?_
    rotate_left 1
    · (intro w hSw; (try dsimp only at hSw); go_simp) <;> (try with_reducible rfl)
    try simp only [Act.put, List.setIfInBounds_toArray, List.set_cons_zero, List.set_cons_succ, List.getElem_toArray, List.getElem_cons_succ, List.getElem_cons_zero]
    refine wpAnyH_take (i := 27) (v := ?_) rfl (by kernel_rfl) (by kernel_rfl) (by kernel_rfl) (fun _ _ _ h => h) (Or.inl ⟨by kernel_rfl, ?_⟩) (by assumption) ?_
    rotate_left 1
    · (intro w hSw; (try dsimp only at hSw); go_simp) <;> (try with_reducible rfl)
    try simp only [Act.put, List.setIfInBounds_toArray, List.set_cons_zero, List.set_cons_succ, List.getElem_toArray, List.getElem_cons_succ, List.getElem_cons_zero]
    refine wpAnyH_ready (rs := [26]) (by kernel_rfl) (by simp) ?_
    refine AllReadyH.cons rfl (fun K hK => ?_) AllReadyH.nil
    go_simp
    refine (lw6Of k A n c _).mono ?_
    rintro e q4 ⟨rfl, z4⟩
    have Z4 := below_sf Z3 z4
    go_wp2_with fail
    refine hK.out _ _ ?_ (fun hHeld => ?_)
    · (try dsimp only); exact (ST.out _ Z4).1
    clear hK K
    try simp only [Act.put, List.setIfInBounds_toArray, List.set_cons_zero, List.set_cons_succ, List.getElem_toArray, List.getElem_cons_succ, List.getElem_cons_zero]
    refine wpAnyH_ready (rs := [28]) (by kernel_rfl) (by simp) ?_
    refine AllReadyH.cons rfl (fun K hK => ?_) AllReadyH.nil
    go_simp
    refine (lw6Of k Aa na ca _).mono ?_
    rintro e q5 ⟨rfl, z5⟩
    have Z5 := below_sf Z4 z5
    go_wp2_with fail
    refine hK.out _ _ ?_ (fun hHeld => ?_)
    · (try dsimp only); exact (ST.out _ Z5).1
    clear hK K
    try simp only [Act.put, List.setIfInBounds_toArray, List.set_cons_zero, List.set_cons_succ, List.getElem_toArray, List.getElem_cons_succ, List.getElem_cons_zero]
    refine wpAnyH_ready (rs := [29]) (by kernel_rfl) (by simp) ?_
    refine AllReadyH.cons rfl (fun K hK => ?_) AllReadyH.nil
    go_simp
    refine (rf6SameT k A Aa n na c ca l _ (ST.out _ Z5).2.1 (ST.out _ Z5).2.2.2.1).mono ?_
    rintro e q6 ⟨rfl, z6⟩
    have Z6 := below_sf Z5 z6
    go_wp2_with fail
    refine hK.out _ _ ?_ (fun hHeld => ?_)
    · (try dsimp only); exact (ST.out _ Z6).1
    clear hK K
    try simp only [Act.put, List.setIfInBounds_toArray, List.set_cons_zero, List.set_cons_succ, List.getElem_toArray, List.getElem_cons_succ, List.getElem_cons_zero]
    refine wpAnyH_take (i := 30) (v := ?_) rfl (by kernel_rfl) (by kernel_rfl) (by kernel_rfl) (fun _ _ _ h => h) (Or.inl ⟨by kernel_rfl, ?_⟩) (by assumption) ?_
    rotate_left 1
    · (intro w hSw; (try dsimp only at hSw); go_simp) <;> (try with_reducible rfl)
    try simp only [Act.put, List.setIfInBounds_toArray, List.set_cons_zero, List.set_cons_succ, List.getElem_toArray, List.getElem_cons_succ, List.getElem_cons_zero]
    refine wpAnyH_take (i := 31) (v := ?_) rfl (by kernel_rfl) (by kernel_rfl) (by kernel_rfl) (fun _ _ _ h => h) (Or.inl ⟨by kernel_rfl, ?_⟩) (by assumption) ?_
    rotate_left 1
    · (intro w hSw; (try dsimp only at hSw); go_simp) <;> (try with_reducible rfl)
    try simp only [Act.put, List.setIfInBounds_toArray, List.set_cons_zero, List.set_cons_succ, List.getElem_toArray, List.getElem_cons_succ, List.getElem_cons_zero]
    refine wpAnyH_take (i := 32) (v := ?_) rfl (by kernel_rfl) (by kernel_rfl) (by kernel_rfl) (fun _ _ _ h => h) (Or.inl ⟨by kernel_rfl, ?_⟩) (by assumption) ?_
    rotate_left 1
    · (intro w hSw; (try dsimp only at hSw); go_simp) <;> (try with_reducible rfl)
    try simp only [Act.put, List.setIfInBounds_toArray, List.set_cons_zero, List.set_cons_succ, List.getElem_toArray, List.getElem_cons_succ, List.getElem_cons_zero]
    refine wpAnyH_take (i := 33) (v := ?_) rfl (by kernel_rfl) (by kernel_rfl) (by kernel_rfl) (fun _ _ _ h => h) (Or.inl ⟨by kernel_rfl, ?_⟩) (by assumption) ?_
    rotate_left 1
    · (intro w hSw; (try dsimp only at hSw); go_simp) <;> (try with_reducible rfl)
    try simp only [Act.put, List.setIfInBounds_toArray, List.set_cons_zero, List.set_cons_succ, List.getElem_toArray, List.getElem_cons_succ, List.getElem_cons_zero]
    refine wpAnyH_take (i := 34) (v := ?_) rfl (by kernel_rfl) (by kernel_rfl) (by kernel_rfl) (fun _ _ _ h => h) (Or.inl ⟨by kernel_rfl, ?_⟩) (by assumption) ?_
    rotate_left 1
    · (intro w hSw; (try dsimp only at hSw); go_simp) <;> (try with_reducible rfl)
    try simp only [Act.put, List.setIfInBounds_toArray, List.set_cons_zero, List.set_cons_succ, List.getElem_toArray, List.getElem_cons_succ, List.getElem_cons_zero]
    refine wpAnyH_take (i := 35) (v := ?_) rfl (by kernel_rfl) (by kernel_rfl) (by kernel_rfl) (fun _ _ _ h => h) (Or.inl ⟨by kernel_rfl, ?_⟩) (by assumption) ?_
    rotate_left 1
    · (intro w hSw; (try dsimp only at hSw); go_simp) <;> (try with_reducible rfl)
    try simp only [Act.put, List.setIfInBounds_toArray, List.set_cons_zero, List.set_cons_succ, List.getElem_toArray, List.getElem_cons_succ, List.getElem_cons_zero]
    refine wpAnyH_take (i := 36) (v := ?_) rfl (by kernel_rfl) (by kernel_rfl) (by kernel_rfl) (fun _ _ _ h => h) (Or.inl ⟨by kernel_rfl, ?_⟩) (by assumption) ?_
    rotate_left 1
    · (intro w hSw; (try dsimp only at hSw); go_simp) <;> (try with_reducible rfl)
    try simp only [Act.put, List.setIfInBounds_toArray, List.set_cons_zero, List.set_cons_succ, List.getElem_toArray, List.getElem_cons_succ, List.getElem_cons_zero]
    refine wpAnyH_take (i := 37) (v := ?_) rfl (by kernel_rfl) (by kernel_rfl) (by kernel_rfl) (fun _ _ _ h => h) (Or.inl ⟨by kernel_rfl, ?_⟩) (by assumption) ?_
    rotate_left 1
    · (intro w hSw; (try dsimp only at hSw); go_simp) <;> (try with_reducible rfl)
    try simp only [Act.put, List.setIfInBounds_toArray, List.set_cons_zero, List.set_cons_succ, List.getElem_toArray, List.getElem_cons_succ, List.getElem_cons_zero]
    refine wpAnyH_take (i := 38) (v := ?_) rfl (by kernel_rfl) (by kernel_rfl) (by kernel_rfl) (fun _ _ _ h => h) (Or.inl ⟨by kernel_rfl, ?_⟩) (by assumption) ?_
    rotate_left 1
    · (intro w hSw; (try dsimp only at hSw); go_simp) <;> (try with_reducible rfl)
    try simp only [Act.put, List.setIfInBounds_toArray, List.set_cons_zero, List.set_cons_succ, List.getElem_toArray, List.getElem_cons_succ, List.getElem_cons_zero]
    refine wpAnyH_take (i := 39) (v := ?_) rfl (by kernel_rfl) (by kernel_rfl) (by kernel_rfl) (fun _ _ _ h => h) (Or.inl ⟨by kernel_rfl, ?_⟩) (by assumption) ?_
    rotate_left 1
    · (intro w hSw; (try dsimp only at hSw); go_simp) <;> (try with_reducible rfl)
    try simp only [Act.put, List.setIfInBounds_toArray, List.set_cons_zero, List.set_cons_succ, List.getElem_toArray, List.getElem_cons_succ, List.getElem_cons_zero]
    refine wpAnyH_take (i := 40) (v := ?_) rfl (by kernel_rfl) (by kernel_rfl) (by kernel_rfl) (fun _ _ _ h => h) (Or.inl ⟨by kernel_rfl, ?_⟩) (by assumption) ?_
    rotate_left 1
    · (intro w hSw; (try dsimp only at hSw); go_simp) <;> (try with_reducible rfl)
    try simp only [Act.put, List.setIfInBounds_toArray, List.set_cons_zero, List.set_cons_succ, List.getElem_toArray, List.getElem_cons_succ, List.getElem_cons_zero]
    refine wpAnyH_take (i := 42) (v := ?_) rfl (by kernel_rfl) (by kernel_rfl) (by kernel_rfl) (fun _ _ _ h => h) (Or.inl ⟨by kernel_rfl, ?_⟩) (by assumption) ?_
    rotate_left 1
    · (intro w hSw; (try dsimp only at hSw); go_simp) <;> (try with_reducible rfl)
    try simp only [Act.put, List.setIfInBounds_toArray, List.set_cons_zero, List.set_cons_succ, List.getElem_toArray, List.getElem_cons_succ, List.getElem_cons_zero]
    refine wpAnyH_ready (rs := [41]) (by kernel_rfl) (by simp) ?_
    refine AllReadyH.cons rfl (fun K hK => ?_) AllReadyH.nil
    go_simp
    refine (lw6Of k A n c _).mono ?_
    rintro e q7 ⟨rfl, z7⟩
    have Z7 := below_sf Z6 z7
    go_wp2_with fail
    refine hK.out _ _ ?_ (fun hHeld => ?_)
    · (try dsimp only); exact (ST.out _ Z7).1
    clear hK K
    try simp only [Act.put, List.setIfInBounds_toArray, List.set_cons_zero, List.set_cons_succ, List.getElem_toArray, List.getElem_cons_succ, List.getElem_cons_zero]
    refine wpAnyH_ready (rs := [43]) (by kernel_rfl) (by simp) ?_
    refine AllReadyH.cons rfl (fun K hK => ?_) AllReadyH.nil
    go_simp
    refine (lw6Of k Ad nd cd _).mono ?_
    rintro e q8 ⟨rfl, z8⟩
    have Z8 := below_sf Z7 z8
    go_wp2_with fail
    refine hK.out _ _ ?_ (fun hHeld => ?_)
    · (try dsimp only); exact (ST.out _ Z8).1
    clear hK K
    try simp only [Act.put, List.setIfInBounds_toArray, List.set_cons_zero, List.set_cons_succ, List.getElem_toArray, List.getElem_cons_succ, List.getElem_cons_zero]
    refine wpAnyH_ready (rs := [44]) (by kernel_rfl) (by simp) ?_
    refine AllReadyH.cons rfl (fun K hK => ?_) AllReadyH.nil
    go_simp
    refine (rf6SameT k A Ad n nd c cd l _ (ST.out _ Z8).2.1 (ST.out _ Z8).2.2.2.2.1).mono ?_
    rintro e q9 ⟨rfl, z9⟩
    have Z9 := below_sf Z8 z9
    go_wp2_with fail
    refine hK.out _ _ ?_ (fun hHeld => ?_)
    · (try dsimp only); exact (ST.out _ Z9).1
    clear hK K
    try simp only [Act.put, List.setIfInBounds_toArray, List.set_cons_zero, List.set_cons_succ, List.getElem_toArray, List.getElem_cons_succ, List.getElem_cons_zero]
    refine wpAnyH_take (i := 45) (v := ?_) rfl (by kernel_rfl) (by kernel_rfl) (by kernel_rfl) (fun _ _ _ h => h) (Or.inl ⟨by kernel_rfl, ?_⟩) (by assumption) ?_
    rotate_left 1
    · (intro w hSw; (try dsimp only at hSw); go_simp) <;> (try with_reducible rfl)
    try simp only [Act.put, List.setIfInBounds_toArray, List.set_cons_zero, List.set_cons_succ, List.getElem_toArray, List.getElem_cons_succ, List.getElem_cons_zero]
    refine wpAnyH_take (i := 46) (v := ?_) rfl (by kernel_rfl) (by kernel_rfl) (by kernel_rfl) (fun _ _ _ h => h) (Or.inl ⟨by kernel_rfl, ?_⟩) (by assumption) ?_
    rotate_left 1
    · (intro w hSw; (try dsimp only at hSw); go_simp) <;> (try with_reducible rfl)
    try simp only [Act.put, List.setIfInBounds_toArray, List.set_cons_zero, List.set_cons_succ, List.getElem_toArray, List.getElem_cons_succ, List.getElem_cons_zero]
    refine wpAnyH_done (by kernel_rfl) ?_ _
    have FB := (KX.out _ (ST.out _ Z9).2.2.2.2.2).2.2.2
    go_wp2
    go_ret
    exact ⟨rfl, FB⟩
end Go.Proofs.YtoklonnajpjgjaaDoor
