/-
  OctetParts: for any bytes and any cuts, quittancelaw01.OctetParts returns true and changes nothing that was there.
-/
import Derived.Test.YtcekglicepjjpaaJoin
namespace Go.Proofs.Ytcekglicepjjpaa
open Go.RowKit
set_option linter.unusedVariables false
set_option linter.unusedSimpArgs false

theorem IsRow.at_ {w : World} {a : Option Addr} {len cap : Nat} {zs : List Int} {kd : IntKind} (h : IsRow kd w a len cap zs) {k : Nat} (hk : k < len) :
    ∃ b o z, a = some ⟨b, o, none⟩ ∧ w.cell? ⟨b, o + k, none⟩ = some (.int kd z) ∧ (Lit.int kd z).wf = true := by
  rcases h with ⟨rfl, rfl, rfl, rfl⟩ | ⟨x, rfl, hl, hm, hz, hc, hw⟩
  · omega
  · obtain ⟨b, o, sp⟩ := x
    have h0 := hc 0 (by omega)
    have hsp : sp = none := by simpa [Addr.add] using World.cell?_spot h0
    subst hsp
    have := hc k (by omega)
    rw [Addr.add_none] at this
    refine ⟨b, o, _, rfl, this, hw _ ?_⟩
    rw [List.getD_eq_getElem?_getD, List.getElem?_eq_getElem (by omega)]
    exact List.getElem_mem _

theorem modU (z d : Int) (h0 : 0 < d) (hd : d ≤ 1099511627777) : 0 ≤ wrap64 ((IntKind.u64.wrap z).tmod d) ∧ wrap64 ((IntKind.u64.wrap z).tmod d) < d := by
  have h1 : 0 ≤ IntKind.u64.wrap z := by simp [IntKind.wrap, IntKind.bits, IntKind.signed]; omega
  rw [Int.tmod_eq_emod_of_nonneg h1]
  have h3 := Int.emod_nonneg (IntKind.u64.wrap z) (show d ≠ 0 by omega)
  have h4 := Int.emod_lt_of_pos (IntKind.u64.wrap z) h0
  unfold wrap64
  omega

set_option maxRecDepth 100000 in
set_option maxHeartbeats 1600000 in
theorem lawParts (A C : Option Addr) (n cA p cC : Nat) (a : List UInt8) (zs : List Int) (w : World) (hA : Bs w A n a) (hcA : n ≤ cA) (hC : IsRow .i64 w C p cC zs) :
    Calls Try.prog 8 #[.slice A n cA, .slice C p cC] w fun e w' => e = .returned (.bool true) ∧ Below w.heap.size w w' := by
  obtain ⟨i0, hi, hz0, hz1, hz2⟩ := info_parts u8_info
  have hA' : Bs w A (min n 5000) (a.take (min n 5000)) := hA.take (by omega)
  have h1 : min n 5000 ≤ 5000 := by omega
  go_enter Try.func8, Try.ntmps8
  go_wp2_with fail
  refine (few1 A n cA _ hcA).mono ?_
  rintro e w0 ⟨rfl, rfl⟩
  clear hA hcA
  generalize min n 5000 = n' at *
  generalize a.take n' = a at *
  have hla := Lib.hid hA'.len
  go_wp2_with fail
  refine (octNew A n' cA a _ hA' (by omega)).mono ?_
  rintro e w1 ⟨g, sv, rfl, hg, hcur0, hb1⟩
  go_wp2_with fail
  go_loopw [6, 7] (fun v i wr => ∃ (j k : Nat), j ≤ p ∧ j ≤ 50 ∧ k ≤ n' ∧ i = .int .i64 j ∧ Ob wr w1.heap.size 5 v (a.take k) ∧ Cur wr g sv a k ∧ Only g w1 wr) (fun _ i _ => 50 - (intOf i).toNat)
  case atStart => exact ⟨0, 0, Nat.zero_le _, Nat.zero_le _, Nat.zero_le _, rfl, Ob.nil _ _ _, hcur0, Only.refl _ _⟩
  case round =>
    obtain ⟨j, k, hjp, hj50, hk, rfl, hob, hcur, hon⟩ := hrel
    have hbel : Below w.heap.size w wr := hon.below hb1 hg hb1.size
    have hne : Hid (u6.ownBlock ≠ some g) := by intro e; have := (hob.lt g e).1; have := hcur0.lt; omega
    by_cases hlt : j < p ∧ j < 50
    · obtain ⟨hl1, hl2⟩ := hlt
      obtain ⟨bC, oC, z, rfl, hcz, hwz⟩ := hC.at_ hl1
      have g1 : (j : Int) < p := by omega
      have g2 : decide ((j : Int) < 50) = true := by simp; omega
      have hcz' : wr.cell? ⟨bC, oC + j, none⟩ = some (.int .i64 z) := (hbel.cell (World.block_lt_of_cell? w _ hcz)).trans hcz
      go_wp2_with fail
      refine (curLeft g k a _ hcur).mono ?_
      rintro e w2 ⟨rfl, q2⟩
      rw [hla.out]
      have hcz2 : w2.cell? ⟨bC, oC + j, none⟩ = some (.int .i64 z) := ((q2.below).cell (World.block_lt_of_cell? wr _ hcz')).trans hcz'
      have f1 : decide ((n' : Int) - k < 0) = false := by simp; omega
      have f2 : decide ((n' : Int) < n' - k) = false := by simp; omega
      go_wp2_with fail
      have hx := modU z ((n' : Int) - k + 1) (by omega) (by omega)
      generalize wrap64 ((IntKind.u64.wrap z).tmod ((n' : Int) - k + 1)) = x at *
      obtain ⟨hx0, hx1⟩ := hx
      obtain ⟨m, rfl⟩ := Int.eq_ofNat_of_zero_le hx0
      have hkm : k + m ≤ n' := by omega
      refine (curSub g k m _ a _ (hcur.qt q2) (by rw [hla.out]; omega) rfl).mono ?_
      rintro e w3 ⟨g2, s2, rfl, hg2, hcs, hcur3, on3⟩
      have hob3 := (hob.below q2.below).grown on3 (.inr hne.out)
      have hbel2 : Below w.heap.size w w2 := hbel.trans q2.below
      have hbel3 : Below w.heap.size w w3 := on3.below hbel2 hg hbel2.size
      have hg2g : Hid (g ≠ g2) := by have := (hcur.qt q2).lt; unfold Hid; omega
      have hg2o : Hid (u6.ownBlock ≠ some g2) := by
        intro e
        have := (hob.lt g2 e).2
        have := q2.below (B := 0) |>.size
        omega
      have hr : Hid (((a.drop k).take m).length = m) := by unfold Hid; have := hla.out; simp; omega
      generalize hR : (a.drop k).take m = r at *
      have HR := Lib.hid hR; clear hR
      go_wp2_with fail
      refine (curLeft g2 0 r _ hcs).mono ?_
      rintro e w4 ⟨rfl, q4⟩
      rw [hr.out]
      go_wp2_with fail
      refine (curLeft g (k + m) a _ (hcur3.qt q4)).mono ?_
      rintro e w5 ⟨rfl, q5⟩
      rw [hla.out]
      have f3 : (((n' : Int) - ((k : Int) + m)) != ((n' : Int) - k - m)) = false := by simp; omega
      have hcs5 := ((hcs.qt q4).qt q5)
      have hob5 := (hob3.below q4.below).below q5.below
      have hcur5 := (hcur3.qt q4).qt q5
      have hbel5 : Below w.heap.size w w5 := (hbel3.trans q4.below).trans q5.below
      have hg2w : w.heap.size ≤ g2 := Nat.le_trans hbel2.size hg2
      go_wp2_with fail
      refine (curTake g2 0 m _ r _ hcs5 (by rw [hr.out]; omega) rfl).mono ?_
      rintro e w6 ⟨A6, n6, c6, rfl, hob6, hcs6, on6⟩
      have hcs6' : Cur w6 g2 s2 r r.length := by rw [hr.out]; simpa using hcs6
      have hobm6 := hob5.grown on6 (.inr hg2o.out)
      have hcur6 := hcur5.only on6 hg2g.out hcs5.noByte
      have hbel6 : Below w.heap.size w w6 := on6.below hbel5 hg2w hbel5.size
      go_wp2_with fail
      refine (curByteEnd g2 r _ hcs6').mono ?_
      rintro e w7 ⟨rfl, q7⟩
      have hcs7 := hcs6'.qt q7
      go_wp2_with fail
      refine (curBack g2 _ 0 _ r _ hcs7 (by omega) rfl).mono ?_
      rintro e w8 ⟨rfl, hcs8, on8⟩
      have hobm8 := (hobm6.below q7.below).grown on8 (.inr hg2o.out)
      have hcur8 := (hcur6.qt q7).only on8 hg2g.out hcs7.noByte
      have hbel8 : Below w.heap.size w w8 := on8.below (hbel6.trans q7.below) hg2w (hbel6.trans q7.below).size
      go_wp2_with fail
      refine (curRest g2 0 r _ hcs8).mono ?_
      rintro e w9 ⟨A9, n9, c9, rfl, hob9, hcs9, on9⟩
      have hobm9 := hobm8.grown on9 (.inr hg2o.out)
      have hcur9 := hcur8.only on9 hg2g.out hcs8.noByte
      have hbel9 : Below w.heap.size w w9 := on9.below hbel8 hg2w hbel8.size
      obtain ⟨hbs9, _⟩ := hob9.bs
      rw [List.drop_zero] at hbs9
      have hn9 : Hid (n9 = m) := by unfold Hid; rw [← hbs9.len, hr.out]
      have htk : Hid ((a.take k).length ≤ 5000) := by unfold Hid; rw [List.length_take]; omega
      have hcat : Hid (a.take k ++ r = a.take (k + m)) := by unfold Hid; rw [← HR.out, List.take_add]
      have hw12 : w1.heap.size ≤ w2.heap.size := Nat.le_trans hon.size (q2.below (B := 0)).size
      have on92 : Only g w1 w9 := by
        have n3 : Only g w1 w3 := (hon.trans (Only.of_qt q2)).trans on3
        have n5 : Only g w1 w5 := (n3.trans (Only.of_qt q4)).trans (Only.of_qt q5)
        have n6 : Only g w1 w6 := n5.grown on6 (by intro b hb; cases hb; omega)
        have n7 : Only g w1 w7 := n6.trans (Only.of_qt q7)
        have n8 : Only g w1 w8 := n7.grown on8 (by intro b hb; cases hb; omega)
        exact n8.grown on9 (by intro b hb; cases hb; omega)
      go_wp2_with (at_builtin; refine wpList_appendB rfl _ _ 22 rfl w1.heap.size 5 i0 (.int .u8 0) Try.underlying22 hi hz0 hz1 hz2 rfl _ (a.take k) rfl hobm9 _ _ _ r rfl hbs9 ?ab1 ?ab2 ?_)
      case ab1 => have := htk.out; have := hn9.out; omega
      case ab2 => exact on92.size
      intro v' w10 hob10 hg10 _ hblk
      rw [hcat.out] at hob10
      have hrow : ∀ b, u6.ownBlock = some b → w1.heap.size ≤ b := fun b hb => (hobm9.lt b hb).1
      have on10 := on92.grown hg10 hrow
      have hcur10 : Cur w10 g sv a (k + m) := hcur0.frame on92 hcur9 hg10 hrow
      go_wp2
      go_roundw
      case rel => exact ⟨j + 1, k + m, by omega, by omega, hkm, by go_num, hob10, hcur10, on10⟩
      case measure => simp [intOf]; omega
    · by_cases hjp' : j < p
      · have g1 : (j : Int) < p := by omega
        have g2 : decide ((j : Int) < 50) = false := by simp; omega
        go_wp2_with fail
        refine (curRest g k a _ hcur).mono ?_
        rintro e w3 ⟨A3, n3, c3, rfl, hob3, hcur3, on3⟩
        obtain ⟨hbs3, _⟩ := hob3.bs
        have hobm3 := hob.grown on3 (.inr hne.out)
        have on13 := hon.trans on3
        have hcat : Hid (a.take k ++ a.drop k = a) := List.take_append_drop k a
        have hn3 : Hid ((a.take k).length + n3 ≤ 140737488355328) := by unfold Hid; have := hbs3.len; simp at this; have := hla.out; simp; omega
        go_wp2_with (at_builtin; refine wpList_appendB rfl _ _ 22 rfl w1.heap.size 5 i0 (.int .u8 0) Try.underlying22 hi hz0 hz1 hz2 rfl _ (a.take k) rfl hobm3 _ _ _ (a.drop k) rfl hbs3 ?ac1 ?ac2 ?_)
        case ac1 => exact hn3.out
        case ac2 => exact on13.size
        intro v4 w4 hob4 hg4 _ _
        (try rw [hcat.out] at hob4)
        have hrow : ∀ b, u6.ownBlock = some b → w1.heap.size ≤ b := fun b hb => (hobm3.lt b hb).1
        have on14 := on13.grown hg4 hrow
        have hcur4 : Cur w4 g sv a a.length := hcur0.frame on13 hcur3 hg4 hrow
        obtain ⟨A4, c4, rfl, hc4, hbs4⟩ := hob4.slice
        rw [hla.out] at hbs4 hc4 hob4 ⊢
        have B4 : Below w.heap.size w w4 := on14.below hb1 hg hb1.size
        go_wp2_with fail
        refine (known1 _).mono ?_
        rintro e w5 ⟨rfl, b5⟩
        have B5 : Below w.heap.size w w5 := B4.trans (b5.mono B4.size)
        go_wp2_with fail
        refine (refSame A4 A n' n' c4 cA a a _ (hbs4.below b5) (hA'.below B5) (by omega) (by omega)).mono ?_
        rintro e w6 ⟨rfl, q6⟩
        have B6 : Below w.heap.size w w6 := B5.trans q6.below
        have hcur6 := (hcur4.below b5).qt q6
        go_wp2_with fail
        refine (curLeft g a.length a _ hcur6).mono ?_
        rintro e w7 ⟨rfl, q7⟩
        rw [Int.sub_self]
        go_wp2_with fail
        refine (curAt g a.length a _ (hcur6.qt q7)).mono ?_
        rintro e w8 ⟨rfl, rfl⟩
        rw [hla.out]
        go_wp2
        go_ret
        exact ⟨rfl, B6.trans q7.below⟩
      · have g1 : ¬ (j : Int) < p := by omega
        go_wp2_with fail
        refine (curRest g k a _ hcur).mono ?_
        rintro e w3 ⟨A3, n3, c3, rfl, hob3, hcur3, on3⟩
        obtain ⟨hbs3, _⟩ := hob3.bs
        have hobm3 := hob.grown on3 (.inr hne.out)
        have on13 := hon.trans on3
        have hcat : Hid (a.take k ++ a.drop k = a) := List.take_append_drop k a
        have hn3 : Hid ((a.take k).length + n3 ≤ 140737488355328) := by unfold Hid; have := hbs3.len; simp at this; have := hla.out; simp; omega
        go_wp2_with (at_builtin; refine wpList_appendB rfl _ _ 22 rfl w1.heap.size 5 i0 (.int .u8 0) Try.underlying22 hi hz0 hz1 hz2 rfl _ (a.take k) rfl hobm3 _ _ _ (a.drop k) rfl hbs3 ?ad1 ?ad2 ?_)
        case ad1 => exact hn3.out
        case ad2 => exact on13.size
        intro v4 w4 hob4 hg4 _ _
        (try rw [hcat.out] at hob4)
        have hrow : ∀ b, u6.ownBlock = some b → w1.heap.size ≤ b := fun b hb => (hobm3.lt b hb).1
        have on14 := on13.grown hg4 hrow
        have hcur4 : Cur w4 g sv a a.length := hcur0.frame on13 hcur3 hg4 hrow
        obtain ⟨A4, c4, rfl, hc4, hbs4⟩ := hob4.slice
        rw [hla.out] at hbs4 hc4 hob4 ⊢
        have B4 : Below w.heap.size w w4 := on14.below hb1 hg hb1.size
        go_wp2_with fail
        refine (known1 _).mono ?_
        rintro e w5 ⟨rfl, b5⟩
        have B5 : Below w.heap.size w w5 := B4.trans (b5.mono B4.size)
        go_wp2_with fail
        refine (refSame A4 A n' n' c4 cA a a _ (hbs4.below b5) (hA'.below B5) (by omega) (by omega)).mono ?_
        rintro e w6 ⟨rfl, q6⟩
        have B6 : Below w.heap.size w w6 := B5.trans q6.below
        have hcur6 := (hcur4.below b5).qt q6
        go_wp2_with fail
        refine (curLeft g a.length a _ hcur6).mono ?_
        rintro e w7 ⟨rfl, q7⟩
        rw [Int.sub_self]
        go_wp2_with fail
        refine (curAt g a.length a _ (hcur6.qt q7)).mono ?_
        rintro e w8 ⟨rfl, rfl⟩
        rw [hla.out]
        go_wp2
        go_ret
        exact ⟨rfl, B6.trans q7.below⟩
end Go.Proofs.Ytcekglicepjjpaa
