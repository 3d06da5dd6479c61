/-
  The law OidBack, walked.
-/
import Derived.Test.YtfighoplbmmijaaDoorRw
import Derived.Test.YtfighoplbmmijaaDoorLwT
namespace Go.Proofs.YtfighoplbmmijaaDoor
open Go.RowKit Go.Joins
set_option linter.unusedVariables false
set_option linter.unusedSimpArgs false
set_option maxRecDepth 4000

set_option maxHeartbeats 6400000 in
theorem lawBack0 (A B : Option Addr) (n m c d : Nat) (o : List Int) (b : List UInt8) (w : World) (ho : Zs w A n o) (hb : Bs w B m b) (hc : n ≤ c) (hd : m ≤ d) (ht : Tab w) (hm : Mx w) :
    Calls Tryd.prog 4 #[.slice A n c, .slice B m d] w fun e w' => e = .returned (.bool true) ∧ Below w.heap.size w w' := by
  have F1 := few4 A n c o w ho hc
  have hb' : Bs w B (min (m : Int) 300).toNat (b.take (min (m : Int) 300).toNat) := hb.take (by omega)
  have hm300 : (min (m : Int) 300).toNat ≤ 300 := by omega
  have hd' : (min (m : Int) 300).toNat ≤ d := by omega
  go_enter Tryd.func4, Tryd.ntmps4
  go_wp2_with fail
  refine F1.mono ?_
  rintro e w1 ⟨rfl, ho1, rfl⟩
  have hn50 : min n 50 ≤ 50 := by omega
  have hc1 : min n 50 ≤ c := by omega
  clear F1 ho hc
  generalize o.take (min n 50) = o' at *
  generalize min n 50 = n' at *
  clear o
  go_wp2_with fail
  clear hb
  generalize b.take (min (m : Int) 300).toNat = b' at *
  generalize (min (m : Int) 300).toNat = m' at *
  cases hr : rightO o' with
  | false =>
    have CN := oidContentsNo A n' c o' w ho1 (by omega) hr
    refine CN.mono ?_
    rintro e w2 ⟨rfl, q2⟩
    clear CN
    have PB := oidParse B m' d b' w2 (hb'.below q2) hd' (by omega)
    cases hpe : decide ((prsO b').2 = 0) with
    | false =>
      have hne : (prsO b').2 ≠ 0 := by simpa using hpe
      clear hpe
      go_wp2_with fail
      refine PB.mono ?_
      intro e wa hP
      obtain ⟨Aa, ca, rfl, za, ka, ba⟩ := hP.open_
      clear hP za PB
      have hbq : ((prsO b').2 == 0) = false := by simpa using hne
      generalize (prsO b').2 = pe at *
      generalize (prsO b').1.length = pl at *
      have qa : Below w.heap.size w wa := q2.trans (Below.mono ba q2.size)
      go_wp2_with fail
      refine (oidKnown wa (ht.below qa)).mono ?_
      rintro e wb ⟨rfl, bb⟩
      go_wp2
      go_ret
      exact ⟨rfl, qa.trans (Below.mono bb qa.size)⟩
    | true =>
      have he0 : (prsO b').2 = 0 := by simpa using hpe
      clear hpe
      obtain ⟨pl, hpl⟩ : ∃ pl, prsO b' = (pl, 0) := ⟨(prsO b').1, by rw [← he0]⟩
      obtain ⟨hR9, hC9⟩ := prs_back hpl
      rw [hpl] at PB
      clear he0 hpl
      have hl9 := hR9.max
      go_wp2_with fail
      refine PB.mono ?_
      intro e wa hP
      obtain ⟨Aa, ca, rfl, za, ka, ba⟩ := hP.open_
      clear hP PB
      simp only at za ka ⊢
      have qa : Below w.heap.size w wa := q2.trans (Below.mono ba q2.size)
      have CC := oidContents Aa pl.length ca pl wa za ka (by omega) hR9
      rw [hC9] at CC
      clear za hC9
      generalize pl.length = pn at *
      go_wp2_with fail
      refine CC.mono ?_
      rintro e wb ⟨Ab, mb, cb, rfl, ob, bb⟩
      have qb : Below w.heap.size w wb := qa.trans (Below.mono bb qa.size)
      have SM := refSame Ab B mb m' cb d b' b' wb ob.bs.1 (hb'.below qb) (by have := ob.bs.1.len; have := hb'.len; omega) (by omega)
      rw [show decide (b' = b') = true by simp] at SM
      go_wp2_with fail
      refine SM.mono ?_
      rintro e wc ⟨rfl, qc0⟩
      have qc : Below w.heap.size w wc := qb.trans qc0.below
      go_wp2_with fail
      refine (oidKnown wc (ht.below qc)).mono ?_
      rintro e wd ⟨rfl, bd⟩
      go_wp2
      go_ret
      exact ⟨rfl, qc.trans (Below.mono bd qc.size)⟩
  | true =>
    have hR := (rightO_iff o').1 hr
    clear hr
    have ln := Lib.hid ho1.len
    refine (oidContents A n' c o' w ho1 hc1 (by omega) hR).mono ?_
    rintro e w2 ⟨A2, m2, c2, rfl, x2, q2⟩
    have P2 := oidParse A2 m2 c2 (contO o') w2 x2.bs.1 x2.bs.2 (by have := x2.bs.1.len; have := contO_len hR; omega)
    rw [prs_cont hR] at P2
    go_wp2_with fail
    refine P2.mono ?_
    intro e w3 hP3
    obtain ⟨A3, c3, rfl, z3, k3, b3⟩ := hP3.open_
    clear hP3 P2 x2
    simp only at z3 k3 ⊢
    have q3 : Below w.heap.size w w3 := q2.trans (Below.mono b3 q2.size)
    have W3 := oidWriteW A n' c o' w3 (ho1.below q3) hc1 (by omega) hR
    rw [ln.out] at z3 k3 ⊢
    go_wp2_with fail
    refine W3.mono ?_
    rintro e w4 ⟨A4, m4, c4, rfl, x4, b4⟩
    have q4 : Below w.heap.size w w4 := q3.trans (Below.mono b4 q3.size)
    have z4 := z3.below b4
    clear z3 W3
    have hml : m4 ≤ 1099511627776 := by
      have h1 := x4.bs.1.len
      have h2 := contO_len hR
      have h3 := tagB_len tgO
      have h4 := lenB_len ((contO o').length : Int)
      unfold wrapB at h1
      simp only [List.length_append] at h1
      omega
    go_wp2_with fail
    refine (octNew A4 m4 c4 _ w4 x4.bs.1 hml).mono ?_
    rintro e w5 ⟨g, sv, rfl, hg, hcur, b5⟩
    have RB := oidReadBack g (contO o') o' w5 hcur (by have := contO_len hR; omega) (prs_cont hR)
    rw [ln.out] at RB
    go_wp2_with fail
    refine RB.mono ?_
    rintro e w6 ⟨A6, c6, rfl, z6, k6, on6⟩
    have b46 : Below w4.heap.size w4 w6 := Only.below on6 b5 hg b5.size
    have q6 : Below w.heap.size w w6 := q4.trans (Below.mono b46 q4.size)
    have y4 := z4.below b46
    clear RB hcur on6 b5 z4 x4
    have T6 := oidText A n' c o' w6 (ho1.below q6) (by omega) hR (ht.below q6)
    go_wp2_with fail
    refine T6.mono ?_
    rintro e w7 ⟨rfl, b7⟩
    have q7 : Below w.heap.size w w7 := q6.trans (Below.mono b7 q6.size)
    have y7 := y4.below b7
    have x7 := z6.below b7
    clear T6 y4 z6
    have hts : (ByteArray.mk (textO o').toArray).size ≤ 1000000 := by
      have h1 : (ByteArray.mk (textO o').toArray).size = (textO o').length := by simp [ByteArray.size]
      have h3 := join_len (xs := o'.map Lib.itoa) (k := 10) (by
        intro x hx
        obtain ⟨y, hy, rfl⟩ := List.mem_map.1 hx
        exact itoa_len y (hR.arcs y hy).1 (hR.arcs y hy).2)
      have h4 := hR.max
      have h5 : textO o' = Lib.join (o'.map Lib.itoa) [46] := rfl
      rw [h1, h5]
      simp only [List.length_map] at h3
      omega
    have FT := oidFromText ⟨(textO o').toArray⟩ w7 hts (hm.below q7)
    have hft : fromO (ByteArray.mk (textO o').toArray).data.toList = (o', 0) := by
      show fromO (textO o').toArray.toList = _
      rw [List.toList_toArray]; exact from_text hR
    rw [hft] at FT
    clear hft hts
    go_wp2_with fail
    refine FT.mono ?_
    intro e w8 hP8
    obtain ⟨A8, c8, rfl, z8, k8, b8⟩ := hP8.open_
    clear hP8 FT
    simp only at z8 k8 ⊢
    rw [ln.out] at z8 k8 ⊢
    have q8 : Below w.heap.size w w8 := q7.trans (Below.mono b8 q7.size)
    have y8 := y7.below b8
    have x8 := x7.below b8
    clear y7 x7
    have SS : Hid (∀ (W : World) (A' : Option Addr) (c' : Nat), Below w.heap.size w W → Zs W A' n' o' → Calls Tryd.prog 14 #[.slice A n' c, .slice A' n' c'] W fun e w' => e = .returned (.bool true) ∧ Qt W w') := by
      intro W A' c' hW hZ
      have := ref4Same A A' n' n' c c' o' o' W (ho1.below hW) hZ (by omega) (by omega)
      rw [show decide (o' = o') = true by simp] at this
      exact this
    go_wp2_with fail
    refine (SS.out w8 A3 c3 q8 y8).mono ?_
    rintro e w9 ⟨rfl, u9⟩
    have q9 : Below w.heap.size w w9 := q8.trans u9.below
    go_wp2_with fail
    refine (SS.out w9 A6 c6 q9 (x8.qt u9)).mono ?_
    rintro e w10 ⟨rfl, u10⟩
    have q10 : Below w.heap.size w w10 := q9.trans u10.below
    go_wp2_with fail
    refine (SS.out w10 A8 c8 q10 ((z8.qt u9).qt u10)).mono ?_
    rintro e w11 ⟨rfl, u11⟩
    have q11 : Below w.heap.size w w11 := q10.trans u11.below
    clear y8 x8 z8 SS
    have PB := oidParse B m' d b' w11 (hb'.below q11) hd' (by omega)
    cases hpe : decide ((prsO b').2 = 0) with
    | false =>
      have hne : (prsO b').2 ≠ 0 := by simpa using hpe
      clear hpe
      go_wp2_with fail
      refine PB.mono ?_
      intro e wa hP
      obtain ⟨Aa, ca, rfl, za, ka, ba⟩ := hP.open_
      clear hP za PB
      have hbq : ((prsO b').2 == 0) = false := by simpa using hne
      generalize (prsO b').2 = pe at *
      generalize (prsO b').1.length = pl at *
      have qa : Below w.heap.size w wa := q11.trans (Below.mono ba q11.size)
      go_wp2_with fail
      refine (oidKnown wa (ht.below qa)).mono ?_
      rintro e wb ⟨rfl, bb⟩
      go_wp2
      go_ret
      exact ⟨rfl, qa.trans (Below.mono bb qa.size)⟩
    | true =>
      have he0 : (prsO b').2 = 0 := by simpa using hpe
      clear hpe
      obtain ⟨pl, hpl⟩ : ∃ pl, prsO b' = (pl, 0) := ⟨(prsO b').1, by rw [← he0]⟩
      obtain ⟨hR9, hC9⟩ := prs_back hpl
      rw [hpl] at PB
      clear he0 hpl
      have hl9 := hR9.max
      go_wp2_with fail
      refine PB.mono ?_
      intro e wa hP
      obtain ⟨Aa, ca, rfl, za, ka, ba⟩ := hP.open_
      clear hP PB
      simp only at za ka ⊢
      have qa : Below w.heap.size w wa := q11.trans (Below.mono ba q11.size)
      have CC := oidContents Aa pl.length ca pl wa za ka (by omega) hR9
      rw [hC9] at CC
      clear za hC9
      generalize pl.length = pn at *
      go_wp2_with fail
      refine CC.mono ?_
      rintro e wb ⟨Ab, mb, cb, rfl, ob, bb⟩
      have qb : Below w.heap.size w wb := qa.trans (Below.mono bb qa.size)
      have SM := refSame Ab B mb m' cb d b' b' wb ob.bs.1 (hb'.below qb) (by have := ob.bs.1.len; have := hb'.len; omega) (by omega)
      rw [show decide (b' = b') = true by simp] at SM
      go_wp2_with fail
      refine SM.mono ?_
      rintro e wc ⟨rfl, qc0⟩
      have qc : Below w.heap.size w wc := qb.trans qc0.below
      go_wp2_with fail
      refine (oidKnown wc (ht.below qc)).mono ?_
      rintro e wd ⟨rfl, bd⟩
      go_wp2
      go_ret
      exact ⟨rfl, qc.trans (Below.mono bd qc.size)⟩
end Go.Proofs.YtfighoplbmmijaaDoor
