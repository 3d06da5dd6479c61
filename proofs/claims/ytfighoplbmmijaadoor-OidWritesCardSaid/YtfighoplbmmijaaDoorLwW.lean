/-
  The reference's text of an oid; the law OidWrites, walked.
-/
import Derived.Test.YtfighoplbmmijaaDoorR4
import Derived.Test.YtfighoplbmmijaaDoorKn
import Derived.Test.YtfighoplbmmijaaDoorRf
namespace Go.Proofs.YtfighoplbmmijaaDoor
open Go.RowKit Go.Joins
set_option linter.unusedVariables false
set_option linter.unusedSimpArgs false
set_option maxRecDepth 4000

theorem joinTail_snoc (sep : List UInt8) (r : List (List UInt8)) (x : List UInt8) : Lib.joinTail sep (r ++ [x]) = Lib.joinTail sep r ++ sep ++ x := by simp [Lib.joinTail]
theorem join_snoc {xs : List (List UInt8)} (h : xs ≠ []) (x : List UInt8) : Lib.join (xs ++ [x]) [46] = Lib.join xs [46] ++ [46] ++ x := by
  cases xs with
  | nil => exact absurd rfl h
  | cons y r => rw [List.cons_append, Lib.join_cons, Lib.join_cons, joinTail_snoc]; simp
theorem text_take {l : List Int} {k : Nat} (h : k < l.length) : textO (l.take (k + 1)) = (if k = 0 then [] else textO (l.take k) ++ [46]) ++ Lib.itoa (zth l k) := by
  unfold textO
  have e : l[k] = zth l k := by simp [zth, List.getD, List.getElem?_eq_getElem h]
  rw [List.take_succ_eq_append_getElem h, List.map_append, e]
  by_cases hk : k = 0
  · subst hk; simp [Lib.join_one]
  · rw [if_neg hk, List.map_cons, List.map_nil, join_snoc (by
      intro e2
      have := congrArg List.length e2
      rw [List.length_map, List.length_take, List.length_nil] at this
      omega)]
theorem text_len {l : List Int} (h : RightO l) (k : Nat) : (textO (l.take k)).length ≤ 400 := by
  have h3 := join_len (xs := (l.take k).map Lib.itoa) (k := 10) (by
    intro x hx
    obtain ⟨y, hy, rfl⟩ := List.mem_map.1 hx
    have hy' := List.mem_of_mem_take hy
    exact itoa_len y (h.arcs y hy').1 (h.arcs y hy').2)
  have h4 := h.max
  have h5 : textO (l.take k) = Lib.join ((l.take k).map Lib.itoa) [46] := rfl
  rw [h5]
  simp only [List.length_map, List.length_take] at h3
  omega

set_option maxHeartbeats 3200000 in
theorem ref4Text (A : Option Addr) (n c : Nat) (l : List Int) (w : World) (h : Zs w A n l) (hr : RightO l) :
    Calls Tryd.prog 19 #[.slice A n c] w fun e w' => e = .returned (.string ⟨(textO l).toArray⟩) ∧ Below w.heap.size w w' := by
  have hl := Lib.hid h.len
  have h2 : 2 ≤ n := by have := hr.two; have := hl.out; omega
  have h32 : n ≤ 32 := by have := hr.max; have := hl.out; omega
  have ZS : Hid (∀ W, Below w.heap.size w W → Zs W A n l) := fun W hW => h.below hW
  have LEN : Hid (∀ k, 0 ≤ zth l k ∧ zth l k ≤ 2147483647) := hr.at_
  have TL := Lib.hid (text_len hr)
  go_enter Tryd.func19, Tryd.ntmps19
  go_wp2
  go_loopw [3, 4] (fun sv i wr => ∃ (k : Nat) (t : ByteArray), k ≤ n ∧ i = .int .i64 (k : Int) ∧ sv = .string t ∧ Hid (t.data.toList = textO (l.take k)) ∧ Below w.heap.size w wr) (fun _ i _ => n - (intOf i).toNat)
  case atStart => exact ⟨0, ⟨#[]⟩, by omega, rfl, rfl, by simp [Hid, textO, Lib.join_nil], Below.refl _ _⟩
  case round =>
    obtain ⟨k, t, hk, rfl, rfl, ht, hB⟩ := hrel
    have hts : t.size ≤ 400 := by
      have h1 := congrArg List.length ht.out
      have h2 : t.data.toList.length = t.size := rfl
      have := TL.out k
      omega
    by_cases hlt : k < n
    · obtain ⟨b, o, rfl, cz⟩ := (ZS.out wr hB).at_ hlt
      have e1 : (k : Int) < n := by omega
      have hz := LEN.out k
      have hst := Lib.hid (text_take (l := l) (k := k) (by have := hl.out; omega))
      generalize zth l k = z at *
      have OF := ref3Of0 z.toNat wr (by omega)
      rw [show ((z.toNat : Nat) : Int) = z by omega] at OF
      have hil := itoa_len z hz.1 hz.2
      have hisz : (ByteArray.mk (Lib.itoa z).toArray).size ≤ 10 := by
        have : (ByteArray.mk (Lib.itoa z).toArray).size = (Lib.itoa z).length := by simp [ByteArray.size]
        omega
      by_cases hk0 : k = 0
      · subst hk0
        rw [Nat.add_zero] at cz
        have hnew : Hid ((t ++ ByteArray.mk (Lib.itoa z).toArray).data.toList = textO (l.take (0 + 1))) := by
          unfold Hid
          rw [hst.out, if_pos rfl]
          have h1 := ht.out
          simp [textO, Lib.join_nil] at h1
          simp [ByteArray.data_append, h1]
        clear hst
        go_wp2_with fail
        refine OF.mono ?_
        rintro e w2 ⟨s2, u2, rfl, hv2, hz2, _, hl2, hB2⟩
        have TX := ref3Text s2 u2 w2 hv2 (by omega)
        rw [hz2] at TX
        have q2 : Below w.heap.size w w2 := hB.trans (Below.mono hB2 hB.size)
        clear hz2 OF
        go_wp2_with fail
        refine TX.mono ?_
        rintro e w3 ⟨rfl, hB3⟩
        generalize ByteArray.mk (Lib.itoa z).toArray = bz at *
        go_wp2
        refine ⟨⟨1, _, by omega, by go_num, rfl, hnew, q2.trans (Below.mono hB3 q2.size)⟩, by simp [intOf]; omega⟩
      · have e2 : (0 : Int) < k := by omega
        have hnew : Hid ((t ++ ByteArray.mk #[46] ++ ByteArray.mk (Lib.itoa z).toArray).data.toList = textO (l.take (k + 1))) := by
          unfold Hid
          rw [hst.out, if_neg hk0]
          have h1 := ht.out
          simp [ByteArray.data_append, h1]
        have hts2 : (t ++ ByteArray.mk #[46]).size ≤ 401 := by
          rw [ByteArray.size_append]
          have : (ByteArray.mk #[46]).size = 1 := rfl
          omega
        clear hst
        go_wp2_with fail
        refine OF.mono ?_
        rintro e w2 ⟨s2, u2, rfl, hv2, hz2, _, hl2, hB2⟩
        have TX := ref3Text s2 u2 w2 hv2 (by omega)
        rw [hz2] at TX
        have q2 : Below w.heap.size w w2 := hB.trans (Below.mono hB2 hB.size)
        clear hz2 OF
        go_wp2_with fail
        refine TX.mono ?_
        rintro e w3 ⟨rfl, hB3⟩
        generalize ByteArray.mk (Lib.itoa z).toArray = bz at *
        generalize (t ++ ByteArray.mk #[46]) = t2 at *
        go_wp2
        refine ⟨⟨k + 1, _, by omega, by go_num, rfl, hnew, q2.trans (Below.mono hB3 q2.size)⟩, by simp [intOf]; omega⟩
    · have e1 : ¬ (k : Int) < n := by omega
      have htt : Hid (t = ⟨(textO l).toArray⟩) := by
        have h1 := ht.out
        rw [List.take_of_length_le (by have := hl.out; omega)] at h1
        unfold Hid
        rw [← h1]
      go_wp2
      go_ret
      rw [htt.out]
      exact ⟨rfl, hB⟩

set_option maxHeartbeats 6400000 in
theorem lawWrites0 (A : Option Addr) (n c : Nat) (o : List Int) (w : World) (ho : Zs w A n o) (hc : n ≤ c) (ht : Tab w) :
    Calls Tryd.prog 3 #[.slice A n c] w fun e w' => e = .returned (.bool true) ∧ Below w.heap.size w w' := by
  obtain ⟨i0, hi, hz0, hz1, hz2⟩ := info_parts int_info
  have F1 := few4 A n c o w ho hc
  go_enter Tryd.func3, Tryd.ntmps3
  go_wp2_with fail
  refine F1.mono ?_
  rintro e w1 ⟨rfl, ho1, rfl⟩
  have hn50 : min n 50 ≤ 50 := by omega
  have hc1 : min n 50 ≤ c := by omega
  clear F1 ho hc
  generalize o.take (min n 50) = o' at *
  generalize min n 50 = n' at *
  clear o
  have ln := Lib.hid ho1.len
  have hov0 : Ov (w.alloc (.cells #[] 3)) w.heap.size 3 (.slice (some ⟨w.heap.size, 0, none⟩) 0 0) [] := World.ownsRow_made w #[] 0 (Nat.le_refl _) (Nat.zero_le _) rfl
  have hvs0 := Vs.below ho1 (below_alloc1 w (Obj.cells #[] 3))
  go_wp2_with (at_builtin; refine wpList_appendV rfl _ _ 22 rfl w.heap.size 3 i0 (.int .i64 0) Tryd.underlying22 hi hz0 hz1 (by omega) rfl _ [] rfl hov0 _ _ _ (o'.map intV) rfl hvs0 (by intro u hu; obtain ⟨z, _, rfl⟩ := List.mem_map.1 hu; rfl) (by simp; omega) (by simp) ?_)
  intro v1 w1 hov1 hg1 _ _
  have q1 : Below w.heap.size w w1 := hov0.grew (below_alloc1 w _) (Nat.le_refl _) hg1
  obtain ⟨A1, c1, rfl, hk1, hv1⟩ := hov1.slice
  have hl1 : (o'.map intV).length = n' := by rw [List.length_map]; exact ln.out
  simp only [List.nil_append, hl1] at hk1 hv1 hov1 ⊢
  clear hov0 hg1 hov1 hl1 hvs0
  have RG : Hid (∀ W, Below w.heap.size w W → Calls Tryd.prog 12 #[.slice A n' c] W fun e w' => e = .returned (.bool (rightO o')) ∧ Below W.heap.size W w') := by
    intro W hW
    refine (oidRight A n' c o' W (ho1.below hW) (by omega)).mono ?_
    rintro e w' ⟨rfl, q⟩
    exact ⟨rfl, q.below⟩
  have RR : Hid (∀ W, Below w.heap.size w W → Calls Tryd.prog 13 #[.slice A n' c] W fun e w' => e = .returned (.bool (rightO o')) ∧ W = w') := fun W hW => refRight4 A n' c o' W (ho1.below hW) (by omega)
  have SS : Hid (∀ (W : World), Below w.heap.size w W → Zs W A1 n' o' → Calls Tryd.prog 14 #[.slice A n' c, .slice A1 n' c1] W fun e w' => e = .returned (.bool true) ∧ Below W.heap.size W w') := by
    intro W hW hZ
    have := ref4Same A A1 n' n' c c1 o' o' W (ho1.below hW) hZ (by omega) (by omega)
    rw [show decide (o' = o') = true by simp] at this
    exact this.mono fun e w' ⟨he, q⟩ => ⟨he, q.below⟩
  have z1 : Zs w1 A1 n' o' := hv1
  clear hv1
  cases hr : rightO o' with
  | false =>
    rw [hr] at RG RR
    go_wp2_with fail
    refine (oidContentsNo A n' c o' w1 (ho1.below q1) (by omega) hr).mono ?_
    rintro e w2 ⟨rfl, b2⟩
    have q2 : Below w.heap.size w w2 := q1.trans (Below.mono b2 q1.size)
    have z2 := z1.below b2
    go_wp2_with fail
    refine (oidWriteNo A n' c o' w2 (ho1.below q2) (by omega) hr).mono ?_
    rintro e w3 ⟨rfl, b3⟩
    have q3 : Below w.heap.size w w3 := q2.trans (Below.mono b3 q2.size)
    have z3 := z2.below b3
    go_wp2_with fail
    refine (oidTextNo A n' c o' w3 (ho1.below q3) (by omega) hr).mono ?_
    rintro e w4 ⟨rfl, b4⟩
    have q4 : Below w.heap.size w w4 := q3.trans (Below.mono b4 q3.size)
    have z4 := z3.below b4
    go_wp2_with fail
    refine (oidMustNo A n' c o' w4 (ho1.below q4) (by omega) hr).mono ?_
    rintro e w5 ⟨rfl, b5⟩
    have q5 : Below w.heap.size w w5 := q4.trans (Below.mono b5 q4.size)
    have z5 := z4.below b5
    clear z1 z2 z3 z4 b2 b3 b4 b5
    go_wp2_with fail
    refine (RG.out w5 q5).mono ?_
    rintro e w6 ⟨rfl, b6⟩
    have q6 : Below w.heap.size w w6 := q5.trans (Below.mono b6 q5.size)
    have z6 := z5.below b6
    go_wp2_with fail
    refine (RR.out w6 q6).mono ?_
    rintro e w7 ⟨rfl, rfl⟩
    go_wp2_with fail
    refine (SS.out w6 q6 z6).mono ?_
    rintro e w8 ⟨rfl, b8⟩
    have q8 : Below w.heap.size w w8 := q6.trans (Below.mono b8 q6.size)
    go_wp2_with fail
    refine (RR.out w8 q8).mono ?_
    rintro e w9 ⟨rfl, rfl⟩
    go_wp2_with fail
    refine (oidKnown w8 (ht.below q8)).mono ?_
    rintro e w10 ⟨rfl, b10⟩
    go_wp2
    go_ret
    exact ⟨rfl, q8.trans (Below.mono b10 q8.size)⟩
  | true =>
    have hR := (rightO_iff o').1 hr
    rw [hr] at RG RR
    have hcl := contO_len hR
    have hwl : (wrapB tgO (contO o')).length ≤ 1000 := by
      have h3 := tagB_len tgO
      have h4 := lenB_len ((contO o').length : Int)
      unfold wrapB
      simp only [List.length_append]
      omega
    go_wp2_with fail
    refine (oidContents A n' c o' w1 (ho1.below q1) hc1 (by omega) hR).mono ?_
    rintro e w2 ⟨Ab, mb, cb, rfl, obb, b2⟩
    have q2 : Below w.heap.size w w2 := q1.trans (Below.mono b2 q1.size)
    have z2 := z1.below b2
    have y2 := obb.bs.1
    have lb := y2.len
    clear obb
    go_wp2_with fail
    refine (oidWriteW A n' c o' w2 (ho1.below q2) hc1 (by omega) hR).mono ?_
    rintro e w3 ⟨Aw, mw, cw, rfl, oww, b3⟩
    have q3 : Below w.heap.size w w3 := q2.trans (Below.mono b3 q2.size)
    have z3 := z2.below b3
    have y3 := y2.below b3
    have x3 := oww.bs.1
    have lw := x3.len
    clear oww
    go_wp2_with fail
    refine (oidText A n' c o' w3 (ho1.below q3) (by omega) hR (ht.below q3)).mono ?_
    rintro e w4 ⟨rfl, b4⟩
    have q4 : Below w.heap.size w w4 := q3.trans (Below.mono b4 q3.size)
    have z4 := z3.below b4
    have y4 := y3.below b4
    have x4 := x3.below b4
    go_wp2_with fail
    refine (oidMust A n' c o' w4 (ho1.below q4) hc1 (by omega) hR).mono ?_
    rintro e w5 ⟨Am, mm, cm, rfl, omm, b5⟩
    have q5 : Below w.heap.size w w5 := q4.trans (Below.mono b5 q4.size)
    have z5 := z4.below b5
    have y5 := y4.below b5
    have x5 := x4.below b5
    have m5 := omm.bs.1
    have lm := m5.len
    clear omm z1 z2 z3 z4 y2 y3 y4 x3 x4 b2 b3 b4 b5
    have LB := Lib.hid lb
    have LW := Lib.hid lw
    have LM := Lib.hid lm
    clear lb lw lm
    go_wp2_with fail
    refine (RG.out w5 q5).mono ?_
    rintro e w6 ⟨rfl, b6⟩
    have q6 : Below w.heap.size w w6 := q5.trans (Below.mono b6 q5.size)
    have z6 := z5.below b6
    have y6 := y5.below b6
    have x6 := x5.below b6
    have m6 := m5.below b6
    go_wp2_with fail
    refine (RR.out w6 q6).mono ?_
    rintro e w7 ⟨rfl, rfl⟩
    go_wp2_with fail
    refine (SS.out w6 q6 z6).mono ?_
    rintro e w8 ⟨rfl, b8⟩
    have q8 : Below w.heap.size w w8 := q6.trans (Below.mono b8 q6.size)
    have y8 := y6.below b8
    have x8 := x6.below b8
    have m8 := m6.below b8
    go_wp2_with fail
    refine (RR.out w8 q8).mono ?_
    rintro e w9 ⟨rfl, rfl⟩
    go_wp2_with fail
    refine (oidKnown w8 (ht.below q8)).mono ?_
    rintro e w10 ⟨rfl, b10⟩
    have q10 : Below w.heap.size w w10 := q8.trans (Below.mono b10 q8.size)
    have y10 := y8.below b10
    have x10 := x8.below b10
    have m10 := m8.below b10
    clear z5 z6 y5 y6 y8 x5 x6 x8 m5 m6 m8 b6 b8 b10 SS RG RR
    go_wp2_with fail
    refine (ref4Contents A n' c o' w10 (ho1.below q10) hR).mono ?_
    rintro e w11 ⟨Ar, mr, cr, rfl, orr, b11⟩
    have q11 : Below w.heap.size w w11 := q10.trans (Below.mono b11 q10.size)
    have S1 := refSame Ab Ar mb mr cb cr _ _ w11 (y10.below b11) orr.bs.1 (by have := LB.out; omega) (by have := orr.bs.1.len; omega)
    rw [show decide (contO o' = contO o') = true by simp] at S1
    have x11 := x10.below b11
    have m11 := m10.below b11
    clear orr
    go_wp2_with fail
    refine S1.mono ?_
    rintro e w12 ⟨rfl, u12⟩
    have q12 : Below w.heap.size w w12 := q11.trans u12.below
    have x12 := x11.qt u12
    have m12 := m11.qt u12
    clear S1 x10 m10 x11 m11 y10
    go_wp2_with fail
    refine (ref4Whole A n' c o' w12 (ho1.below q12) hR).mono ?_
    rintro e w13 ⟨As, ms, cs, rfl, oss, b13⟩
    have q13 : Below w.heap.size w w13 := q12.trans (Below.mono b13 q12.size)
    have x13 := x12.below b13
    have m13 := m12.below b13
    have S2 := refSame Aw As mw ms cw cs _ _ w13 x13 oss.bs.1 (by have := LW.out; omega) (by have := oss.bs.1.len; omega)
    rw [show decide (wrapB tgO (contO o') = wrapB tgO (contO o')) = true by simp] at S2
    clear oss x12 m12
    go_wp2_with fail
    refine S2.mono ?_
    rintro e w14 ⟨rfl, u14⟩
    have q14 : Below w.heap.size w w14 := q13.trans u14.below
    have S3 := refSame Am Aw mm mw cm cw _ _ w14 (m13.qt u14) (x13.qt u14) (by have := LM.out; omega) (by have := LW.out; omega)
    rw [show decide (wrapB tgO (contO o') = wrapB tgO (contO o')) = true by simp] at S3
    clear S2 x13 m13
    go_wp2_with fail
    refine S3.mono ?_
    rintro e w15 ⟨rfl, u15⟩
    have q15 : Below w.heap.size w w15 := q14.trans u15.below
    clear S3
    go_wp2_with fail
    refine (ref4Text A n' c o' w15 (ho1.below q15) hR).mono ?_
    rintro e w16 ⟨rfl, b16⟩
    generalize ByteArray.mk (textO o').toArray = tb at *
    go_wp2
    go_ret
    exact ⟨rfl, q15.trans (Below.mono b16 q15.size)⟩
end Go.Proofs.YtfighoplbmmijaaDoor
