/-
  The contracts of the reference: which lists are oids, the oid of a text.
-/
import Derived.Test.YtfighoplbmmijaaDoorOg
namespace Go.Proofs.YtfighoplbmmijaaDoor
open Go.RowKit Go.Joins
set_option linter.unusedVariables false
set_option linter.unusedSimpArgs false
set_option maxRecDepth 4000

set_option maxHeartbeats 1600000 in
theorem refRight4 (A : Option Addr) (n c : Nat) (l : List Int) (w : World) (h : Zs w A n l) (hn : n ≤ 1099511627776) :
    Calls Tryd.prog 13 #[.slice A n c] w fun e w' => e = .returned (.bool (rightO l)) ∧ w = w' := by
  have hl := Lib.hid h.len
  by_cases h2 : n < 2
  · have hF := Lib.hid (rightO_short (l := l) (by rw [hl.out]; exact h2))
    go_enter Tryd.func13, Tryd.ntmps13
    go_wp2
    go_ret
    rw [hF.out]
    exact ⟨rfl, rfl⟩
  · by_cases h3 : 32 < n
    · have hF := Lib.hid (rightO_long (l := l) (by rw [hl.out]; exact h3))
      go_enter Tryd.func13, Tryd.ntmps13
      go_wp2
      go_ret
      rw [hF.out]
      exact ⟨rfl, rfl⟩
    · go_enter Tryd.func13, Tryd.ntmps13
      go_wp2
      go_loop [3] (fun i => ∃ k : Nat, k ≤ n ∧ i = .int .i64 (k : Int) ∧ Hid (∀ j, j < k → 0 ≤ zth l j ∧ zth l j ≤ 2147483647)) (fun i => n - (intOf i).toNat)
      case atStart => exact ⟨0, by omega, rfl, (fun j hj => by omega)⟩
      case round =>
        obtain ⟨k, hk, rfl, hall⟩ := hrel
        by_cases hlt : k < n
        · obtain ⟨b, o, rfl, hcell⟩ := h.at_ hlt
          have e1 : (k : Int) < n := by omega
          by_cases hb : zth l k < 0 ∨ 2147483647 < zth l k
          · have hF := Lib.hid (rightO_bad (l := l) (by rw [hl.out]; exact hlt) hb)
            rcases hb with hb | hb
            all_goals
              go_wp2
              go_ret
              rw [hF.out]
              exact ⟨rfl, rfl⟩
          · have b1 : 0 ≤ zth l k := by omega
            have b2 : zth l k ≤ 2147483647 := by omega
            clear hb
            go_wp2
            go_round
            case rel => exact ⟨k + 1, by omega, by go_num, (fun j hj => by
              by_cases hjk : j = k
              · subst hjk; exact ⟨b1, b2⟩
              · exact hall.out j (by omega))⟩
            case measure => simp [intOf]; omega
        · have hkn : k = n := by omega
          subst hkn
          have hF := Lib.hid (rightO_end (l := l) (by have := hl.out; omega) (by have := hl.out; omega) (fun j hj => hall.out j (by have := hl.out; omega)))
          have z0 := hall.out 0 (by omega)
          obtain ⟨b, o, rfl, c0⟩ := h.at_ (k := 0) (by omega)
          obtain ⟨b', o', e, c1⟩ := h.at_ (k := 1) (by omega)
          cases e
          rw [Nat.add_zero] at c0
          have i0 : 0 < k := by omega
          have i1 : 1 < k := by omega
          have j1 : (1 : Int) < (k : Int) := by omega
          generalize zth l 0 = x at *
          generalize zth l 1 = y at *
          by_cases hx : x < 2
          · by_cases hy : y < 40
            · have hE : Hid (rightO l = true) := by unfold Hid; rw [hF.out]; unfold most2; rw [if_pos hx]; simp; omega
              go_wp2
              go_ret
              rw [hE.out]
              exact ⟨rfl, rfl⟩
            · have hE : Hid (rightO l = false) := by unfold Hid; rw [hF.out]; unfold most2; rw [if_pos hx]; simp; omega
              have e2 : (x == 2) = false := by simp; omega
              go_wp2
              go_ret
              rw [hE.out]
              exact ⟨rfl, rfl⟩
          · by_cases hx2 : x = 2
            · subst hx2
              by_cases hy : y ≤ 2147483567
              · have hE : Hid (rightO l = true) := by unfold Hid; rw [hF.out]; unfold most2; simp; omega
                go_wp2
                go_ret
                rw [hE.out]
                exact ⟨rfl, rfl⟩
              · have hE : Hid (rightO l = false) := by unfold Hid; rw [hF.out]; unfold most2; simp; omega
                go_wp2
                go_ret
                rw [hE.out]
                exact ⟨rfl, rfl⟩
            · have hE : Hid (rightO l = false) := by unfold Hid; rw [hF.out]; simp; omega
              have e2 : (x == 2) = false := by simp; omega
              go_wp2
              go_ret
              rw [hE.out]
              exact ⟨rfl, rfl⟩

theorem str_at {t : ByteArray} {p : List UInt8} {k : Nat} (hp : t.data.toList = p) (h : k < t.size) : t[k] = p.getD k 0 := by
  subst hp
  rw [List.getD, List.getElem?_eq_getElem (by simpa using h)]
  rfl
theorem str_snoc {t s : ByteArray} {one p : List UInt8} {k : Nat} (ht : t.data.toList = one) (hs : s.data.toList = p) (hk : k < s.size) : (t ++ s.extract k (k + 1)).data.toList = one ++ [p.getD k 0] := by
  subst ht hs
  have hk' : k < s.data.size := hk
  simp [ByteArray.data_append, ByteArray.data_extract, List.getD]
  rw [List.drop_eq_getElem_cons (by simpa using hk')]
  simp [hk', Array.getElem?_eq_getElem hk']

set_option maxHeartbeats 6400000 in
theorem refFromText4 (s : ByteArray) (p : List UInt8) (w : World) (hp : s.data.toList = p) (hs : s.size ≤ 1000) :
    Calls Tryd.prog 24 #[.string s] w (PrsOk w (fromO p)) := by
  obtain ⟨i0, hi, hz0, hz1, hz2⟩ := info_parts int_info
  have hsz : s.size = p.length := by rw [← hp]; rfl
  have HP := Lib.hid hp; clear hp
  have HS := Lib.hid hsz; clear hsz
  go_enter Tryd.func24, Tryd.ntmps24
  go_wp2
  go_loopw [4, 5, 6] (fun v ov i wr => ∃ (k : Nat) (t : ByteArray) (one : List UInt8) (ob : List Int), k ≤ s.size + 1 ∧ i = .int .i64 (k : Int) ∧ ov = .string t ∧ Hid (t.data.toList = one) ∧ t.size ≤ k ∧ ob.length ≤ k ∧ Ov wr w.heap.size 3 v (ob.map intV) ∧ Below w.heap.size w wr ∧
      Hid (∀ c ∈ one, c ≠ 46) ∧ Hid (fromO p = fromP ob (if k ≤ s.size then spt (one ++ p.drop k) else []))) (fun _ _ i _ => s.size + 1 - (intOf i).toNat)
  case atStart => exact ⟨0, ⟨#[]⟩, [], [], by omega, rfl, rfl, rfl, by simp [ByteArray.size], by simp, Ov.nil _ _ _, Below.refl _ _, (by simp [Hid]), by simp [Hid, fromO_P]⟩
  case round =>
    obtain ⟨k, t, one, ob, hk, rfl, rfl, ht, htk, hok, hov, hB, hno, hF⟩ := hrel
    by_cases hlt : k < s.size
    · have e1 : (k : Int) < s.size := by omega
      have e2 : (k : Int) ≤ s.size := by omega
      have hget : Hid (s[k] = p.getD k 0) := str_at (HP.out) hlt
      have hdrop : Hid (p.drop k = p.getD k 0 :: p.drop (k + 1)) := drop_cons (by have := HS.out; omega)
      by_cases h46 : s[k] = 46
      · have hN : Hid (fromO p = fromP ob (one :: (if k + 1 ≤ s.size then spt (p.drop (k + 1)) else []))) := by
          unfold Hid
          rw [hF.out, if_pos (by omega), if_pos (by omega), hdrop.out, ← hget.out, h46, spt_app _ hno.out]
        have h46' : ((s[k].toNat : Int) != 46) = false := by rw [h46]; rfl
        clear h46 hF hget hdrop
        have HTS : Hid (t.size = one.length) := by unfold Hid; rw [← ht.out]; rfl
        by_cases q0 : t.size = 0
        · have hE : Hid (fromO p = ([], 6)) := by unfold Hid; rw [hN.out]; exact fromP_bad (decOk_false fun h => by have := h.one; have := HTS.out; omega)
          have q0' : (t.size : Int) < 1 := by omega
          go_wp2
          go_ret2
          rw [hE.out]
          exact ⟨_, rfl, Ov.nil _ _ _, hB⟩
        · have q1 : ¬ (t.size : Int) < 1 := by omega
          by_cases q10 : 10 < t.size
          · have hE : Hid (fromO p = ([], 6)) := by unfold Hid; rw [hN.out]; exact fromP_bad (decOk_false fun h => by have := h.ten; have := HTS.out; omega)
            have q10' : 10 < (t.size : Int) := by omega
            go_wp2
            go_ret2
            rw [hE.out]
            exact ⟨_, rfl, Ov.nil _ _ _, hB⟩
          · have q11 : ¬ 10 < (t.size : Int) := by omega
            have hlt0 : 0 < t.size := by omega
            have hg0 : Hid (nth one 0 = (t[0].toNat : Int)) := by unfold Hid nth; rw [str_at ht.out hlt0]
            by_cases hz : t[0].toNat = 48
            · have hz' : ((t[0].toNat : Int) == 48) = true := by rw [hz]; rfl
              by_cases hl1 : 1 < t.size
              · have hE : Hid (fromO p = ([], 6)) := by
                  unfold Hid; rw [hN.out]
                  exact fromP_bad (decOk_false fun h => by
                    rcases h.head with h | h
                    · have := HTS.out; omega
                    · rw [hg0.out, hz] at h; exact h rfl)
                have hl1' : 1 < (t.size : Int) := by omega
                clear hz hg0
                go_wp2
                go_ret2
                rw [hE.out]
                exact ⟨_, rfl, Ov.nil _ _ _, hB⟩
              · have HH : Hid (one.length ≤ 1 ∨ nth one 0 ≠ 48) := .inl (by have := HTS.out; omega)
                have hl1' : ¬ 1 < (t.size : Int) := by omega
                clear hz hg0
                obtain ⟨A1, c1, rfl, hc1, hvs⟩ := hov.slice
                have hlo : (ob.map intV).length = ob.length := by simp
                rw [hlo] at hov hc1 hvs
                go_wp2
                go_loop [7, 8] (fun a i => ∃ j : Nat, j ≤ t.size ∧ i = .int .i64 (j : Int) ∧ a = .int .i64 (dvN (one.take j) : Int) ∧ Hid (∀ q, q < j → 48 ≤ (one.getD q 0).toNat ∧ (one.getD q 0).toNat ≤ 57)) (fun _ i => t.size - (intOf i).toNat)
                case atStart => exact ⟨0, by omega, rfl, by simp [dvN], (fun j hj => by omega)⟩
                case round =>
                  obtain ⟨j, hj, rfl, rfl, hall⟩ := hrel
                  by_cases hjt : j < t.size
                  · have f1 : (j : Int) < t.size := by omega
                    have hget2 : Hid (t[j] = one.getD j 0) := str_at ht.out hjt
                    have hv : dvN (one.take j) < 10 ^ 10 := by
                      have := dvN_lt j (one.take j) (by have := HTS.out; simp; omega) (by
                        intro c hc
                        obtain ⟨q, hq, rfl⟩ := List.mem_iff_getElem.1 hc
                        have hqk : q < j := by simp at hq; omega
                        have hql : q < one.length := by simp at hq; omega
                        have := hall.out q hqk
                        rw [List.getD, List.getElem?_eq_getElem hql] at this
                        simpa using this)
                      have h2 : (10 : Nat) ^ j ≤ 10 ^ 10 := Nat.pow_le_pow_right (by omega) (by omega)
                      omega
                    have hv' : dvN (one.take j) < 10000000000 := by simpa using hv
                    have hst := Lib.hid (dvN_take (p := one) (k := j) (by have := HTS.out; omega))
                    have hbad : Hid (¬ (48 ≤ (one.getD j 0).toNat ∧ (one.getD j 0).toNat ≤ 57) → fromO p = ([], 6)) := fun hn => by
                      rw [hN.out]
                      exact fromP_bad (decOk_false fun h => hn (h.digs _ (by
                        have hkl : j < one.length := by have := HTS.out; omega
                        rw [List.getD, List.getElem?_eq_getElem hkl]; simp)))
                    clear hv
                    generalize hx : t[j] = x at *
                    have hpx := hget2.out
                    rw [← hpx] at hst hbad
                    have hxb := UInt8.toNat_lt x
                    have HG := Lib.hid hpx
                    clear hget2 hpx
                    generalize dvN (one.take j) = dd at *
                    by_cases d1 : x.toNat < 48
                    · have hE := Lib.hid (hbad.out (by omega))
                      have d1' : (x.toNat : Int) < 48 := by omega
                      go_wp2
                      go_ret2
                      rw [hE.out]
                      exact ⟨_, rfl, Ov.nil _ _ _, hB⟩
                    · by_cases d2 : 57 < x.toNat
                      · have hE := Lib.hid (hbad.out (by omega))
                        have d1' : ¬ (x.toNat : Int) < 48 := by omega
                        have d2' : 57 < (x.toNat : Int) := by omega
                        go_wp2
                        go_ret2
                        rw [hE.out]
                        exact ⟨_, rfl, Ov.nil _ _ _, hB⟩
                      · have d1' : ¬ (x.toNat : Int) < 48 := by omega
                        have d2' : ¬ 57 < (x.toNat : Int) := by omega
                        clear hbad
                        go_wp2
                        go_round
                        case rel => exact ⟨j + 1, by omega, by go_num, by rw [hst.out]; congr 1; omega, (fun q hq => by
                          by_cases hqj : q = j
                          · subst hqj; rw [← HG.out]; omega
                          · exact hall.out q (by omega))⟩
                        case measure => simp [intOf]; omega
                  · have hjn : j = t.size := by omega
                    have hd : decOk one = true := by
                      refine (decOk_iff one).2 ⟨by have := HTS.out; omega, by have := HTS.out; omega, HH.out, ?_⟩
                      intro c hc
                      obtain ⟨q, hq, rfl⟩ := List.mem_iff_getElem.1 hc
                      have := hall.out q (by have := HTS.out; omega)
                      rw [List.getD, List.getElem?_eq_getElem hq] at this
                      simpa using this
                    have hE : Hid (fromO p = fromP (ob ++ [(dvN (one.take j) : Int)]) (if k + 1 ≤ s.size then spt ([] ++ p.drop (k + 1)) else [])) := by
                      unfold Hid
                      rw [List.take_of_length_le (by have := HTS.out; omega), hN.out, fromP_good hd, List.nil_append]
                    generalize dvN (one.take j) = dd at *
                    have hLo : Hid ((ob.map intV).length = ob.length) := hlo
                    clear hlo hvs hN hd
                    generalize hL : ob.length = L at *
                    have HL2 := Lib.hid hL
                    clear hL
                    go_wp2_with (at_builtin; (refine wpList_appendV rfl _ _ 22 rfl w.heap.size 3 i0 (.int .i64 0) Tryd.underlying22 hi hz0 hz1 (by omega) rfl _ (ob.map intV) rfl (hov.alloc _) _ _ _ [intV (dd : Int)] rfl (Vs.new1 wr _ 3) ?ca1 ?cb1 ?cc1 ?_))
                    case ca1 => first | (intro u hu; simp at hu; subst hu; rfl) | rfl
                    case cb1 => have := hLo.out; have := HL2.out; omega
                    case cc1 => have := hB.size; simp; omega
                    intro v' w9 hov9 hg9 _ _
                    have hbel1 := (hov.alloc _).grew (hB.alloc hB.size _) (Nat.le_refl _) hg9
                    go_wp2
                    refine ⟨⟨k + 1, ⟨#[]⟩, [], ob ++ [(dd : Int)], by omega, by go_num, rfl, rfl, by simp [ByteArray.size], ?_, by simpa using hov9, hbel1, (by simp [Hid]), hE⟩, by simp [intOf]; omega⟩
                    have := HL2.out
                    simp; omega
            · have hz' : ((t[0].toNat : Int) == 48) = false := by simp; omega
              have HH : Hid (one.length ≤ 1 ∨ nth one 0 ≠ 48) := .inr (by rw [hg0.out]; omega)
              clear hz hg0
              obtain ⟨A1, c1, rfl, hc1, hvs⟩ := hov.slice
              have hlo : (ob.map intV).length = ob.length := by simp
              rw [hlo] at hov hc1 hvs
              go_wp2
              go_loop [7, 8] (fun a i => ∃ j : Nat, j ≤ t.size ∧ i = .int .i64 (j : Int) ∧ a = .int .i64 (dvN (one.take j) : Int) ∧ Hid (∀ q, q < j → 48 ≤ (one.getD q 0).toNat ∧ (one.getD q 0).toNat ≤ 57)) (fun _ i => t.size - (intOf i).toNat)
              case atStart => exact ⟨0, by omega, rfl, by simp [dvN], (fun j hj => by omega)⟩
              case round =>
                obtain ⟨j, hj, rfl, rfl, hall⟩ := hrel
                by_cases hjt : j < t.size
                · have f1 : (j : Int) < t.size := by omega
                  have hget2 : Hid (t[j] = one.getD j 0) := str_at ht.out hjt
                  have hv : dvN (one.take j) < 10 ^ 10 := by
                    have := dvN_lt j (one.take j) (by have := HTS.out; simp; omega) (by
                      intro c hc
                      obtain ⟨q, hq, rfl⟩ := List.mem_iff_getElem.1 hc
                      have hqk : q < j := by simp at hq; omega
                      have hql : q < one.length := by simp at hq; omega
                      have := hall.out q hqk
                      rw [List.getD, List.getElem?_eq_getElem hql] at this
                      simpa using this)
                    have h2 : (10 : Nat) ^ j ≤ 10 ^ 10 := Nat.pow_le_pow_right (by omega) (by omega)
                    omega
                  have hv' : dvN (one.take j) < 10000000000 := by simpa using hv
                  have hst := Lib.hid (dvN_take (p := one) (k := j) (by have := HTS.out; omega))
                  have hbad : Hid (¬ (48 ≤ (one.getD j 0).toNat ∧ (one.getD j 0).toNat ≤ 57) → fromO p = ([], 6)) := fun hn => by
                    rw [hN.out]
                    exact fromP_bad (decOk_false fun h => hn (h.digs _ (by
                      have hkl : j < one.length := by have := HTS.out; omega
                      rw [List.getD, List.getElem?_eq_getElem hkl]; simp)))
                  clear hv
                  generalize hx : t[j] = x at *
                  have hpx := hget2.out
                  rw [← hpx] at hst hbad
                  have hxb := UInt8.toNat_lt x
                  have HG := Lib.hid hpx
                  clear hget2 hpx
                  generalize dvN (one.take j) = dd at *
                  by_cases d1 : x.toNat < 48
                  · have hE := Lib.hid (hbad.out (by omega))
                    have d1' : (x.toNat : Int) < 48 := by omega
                    go_wp2
                    go_ret2
                    rw [hE.out]
                    exact ⟨_, rfl, Ov.nil _ _ _, hB⟩
                  · by_cases d2 : 57 < x.toNat
                    · have hE := Lib.hid (hbad.out (by omega))
                      have d1' : ¬ (x.toNat : Int) < 48 := by omega
                      have d2' : 57 < (x.toNat : Int) := by omega
                      go_wp2
                      go_ret2
                      rw [hE.out]
                      exact ⟨_, rfl, Ov.nil _ _ _, hB⟩
                    · have d1' : ¬ (x.toNat : Int) < 48 := by omega
                      have d2' : ¬ 57 < (x.toNat : Int) := by omega
                      clear hbad
                      go_wp2
                      go_round
                      case rel => exact ⟨j + 1, by omega, by go_num, by rw [hst.out]; congr 1; omega, (fun q hq => by
                        by_cases hqj : q = j
                        · subst hqj; rw [← HG.out]; omega
                        · exact hall.out q (by omega))⟩
                      case measure => simp [intOf]; omega
                · have hjn : j = t.size := by omega
                  have hd : decOk one = true := by
                    refine (decOk_iff one).2 ⟨by have := HTS.out; omega, by have := HTS.out; omega, HH.out, ?_⟩
                    intro c hc
                    obtain ⟨q, hq, rfl⟩ := List.mem_iff_getElem.1 hc
                    have := hall.out q (by have := HTS.out; omega)
                    rw [List.getD, List.getElem?_eq_getElem hq] at this
                    simpa using this
                  have hE : Hid (fromO p = fromP (ob ++ [(dvN (one.take j) : Int)]) (if k + 1 ≤ s.size then spt ([] ++ p.drop (k + 1)) else [])) := by
                    unfold Hid
                    rw [List.take_of_length_le (by have := HTS.out; omega), hN.out, fromP_good hd, List.nil_append]
                  generalize dvN (one.take j) = dd at *
                  have hLo : Hid ((ob.map intV).length = ob.length) := hlo
                  clear hlo hvs hN hd
                  generalize hL : ob.length = L at *
                  have HL2 := Lib.hid hL
                  clear hL
                  go_wp2_with (at_builtin; (refine wpList_appendV rfl _ _ 22 rfl w.heap.size 3 i0 (.int .i64 0) Tryd.underlying22 hi hz0 hz1 (by omega) rfl _ (ob.map intV) rfl (hov.alloc _) _ _ _ [intV (dd : Int)] rfl (Vs.new1 wr _ 3) ?ca2 ?cb2 ?cc2 ?_))
                  case ca2 => first | (intro u hu; simp at hu; subst hu; rfl) | rfl
                  case cb2 => have := hLo.out; have := HL2.out; omega
                  case cc2 => have := hB.size; simp; omega
                  intro v' w9 hov9 hg9 _ _
                  have hbel1 := (hov.alloc _).grew (hB.alloc hB.size _) (Nat.le_refl _) hg9
                  go_wp2
                  refine ⟨⟨k + 1, ⟨#[]⟩, [], ob ++ [(dd : Int)], by omega, by go_num, rfl, rfl, by simp [ByteArray.size], ?_, by simpa using hov9, hbel1, (by simp [Hid]), hE⟩, by simp [intOf]; omega⟩
                  have := HL2.out
                  simp; omega
      · have h46' : ((s[k].toNat : Int) != 46) = true := by
          rw [bne_iff_ne]; intro e; apply h46; apply UInt8.toNat_inj.1; show s[k].toNat = 46; omega
        have hN : Hid (fromO p = fromP ob (if k + 1 ≤ s.size then spt ((one ++ [p.getD k 0]) ++ p.drop (k + 1)) else [])) := by
          unfold Hid
          rw [hF.out, if_pos (by omega), if_pos (by omega), hdrop.out]; simp
        have hno2 : Hid (∀ c ∈ one ++ [p.getD k 0], c ≠ 46) := by
          intro c hc
          rw [List.mem_append] at hc
          rcases hc with hc | hc
          · exact hno.out c hc
          · rw [List.mem_singleton] at hc; subst hc; rw [← hget.out]; exact h46
        have hsn : Hid ((t ++ s.extract k (k + 1)).data.toList = one ++ [p.getD k 0]) := str_snoc ht.out HP.out hlt
        have hsz2 : Hid ((t ++ s.extract k (k + 1)).size ≤ k + 1) := by
          have h1 := congrArg List.length hsn.out
          have h2 := congrArg List.length ht.out
          have h3 : t.data.toList.length = t.size := rfl
          have h4 : (t ++ s.extract k (k + 1)).data.toList.length = (t ++ s.extract k (k + 1)).size := rfl
          unfold Hid
          simp only [List.length_append, List.length_cons, List.length_nil] at h1
          omega
        clear h46 hF hget hdrop
        go_wp2
        exact ⟨⟨k + 1, _, _, ob, by omega, by go_num, rfl, hsn, hsz2.out, by omega, hov, hB, hno2, hN⟩, by simp [intOf]; omega⟩
    · by_cases hke : k = s.size
      · have e1 : ¬ (k : Int) < s.size := by omega
        have e2 : (k : Int) ≤ s.size := by omega
        have hN : Hid (fromO p = fromP ob (one :: (if k + 1 ≤ s.size then spt (p.drop (k + 1)) else []))) := by
          unfold Hid
          rw [hF.out, if_pos (by omega), if_neg (by omega), List.drop_eq_nil_of_le (by have := HS.out; omega), List.append_nil, spt_plain hno.out]
        clear hF
        have HTS : Hid (t.size = one.length) := by unfold Hid; rw [← ht.out]; rfl
        by_cases q0 : t.size = 0
        · have hE : Hid (fromO p = ([], 6)) := by unfold Hid; rw [hN.out]; exact fromP_bad (decOk_false fun h => by have := h.one; have := HTS.out; omega)
          have q0' : (t.size : Int) < 1 := by omega
          go_wp2
          go_ret2
          rw [hE.out]
          exact ⟨_, rfl, Ov.nil _ _ _, hB⟩
        · have q1 : ¬ (t.size : Int) < 1 := by omega
          by_cases q10 : 10 < t.size
          · have hE : Hid (fromO p = ([], 6)) := by unfold Hid; rw [hN.out]; exact fromP_bad (decOk_false fun h => by have := h.ten; have := HTS.out; omega)
            have q10' : 10 < (t.size : Int) := by omega
            go_wp2
            go_ret2
            rw [hE.out]
            exact ⟨_, rfl, Ov.nil _ _ _, hB⟩
          · have q11 : ¬ 10 < (t.size : Int) := by omega
            have hlt0 : 0 < t.size := by omega
            have hg0 : Hid (nth one 0 = (t[0].toNat : Int)) := by unfold Hid nth; rw [str_at ht.out hlt0]
            by_cases hz : t[0].toNat = 48
            · have hz' : ((t[0].toNat : Int) == 48) = true := by rw [hz]; rfl
              by_cases hl1 : 1 < t.size
              · have hE : Hid (fromO p = ([], 6)) := by
                  unfold Hid; rw [hN.out]
                  exact fromP_bad (decOk_false fun h => by
                    rcases h.head with h | h
                    · have := HTS.out; omega
                    · rw [hg0.out, hz] at h; exact h rfl)
                have hl1' : 1 < (t.size : Int) := by omega
                clear hz hg0
                go_wp2
                go_ret2
                rw [hE.out]
                exact ⟨_, rfl, Ov.nil _ _ _, hB⟩
              · have HH : Hid (one.length ≤ 1 ∨ nth one 0 ≠ 48) := .inl (by have := HTS.out; omega)
                have hl1' : ¬ 1 < (t.size : Int) := by omega
                clear hz hg0
                obtain ⟨A1, c1, rfl, hc1, hvs⟩ := hov.slice
                have hlo : (ob.map intV).length = ob.length := by simp
                rw [hlo] at hov hc1 hvs
                go_wp2
                go_loop [7, 8] (fun a i => ∃ j : Nat, j ≤ t.size ∧ i = .int .i64 (j : Int) ∧ a = .int .i64 (dvN (one.take j) : Int) ∧ Hid (∀ q, q < j → 48 ≤ (one.getD q 0).toNat ∧ (one.getD q 0).toNat ≤ 57)) (fun _ i => t.size - (intOf i).toNat)
                case atStart => exact ⟨0, by omega, rfl, by simp [dvN], (fun j hj => by omega)⟩
                case round =>
                  obtain ⟨j, hj, rfl, rfl, hall⟩ := hrel
                  by_cases hjt : j < t.size
                  · have f1 : (j : Int) < t.size := by omega
                    have hget2 : Hid (t[j] = one.getD j 0) := str_at ht.out hjt
                    have hv : dvN (one.take j) < 10 ^ 10 := by
                      have := dvN_lt j (one.take j) (by have := HTS.out; simp; omega) (by
                        intro c hc
                        obtain ⟨q, hq, rfl⟩ := List.mem_iff_getElem.1 hc
                        have hqk : q < j := by simp at hq; omega
                        have hql : q < one.length := by simp at hq; omega
                        have := hall.out q hqk
                        rw [List.getD, List.getElem?_eq_getElem hql] at this
                        simpa using this)
                      have h2 : (10 : Nat) ^ j ≤ 10 ^ 10 := Nat.pow_le_pow_right (by omega) (by omega)
                      omega
                    have hv' : dvN (one.take j) < 10000000000 := by simpa using hv
                    have hst := Lib.hid (dvN_take (p := one) (k := j) (by have := HTS.out; omega))
                    have hbad : Hid (¬ (48 ≤ (one.getD j 0).toNat ∧ (one.getD j 0).toNat ≤ 57) → fromO p = ([], 6)) := fun hn => by
                      rw [hN.out]
                      exact fromP_bad (decOk_false fun h => hn (h.digs _ (by
                        have hkl : j < one.length := by have := HTS.out; omega
                        rw [List.getD, List.getElem?_eq_getElem hkl]; simp)))
                    clear hv
                    generalize hx : t[j] = x at *
                    have hpx := hget2.out
                    rw [← hpx] at hst hbad
                    have hxb := UInt8.toNat_lt x
                    have HG := Lib.hid hpx
                    clear hget2 hpx
                    generalize dvN (one.take j) = dd at *
                    by_cases d1 : x.toNat < 48
                    · have hE := Lib.hid (hbad.out (by omega))
                      have d1' : (x.toNat : Int) < 48 := by omega
                      go_wp2
                      go_ret2
                      rw [hE.out]
                      exact ⟨_, rfl, Ov.nil _ _ _, hB⟩
                    · by_cases d2 : 57 < x.toNat
                      · have hE := Lib.hid (hbad.out (by omega))
                        have d1' : ¬ (x.toNat : Int) < 48 := by omega
                        have d2' : 57 < (x.toNat : Int) := by omega
                        go_wp2
                        go_ret2
                        rw [hE.out]
                        exact ⟨_, rfl, Ov.nil _ _ _, hB⟩
                      · have d1' : ¬ (x.toNat : Int) < 48 := by omega
                        have d2' : ¬ 57 < (x.toNat : Int) := by omega
                        clear hbad
                        go_wp2
                        go_round
                        case rel => exact ⟨j + 1, by omega, by go_num, by rw [hst.out]; congr 1; omega, (fun q hq => by
                          by_cases hqj : q = j
                          · subst hqj; rw [← HG.out]; omega
                          · exact hall.out q (by omega))⟩
                        case measure => simp [intOf]; omega
                  · have hjn : j = t.size := by omega
                    have hd : decOk one = true := by
                      refine (decOk_iff one).2 ⟨by have := HTS.out; omega, by have := HTS.out; omega, HH.out, ?_⟩
                      intro c hc
                      obtain ⟨q, hq, rfl⟩ := List.mem_iff_getElem.1 hc
                      have := hall.out q (by have := HTS.out; omega)
                      rw [List.getD, List.getElem?_eq_getElem hq] at this
                      simpa using this
                    have hE : Hid (fromO p = fromP (ob ++ [(dvN (one.take j) : Int)]) (if k + 1 ≤ s.size then spt ([] ++ p.drop (k + 1)) else [])) := by
                      unfold Hid
                      rw [List.take_of_length_le (by have := HTS.out; omega), hN.out, fromP_good hd, List.nil_append]
                    generalize dvN (one.take j) = dd at *
                    have hLo : Hid ((ob.map intV).length = ob.length) := hlo
                    clear hlo hvs hN hd
                    generalize hL : ob.length = L at *
                    have HL2 := Lib.hid hL
                    clear hL
                    go_wp2_with (at_builtin; (refine wpList_appendV rfl _ _ 22 rfl w.heap.size 3 i0 (.int .i64 0) Tryd.underlying22 hi hz0 hz1 (by omega) rfl _ (ob.map intV) rfl (hov.alloc _) _ _ _ [intV (dd : Int)] rfl (Vs.new1 wr _ 3) ?ca3 ?cb3 ?cc3 ?_))
                    case ca3 => first | (intro u hu; simp at hu; subst hu; rfl) | rfl
                    case cb3 => have := hLo.out; have := HL2.out; omega
                    case cc3 => have := hB.size; simp; omega
                    intro v' w9 hov9 hg9 _ _
                    have hbel1 := (hov.alloc _).grew (hB.alloc hB.size _) (Nat.le_refl _) hg9
                    go_wp2
                    refine ⟨⟨k + 1, ⟨#[]⟩, [], ob ++ [(dd : Int)], by omega, by go_num, rfl, rfl, by simp [ByteArray.size], ?_, by simpa using hov9, hbel1, (by simp [Hid]), hE⟩, by simp [intOf]; omega⟩
                    have := HL2.out
                    simp; omega
            · have hz' : ((t[0].toNat : Int) == 48) = false := by simp; omega
              have HH : Hid (one.length ≤ 1 ∨ nth one 0 ≠ 48) := .inr (by rw [hg0.out]; omega)
              clear hz hg0
              obtain ⟨A1, c1, rfl, hc1, hvs⟩ := hov.slice
              have hlo : (ob.map intV).length = ob.length := by simp
              rw [hlo] at hov hc1 hvs
              go_wp2
              go_loop [7, 8] (fun a i => ∃ j : Nat, j ≤ t.size ∧ i = .int .i64 (j : Int) ∧ a = .int .i64 (dvN (one.take j) : Int) ∧ Hid (∀ q, q < j → 48 ≤ (one.getD q 0).toNat ∧ (one.getD q 0).toNat ≤ 57)) (fun _ i => t.size - (intOf i).toNat)
              case atStart => exact ⟨0, by omega, rfl, by simp [dvN], (fun j hj => by omega)⟩
              case round =>
                obtain ⟨j, hj, rfl, rfl, hall⟩ := hrel
                by_cases hjt : j < t.size
                · have f1 : (j : Int) < t.size := by omega
                  have hget2 : Hid (t[j] = one.getD j 0) := str_at ht.out hjt
                  have hv : dvN (one.take j) < 10 ^ 10 := by
                    have := dvN_lt j (one.take j) (by have := HTS.out; simp; omega) (by
                      intro c hc
                      obtain ⟨q, hq, rfl⟩ := List.mem_iff_getElem.1 hc
                      have hqk : q < j := by simp at hq; omega
                      have hql : q < one.length := by simp at hq; omega
                      have := hall.out q hqk
                      rw [List.getD, List.getElem?_eq_getElem hql] at this
                      simpa using this)
                    have h2 : (10 : Nat) ^ j ≤ 10 ^ 10 := Nat.pow_le_pow_right (by omega) (by omega)
                    omega
                  have hv' : dvN (one.take j) < 10000000000 := by simpa using hv
                  have hst := Lib.hid (dvN_take (p := one) (k := j) (by have := HTS.out; omega))
                  have hbad : Hid (¬ (48 ≤ (one.getD j 0).toNat ∧ (one.getD j 0).toNat ≤ 57) → fromO p = ([], 6)) := fun hn => by
                    rw [hN.out]
                    exact fromP_bad (decOk_false fun h => hn (h.digs _ (by
                      have hkl : j < one.length := by have := HTS.out; omega
                      rw [List.getD, List.getElem?_eq_getElem hkl]; simp)))
                  clear hv
                  generalize hx : t[j] = x at *
                  have hpx := hget2.out
                  rw [← hpx] at hst hbad
                  have hxb := UInt8.toNat_lt x
                  have HG := Lib.hid hpx
                  clear hget2 hpx
                  generalize dvN (one.take j) = dd at *
                  by_cases d1 : x.toNat < 48
                  · have hE := Lib.hid (hbad.out (by omega))
                    have d1' : (x.toNat : Int) < 48 := by omega
                    go_wp2
                    go_ret2
                    rw [hE.out]
                    exact ⟨_, rfl, Ov.nil _ _ _, hB⟩
                  · by_cases d2 : 57 < x.toNat
                    · have hE := Lib.hid (hbad.out (by omega))
                      have d1' : ¬ (x.toNat : Int) < 48 := by omega
                      have d2' : 57 < (x.toNat : Int) := by omega
                      go_wp2
                      go_ret2
                      rw [hE.out]
                      exact ⟨_, rfl, Ov.nil _ _ _, hB⟩
                    · have d1' : ¬ (x.toNat : Int) < 48 := by omega
                      have d2' : ¬ 57 < (x.toNat : Int) := by omega
                      clear hbad
                      go_wp2
                      go_round
                      case rel => exact ⟨j + 1, by omega, by go_num, by rw [hst.out]; congr 1; omega, (fun q hq => by
                        by_cases hqj : q = j
                        · subst hqj; rw [← HG.out]; omega
                        · exact hall.out q (by omega))⟩
                      case measure => simp [intOf]; omega
                · have hjn : j = t.size := by omega
                  have hd : decOk one = true := by
                    refine (decOk_iff one).2 ⟨by have := HTS.out; omega, by have := HTS.out; omega, HH.out, ?_⟩
                    intro c hc
                    obtain ⟨q, hq, rfl⟩ := List.mem_iff_getElem.1 hc
                    have := hall.out q (by have := HTS.out; omega)
                    rw [List.getD, List.getElem?_eq_getElem hq] at this
                    simpa using this
                  have hE : Hid (fromO p = fromP (ob ++ [(dvN (one.take j) : Int)]) (if k + 1 ≤ s.size then spt ([] ++ p.drop (k + 1)) else [])) := by
                    unfold Hid
                    rw [List.take_of_length_le (by have := HTS.out; omega), hN.out, fromP_good hd, List.nil_append]
                  generalize dvN (one.take j) = dd at *
                  have hLo : Hid ((ob.map intV).length = ob.length) := hlo
                  clear hlo hvs hN hd
                  generalize hL : ob.length = L at *
                  have HL2 := Lib.hid hL
                  clear hL
                  go_wp2_with (at_builtin; (refine wpList_appendV rfl _ _ 22 rfl w.heap.size 3 i0 (.int .i64 0) Tryd.underlying22 hi hz0 hz1 (by omega) rfl _ (ob.map intV) rfl (hov.alloc _) _ _ _ [intV (dd : Int)] rfl (Vs.new1 wr _ 3) ?ca4 ?cb4 ?cc4 ?_))
                  case ca4 => first | (intro u hu; simp at hu; subst hu; rfl) | rfl
                  case cb4 => have := hLo.out; have := HL2.out; omega
                  case cc4 => have := hB.size; simp; omega
                  intro v' w9 hov9 hg9 _ _
                  have hbel1 := (hov.alloc _).grew (hB.alloc hB.size _) (Nat.le_refl _) hg9
                  go_wp2
                  refine ⟨⟨k + 1, ⟨#[]⟩, [], ob ++ [(dd : Int)], by omega, by go_num, rfl, rfl, by simp [ByteArray.size], ?_, by simpa using hov9, hbel1, (by simp [Hid]), hE⟩, by simp [intOf]; omega⟩
                  have := HL2.out
                  simp; omega
      · have e2 : ¬ (k : Int) ≤ s.size := by omega
        obtain ⟨A1, c1, rfl, hc1, hvs⟩ := hov.slice
        have hlo : (ob.map intV).length = ob.length := by simp
        rw [hlo] at hov hc1 hvs
        have hR := refRight4 A1 ob.length c1 ob wr hvs (by omega)
        have hF' : Hid (fromO p = if rightO ob = true then (ob, 0) else ([], 1)) := by
          unfold Hid; rw [hF.out, if_neg (by omega), fromP_nil]
        rw [hlo]
        clear hF hlo
        generalize ob.length = on at *
        cases hr : rightO ob with
        | true =>
          have hE : Hid (fromO p = (ob, 0)) := by unfold Hid; rw [hF'.out, hr]; rfl
          rw [hr] at hR
          go_wp2_with fail
          refine hR.mono ?_
          rintro e w1 ⟨rfl, rfl⟩
          go_wp2
          go_ret2
          rw [hE.out]
          exact ⟨_, rfl, hov, hB⟩
        | false =>
          have hE : Hid (fromO p = ([], 1)) := by unfold Hid; rw [hF'.out, hr]; rfl
          rw [hr] at hR
          go_wp2_with fail
          refine hR.mono ?_
          rintro e w1 ⟨rfl, rfl⟩
          go_wp2
          go_ret2
          rw [hE.out]
          exact ⟨_, rfl, Ov.nil _ _ _, hB⟩
end Go.Proofs.YtfighoplbmmijaaDoor
