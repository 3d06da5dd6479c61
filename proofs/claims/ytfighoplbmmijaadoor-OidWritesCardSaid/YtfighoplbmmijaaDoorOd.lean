/-
  The contracts of the project's oid: a decimal number, the order of oids.
-/
import Derived.Test.YtfighoplbmmijaaDoorOc
import Derived.Test.YtfighoplbmmijaaDoorShelf
import Derived.WalkSmall
namespace Go.Proofs.YtfighoplbmmijaaDoor
open Go.RowKit Go.Joins
set_option linter.unusedVariables false
set_option linter.unusedSimpArgs false
set_option maxRecDepth 4000

/-- What decimal hands back. -/
def decV (p : List UInt8) : Value := if decOk p = true then .tuple #[.int .i64 (dvN p : Int), .bool true] else .tuple #[.int .i64 0, .bool false]
theorem decV_no {p : List UInt8} (h : decOk p = false) : decV p = .tuple #[.int .i64 0, .bool false] := by unfold decV; rw [h]; rfl
theorem decV_yes {p : List UInt8} (h : decOk p = true) : decV p = .tuple #[.int .i64 (dvN p : Int), .bool true] := by unfold decV; rw [if_pos h]
theorem decOk_false {p : List UInt8} (h : ¬ DecOk p) : decOk p = false := by
  rw [Bool.eq_false_iff]; intro e; exact h ((decOk_iff p).1 e)
theorem dvN_take {p : List UInt8} {k : Nat} (h : k < p.length) : dvN (p.take (k + 1)) = 10 * dvN (p.take k) + ((p.getD k 0).toNat - 48) := by
  rw [List.take_succ_eq_append_getElem h, dvN_snoc]; simp [List.getD, List.getElem?_eq_getElem h]

set_option maxHeartbeats 1600000 in
theorem oidDecimal (s : ByteArray) (p : List UInt8) (w : World) (hp : s.data.toList = p) (hs : s.size ≤ 1099511627776) :
    Calls Tryd.prog 49 #[.string s] w fun e w' => e = .returned (decV p) ∧ w = w' := by
  have hsz : s.size = p.length := by rw [← hp]; rfl
  have HP := Lib.hid hp; clear hp
  have HS := Lib.hid hsz; clear hsz
  by_cases h0 : s.size = 0
  · have hF := Lib.hid (decV_no (p := p) (decOk_false (fun h => by have := h.one; have := HS.out; omega)))
    have he : s = ⟨#[]⟩ := by
      cases s with
      | mk d => have : d.size = 0 := h0; rw [Array.eq_empty_of_size_eq_zero this]
    subst he
    go_enter Tryd.func49, Tryd.ntmps49
    go_wp2
    go_ret2
    rw [hF.out]
    exact ⟨rfl, rfl⟩
  · have hne : ¬ s.toList = [] := by
      rw [ByteArray.toList_eq]; intro e; have := congrArg List.length e; simp at this; exact h0 (by simpa using this)
    have hne2 : s.toList.isEmpty = false := by
      cases hh : s.toList with
      | nil => exact absurd hh hne
      | cons => rfl
    by_cases h10 : 10 < s.size
    · have hF := Lib.hid (decV_no (p := p) (decOk_false (fun h => by have := h.ten; have := HS.out; omega)))
      go_enter Tryd.func49, Tryd.ntmps49
      go_wp2
      go_ret2
      rw [hF.out]
      exact ⟨rfl, rfl⟩
    · have hlt0 : 0 < s.size := by omega
      have h10' : ¬ 10 < (s.size : Int) := by omega
      have hg0 : Hid (nth p 0 = (s[0].toNat : Int)) := by
        have h1 := HP.out
        subst h1
        unfold Hid nth
        rw [List.getD, List.getElem?_eq_getElem (by simpa using hlt0)]
        rfl
      by_cases h1 : 1 < s.size
      · have h1' : 1 < (s.size : Int) := by omega
        by_cases hz : s[0].toNat = 48
        · have hF := Lib.hid (decV_no (p := p) (decOk_false (fun h => by
            rcases h.head with h | h
            · have := HS.out; omega
            · rw [hg0.out, hz] at h; exact h rfl)))
          have hz' : ((s[0].toNat : Int) == 48) = true := by rw [hz]; rfl
          clear hz hg0
          go_enter Tryd.func49, Tryd.ntmps49
          go_wp2
          go_ret2
          rw [hF.out]
          exact ⟨rfl, rfl⟩
        · have hz' : ((s[0].toNat : Int) == 48) = false := by simp; omega
          have HH : Hid (p.length ≤ 1 ∨ nth p 0 ≠ 48) := .inr (by rw [hg0.out]; omega)
          clear hz hg0
          go_enter Tryd.func49, Tryd.ntmps49
          go_wp2
          go_loop [4, 25] (fun a i => ∃ k : Nat, k ≤ s.size ∧ i = .int .i64 (k : Int) ∧ a = .int .i64 (dvN (p.take k) : Int) ∧ Hid (∀ j, j < k → 48 ≤ (p.getD j 0).toNat ∧ (p.getD j 0).toNat ≤ 57)) (fun _ i => s.size - (intOf i).toNat)
          case atStart => exact ⟨0, by omega, rfl, by simp [dvN], (fun j hj => by omega)⟩
          case round =>
            obtain ⟨k, hk, rfl, rfl, hall⟩ := hrel
            by_cases hlt : k < s.size
            · have e1 : (k : Int) < s.size := by omega
              have hget : Hid (s[k] = p.getD k 0) := by
                have h1 := HP.out
                subst h1
                unfold Hid
                rw [List.getD, List.getElem?_eq_getElem (by simpa using hlt)]
                rfl
              have hv : dvN (p.take k) < 10 ^ 10 := by
                have := dvN_lt k (p.take k) (by have := HS.out; simp; omega) (by
                  intro c hc
                  obtain ⟨j, hj, rfl⟩ := List.mem_iff_getElem.1 hc
                  have hjk : j < k := by simp at hj; omega
                  have hjl : j < p.length := by simp at hj; omega
                  have := hall.out j hjk
                  rw [List.getD, List.getElem?_eq_getElem hjl] at this
                  simpa using this)
                have h2 : (10 : Nat) ^ k ≤ 10 ^ 10 := Nat.pow_le_pow_right (by omega) (by omega)
                omega
              have hv' : dvN (p.take k) < 10000000000 := by simpa using hv
              have hst := Lib.hid (dvN_take (p := p) (k := k) (by have := HS.out; omega))
              have hbad : Hid (¬ (48 ≤ (p.getD k 0).toNat ∧ (p.getD k 0).toNat ≤ 57) → decV p = .tuple #[.int .i64 0, .bool false]) := fun hn => decV_no (decOk_false fun h => hn (h.digs _ (by
                have hkl : k < p.length := by have := HS.out; omega
                rw [List.getD, List.getElem?_eq_getElem hkl]; simp)))
              clear hv
              generalize hx : s[k] = x at *
              have hpx := hget.out
              rw [← hpx] at hst hbad
              have hxb := UInt8.toNat_lt x
              have HG := Lib.hid hpx
              clear hget hpx
              generalize dvN (p.take k) = d at *
              by_cases c1 : x.toNat < 48
              · have hF := Lib.hid (hbad.out (by omega))
                have c1' : (x.toNat : Int) < 48 := by omega
                go_wp2
                go_ret2
                rw [hF.out]
                exact ⟨rfl, rfl⟩
              · by_cases c2 : 57 < x.toNat
                · have hF := Lib.hid (hbad.out (by omega))
                  have c1' : ¬ (x.toNat : Int) < 48 := by omega
                  have c2' : 57 < (x.toNat : Int) := by omega
                  go_wp2
                  go_ret2
                  rw [hF.out]
                  exact ⟨rfl, rfl⟩
                · have c1' : ¬ (x.toNat : Int) < 48 := by omega
                  have c2' : ¬ 57 < (x.toNat : Int) := by omega
                  clear hbad
                  go_wp2
                  go_round
                  case rel => exact ⟨k + 1, by omega, by go_num, by rw [hst.out]; congr 1; omega, (fun j hj => by
                    by_cases hjk : j = k
                    · subst hjk; rw [← HG.out]; omega
                    · exact hall.out j (by omega))⟩
                  case measure => simp [intOf]; omega
            · have hkn : k = s.size := by omega
              have hF : Hid (decV p = .tuple #[.int .i64 (dvN (p.take k) : Int), .bool true]) := by
                unfold Hid
                rw [List.take_of_length_le (by have := HS.out; omega)]
                refine decV_yes ((decOk_iff p).2 ⟨by have := HS.out; omega, by have := HS.out; omega, HH.out, ?_⟩)
                intro c hc
                obtain ⟨j, hj, rfl⟩ := List.mem_iff_getElem.1 hc
                have := hall.out j (by have := HS.out; omega)
                rw [List.getD, List.getElem?_eq_getElem hj] at this
                simpa using this
              generalize dvN (p.take k) = d at *
              go_wp2
              go_ret2
              rw [hF.out]
              exact ⟨rfl, rfl⟩
      · have h1' : ¬ 1 < (s.size : Int) := by omega
        have HH : Hid (p.length ≤ 1 ∨ nth p 0 ≠ 48) := .inl (by have := HS.out; omega)
        clear hg0
        go_enter Tryd.func49, Tryd.ntmps49
        go_wp2
        go_loop [4, 25] (fun a i => ∃ k : Nat, k ≤ s.size ∧ i = .int .i64 (k : Int) ∧ a = .int .i64 (dvN (p.take k) : Int) ∧ Hid (∀ j, j < k → 48 ≤ (p.getD j 0).toNat ∧ (p.getD j 0).toNat ≤ 57)) (fun _ i => s.size - (intOf i).toNat)
        case atStart => exact ⟨0, by omega, rfl, by simp [dvN], (fun j hj => by omega)⟩
        case round =>
          obtain ⟨k, hk, rfl, rfl, hall⟩ := hrel
          by_cases hlt : k < s.size
          · have e1 : (k : Int) < s.size := by omega
            have hget : Hid (s[k] = p.getD k 0) := by
              have h1 := HP.out
              subst h1
              unfold Hid
              rw [List.getD, List.getElem?_eq_getElem (by simpa using hlt)]
              rfl
            have hv : dvN (p.take k) < 10 ^ 10 := by
              have := dvN_lt k (p.take k) (by have := HS.out; simp; omega) (by
                intro c hc
                obtain ⟨j, hj, rfl⟩ := List.mem_iff_getElem.1 hc
                have hjk : j < k := by simp at hj; omega
                have hjl : j < p.length := by simp at hj; omega
                have := hall.out j hjk
                rw [List.getD, List.getElem?_eq_getElem hjl] at this
                simpa using this)
              have h2 : (10 : Nat) ^ k ≤ 10 ^ 10 := Nat.pow_le_pow_right (by omega) (by omega)
              omega
            have hv' : dvN (p.take k) < 10000000000 := by simpa using hv
            have hst := Lib.hid (dvN_take (p := p) (k := k) (by have := HS.out; omega))
            have hbad : Hid (¬ (48 ≤ (p.getD k 0).toNat ∧ (p.getD k 0).toNat ≤ 57) → decV p = .tuple #[.int .i64 0, .bool false]) := fun hn => decV_no (decOk_false fun h => hn (h.digs _ (by
              have hkl : k < p.length := by have := HS.out; omega
              rw [List.getD, List.getElem?_eq_getElem hkl]; simp)))
            clear hv
            generalize hx : s[k] = x at *
            have hpx := hget.out
            rw [← hpx] at hst hbad
            have hxb := UInt8.toNat_lt x
            have HG := Lib.hid hpx
            clear hget hpx
            generalize dvN (p.take k) = d at *
            by_cases c1 : x.toNat < 48
            · have hF := Lib.hid (hbad.out (by omega))
              have c1' : (x.toNat : Int) < 48 := by omega
              go_wp2
              go_ret2
              rw [hF.out]
              exact ⟨rfl, rfl⟩
            · by_cases c2 : 57 < x.toNat
              · have hF := Lib.hid (hbad.out (by omega))
                have c1' : ¬ (x.toNat : Int) < 48 := by omega
                have c2' : 57 < (x.toNat : Int) := by omega
                go_wp2
                go_ret2
                rw [hF.out]
                exact ⟨rfl, rfl⟩
              · have c1' : ¬ (x.toNat : Int) < 48 := by omega
                have c2' : ¬ 57 < (x.toNat : Int) := by omega
                clear hbad
                go_wp2
                go_round
                case rel => exact ⟨k + 1, by omega, by go_num, by rw [hst.out]; congr 1; omega, (fun j hj => by
                  by_cases hjk : j = k
                  · subst hjk; rw [← HG.out]; omega
                  · exact hall.out j (by omega))⟩
                case measure => simp [intOf]; omega
          · have hkn : k = s.size := by omega
            have hF : Hid (decV p = .tuple #[.int .i64 (dvN (p.take k) : Int), .bool true]) := by
              unfold Hid
              rw [List.take_of_length_le (by have := HS.out; omega)]
              refine decV_yes ((decOk_iff p).2 ⟨by have := HS.out; omega, by have := HS.out; omega, HH.out, ?_⟩)
              intro c hc
              obtain ⟨j, hj, rfl⟩ := List.mem_iff_getElem.1 hc
              have := hall.out j (by have := HS.out; omega)
              rw [List.getD, List.getElem?_eq_getElem hj] at this
              simpa using this
            generalize dvN (p.take k) = d at *
            go_wp2
            go_ret2
            rw [hF.out]
            exact ⟨rfl, rfl⟩
end Go.Proofs.YtfighoplbmmijaaDoor
