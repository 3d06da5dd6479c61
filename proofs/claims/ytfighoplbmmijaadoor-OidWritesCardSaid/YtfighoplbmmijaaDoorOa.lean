/-
  The contracts of the project's oid: which lists are oids, the number at a beginning, the first two numbers.
-/
import Derived.Test.YtfighoplbmmijaaDoorCur
import Derived.Test.YtfighoplbmmijaaDoorCmp
import Derived.Test.YtfighoplbmmijaaDoorTxt
import Derived.OneCell
import Derived.WalkMore
import Derived.Lib.SmallJoins
import Derived.Deep.RegionLaw
import Derived.Laws.EntriesVeiled
namespace Go.Proofs.YtfighoplbmmijaaDoor
open Go.RowKit Go.Joins
set_option linter.unusedVariables false
set_option linter.unusedSimpArgs false
set_option maxRecDepth 4000

theorem quietE {P : Program} {f : FuncId} {args : Array Value} {w : World} {n : Nat} {v : Value}
    (h : Calls P f args (w.drewN n) fun e w' => e = .returned v ∧ w.drewN n = w') : Calls P f args (w.drewN n) fun e w'' => e = .returned v ∧ ∃ m, w'' = w.drewN m :=
  h.mono fun _ _ ⟨he, hm⟩ => ⟨he, n, hm.symm⟩
theorem quietQ {P : Program} {f : FuncId} {args : Array Value} {w : World} {n : Nat} {v : Value}
    (h : Calls P f args (w.drewN n) fun e w' => e = .returned v ∧ Qt (w.drewN n) w') : Calls P f args (w.drewN n) fun e w'' => e = .returned v ∧ ∃ m, w'' = w.drewN m :=
  h.mono fun _ _ ⟨he, m, hm⟩ => ⟨he, n + m, by rw [hm, World.drewN_drewN]⟩

theorem oidMostSecond (t : Int) (w : World) :
    Calls Tryd.prog 33 #[.int .i64 t] w fun e w' => e = .returned (.int .i64 (most2 t)) ∧ w = w' := by
  unfold most2
  by_cases h : t < 2
  · rw [if_pos h]
    go_enter Tryd.func33, Tryd.ntmps33
    go_wp2
    go_ret
    exact ⟨rfl, rfl⟩
  · rw [if_neg h]
    go_enter Tryd.func33, Tryd.ntmps33
    go_wp2
    go_ret
    exact ⟨rfl, rfl⟩

theorem rightO_short {l : List Int} (h : l.length < 2) : rightO l = false := by
  rw [Bool.eq_false_iff]; intro e; have := ((rightO_iff l).1 e).two; omega
theorem rightO_long {l : List Int} (h : 32 < l.length) : rightO l = false := by
  rw [Bool.eq_false_iff]; intro e; have := ((rightO_iff l).1 e).max; omega
theorem rightO_bad {l : List Int} {k : Nat} (hk : k < l.length) (h : zth l k < 0 ∨ 2147483647 < zth l k) : rightO l = false := by
  rw [Bool.eq_false_iff]; intro e; have := ((rightO_iff l).1 e).at_ k; omega
theorem rightO_end {l : List Int} (h2 : 2 ≤ l.length) (h32 : l.length ≤ 32) (h : ∀ k, k < l.length → 0 ≤ zth l k ∧ zth l k ≤ 2147483647) : rightO l = (decide (zth l 0 ≤ 2) && decide (zth l 1 ≤ most2 (zth l 0))) := by
  have : l.all arcB = true := by
    rw [List.all_eq_true]
    intro n hn
    obtain ⟨k, hk, rfl⟩ := List.mem_iff_getElem.1 hn
    have := h k hk
    have e : zth l k = l[k] := by simp [zth, List.getD, List.getElem?_eq_getElem hk]
    rw [e] at this
    unfold arcB; simp; omega
  unfold rightO
  rw [this]; simp [h2, h32]

set_option maxHeartbeats 1600000 in
theorem oidRight (A : Option Addr) (n c : Nat) (l : List Int) (w : World) (h : Zs w A n l) (hn : n ≤ 1099511627776) :
    Calls Tryd.prog 12 #[.slice A n c] w fun e w' => e = .returned (.bool (rightO l)) ∧ Qt w w' := by
  have hl := Lib.hid h.len
  by_cases h2 : n < 2
  · have hF := Lib.hid (rightO_short (l := l) (by rw [hl.out]; exact h2))
    go_enter Tryd.func12, Tryd.ntmps12
    go_wp2
    go_ret
    rw [hF.out]
    exact ⟨rfl, Qt.refl _⟩
  · by_cases h3 : 32 < n
    · have hF := Lib.hid (rightO_long (l := l) (by rw [hl.out]; exact h3))
      go_enter Tryd.func12, Tryd.ntmps12
      go_wp2
      go_ret
      rw [hF.out]
      exact ⟨rfl, Qt.refl _⟩
    · go_enter Tryd.func12, Tryd.ntmps12
      go_wp2
      go_loop [15] (fun i => ∃ k : Nat, k ≤ n ∧ i = .int .i64 (k : Int) ∧ Hid (∀ j, j < k → 0 ≤ zth l j ∧ zth l j ≤ 2147483647)) (fun i => n - (intOf i).toNat)
      case atStart => exact ⟨0, by omega, rfl, (fun j hj => by omega)⟩
      case round =>
        obtain ⟨k, hk, rfl, hall⟩ := hrel
        by_cases hlt : k < n
        · obtain ⟨b, o, rfl, hcell⟩ := h.at_ hlt
          have e1 : (k : Int) < n := by omega
          by_cases hb : zth l k < 0 ∨ 2147483647 < zth l k
          · have hF := Lib.hid (rightO_bad (l := l) (by rw [hl.out]; exact hlt) hb)
            rcases hb with hb | hb
            all_goals
              go_wp2
              go_ret
              rw [hF.out]
              exact ⟨rfl, Qt.refl _⟩
          · have b1 : 0 ≤ zth l k := by omega
            have b2 : zth l k ≤ 2147483647 := by omega
            clear hb
            go_wp2
            go_round
            case rel => exact ⟨k + 1, by omega, by go_num, (fun j hj => by
              by_cases hjk : j = k
              · subst hjk; exact ⟨b1, b2⟩
              · exact hall.out j (by omega))⟩
            case measure => simp [intOf]; omega
        · have hkn : k = n := by omega
          subst hkn
          have hF := Lib.hid (rightO_end (l := l) (by have := hl.out; omega) (by have := hl.out; omega) (fun j hj => hall.out j (by have := hl.out; omega)))
          obtain ⟨b, o, rfl, c0⟩ := h.at_ (k := 0) (by omega)
          obtain ⟨b', o', e, c1⟩ := h.at_ (k := 1) (by omega)
          cases e
          rw [Nat.add_zero] at c0
          have i0 : 0 < k := by omega
          have i1 : 1 < k := by omega
          have j1 : (1 : Int) < (k : Int) := by omega
          have j2 : ¬ (k : Int) ≤ 1 := by omega
          by_cases ht : zth l 0 ≤ 2
          · go_wp2
            go_quiet ((go_at_call 33; exact quietE (oidMostSecond _ _)))
            go_wp2
            trace_state
            go_ret
            rw [hF.out]
            exact ⟨by simp [ht], Qt.of _ _⟩
          · have ht' : decide (zth l 0 ≤ 2) = false := by simpa using ht
            go_wp2
            go_quiet ((go_at_call 33; exact quietE (oidMostSecond _ _)))
            go_wp2
            go_ret
            rw [hF.out, ht']
            exact ⟨rfl, Qt.of _ _⟩
end Go.Proofs.YtfighoplbmmijaaDoor
