/-
  The law OidOrders, walked.
-/
import Derived.Test.YtfighoplbmmijaaDoorKn
namespace Go.Proofs.YtfighoplbmmijaaDoor
open Go.RowKit Go.Joins
set_option linter.unusedVariables false
set_option linter.unusedSimpArgs false
set_option maxRecDepth 4000

theorem und_end {a b : List Int} {k : Nat} {u : Bool} (hu : u = true ↔ b.length ≤ a.length ∧ ∀ j, j < k → zth a j = zth b j) (h : k = b.length ∨ u = false ∧ k ≤ b.length) : undB a b = u := by
  rw [Bool.eq_iff_iff]
  by_cases hl : b.length ≤ a.length
  · rw [undB_at hl]
    rcases h with rfl | ⟨rfl, hk⟩
    · rw [hu]; exact ⟨fun h => ⟨hl, h⟩, fun h => h.2⟩
    · constructor
      · intro h2
        exact hu.2 ⟨hl, fun j hj => h2 j (by omega)⟩
      · intro h2; cases h2
  · constructor
    · intro h2
      have := ((undB_iff _ _).1 h2).length_le
      exact absurd this hl
    · intro h2
      exact absurd (hu.1 h2).1 hl

set_option maxHeartbeats 3200000 in
theorem lawOrders0 (A B : Option Addr) (n m c d : Nat) (a b : List Int) (w : World) (ha : Zs w A n a) (hb : Zs w B m b) (hc : n ≤ c) (hd : m ≤ d) (ht : Tab w) :
    Calls Tryd.prog 6 #[.slice A n c, .slice B m d] w fun e w' => e = .returned (.bool true) ∧ Below w.heap.size w w' := by
  have F1 := few4 A n c a w ha hc
  have F2 := few4 B m d b w hb hd
  go_enter Tryd.func6, Tryd.ntmps6
  go_wp2_with fail
  refine F1.mono ?_
  rintro e w1 ⟨rfl, ha1, rfl⟩
  go_wp2_with fail
  refine F2.mono ?_
  rintro e w1 ⟨rfl, hb1, rfl⟩
  have hn50 : min n 50 ≤ 50 := by omega
  have hm50 : min m 50 ≤ 50 := by omega
  have hc1 : min n 50 ≤ c := by omega
  have hd1 : min m 50 ≤ d := by omega
  clear F1 F2 ha hb hc hd
  generalize a.take (min n 50) = a' at *
  generalize b.take (min m 50) = b' at *
  generalize min n 50 = n' at *
  generalize min m 50 = m' at *
  clear a b
  have la := Lib.hid ha1.len
  have lb := Lib.hid hb1.len
  have START : Hid (∃ u : Bool, u = decide (m' ≤ n') ∧ (u = true ↔ b'.length ≤ a'.length ∧ ∀ j, j < 0 → zth a' j = zth b' j)) :=
    ⟨_, rfl, by rw [la.out, lb.out]; simp⟩
  obtain ⟨u0, hu0, hu1⟩ := START.out
  have HU1 := Lib.hid hu1
  clear START hu1
  go_wp2
  rw [← hu0]
  go_loopw [5, 6] (fun uv i wr => ∃ (k : Nat) (u : Bool), i = .int .i64 (k : Int) ∧ uv = .bool u ∧ k ≤ m' ∧ Hid (u = true ↔ b'.length ≤ a'.length ∧ ∀ j, j < k → zth a' j = zth b' j) ∧ Qt w wr) (fun _ i _ => m' - (intOf i).toNat)
  case atStart => exact ⟨0, u0, rfl, rfl, by omega, HU1, Qt.refl _⟩
  case round =>
    obtain ⟨k, u, rfl, rfl, hk, hu, hq⟩ := hrel
    clear hu0 HU1
    by_cases hcont : k < m' ∧ u = true
    · obtain ⟨hlt, rfl⟩ := hcont
      have hun := hu.out.1 rfl
      have hlt2 : k < n' := by have := la.out; have := lb.out; omega
      obtain ⟨b1, o1, rfl, c1⟩ := (ha1.qt hq).at_ hlt2
      obtain ⟨b2, o2, rfl, c2⟩ := (hb1.qt hq).at_ hlt
      have e1 : (k : Int) < m' := by omega
      have e2 : (k : Int) < n' := by omega
      have hnew : Hid ((zth a' k == zth b' k) = true ↔ b'.length ≤ a'.length ∧ ∀ j, j < k + 1 → zth a' j = zth b' j) := by
        unfold Hid
        rw [beq_iff_eq]
        constructor
        · intro e
          refine ⟨hun.1, fun j hj => ?_⟩
          by_cases hjk : j = k
          · subst hjk; exact e
          · exact hun.2 j (by omega)
        · intro h2; exact h2.2 k (by omega)
      have HUN := Lib.hid hun
      clear hun hu
      generalize zth a' k = x at *
      generalize zth b' k = y at *
      go_wp2
      go_quiet (fail)
      go_wp2
      go_roundw
      case rel => exact ⟨k + 1, (x == y), by go_num, rfl, by omega, hnew, hq.drewN _⟩
      case measure => simp [intOf]; omega
    · have hE : Hid (undB a' b' = u) := by
        refine und_end hu.out ?_
        rw [lb.out]
        by_cases hkm : k = m'
        · exact .inl hkm
        · refine .inr ⟨?_, hk⟩
          cases u with
          | false => rfl
          | true => exact absurd ⟨by omega, rfl⟩ hcont
      have hB : Below w.heap.size w wr := hq.below
      have hneg := Lib.hid (cmpZ_neg a' b')
      have hmem := cmpZ_mem a' b'
      have REST : Hid (∀ (W : World), Below w.heap.size w W → Zs W A n' a' ∧ Zs W B m' b') := fun W hW => ⟨ha1.below hW, hb1.below hW⟩
      have ht1 := ht.below hB
      have e3 : (decide ((k : Int) < m') && u) = false := by
        cases u with
        | false => simp
        | true => simp; have : ¬ k < m' := fun e => hcont ⟨e, rfl⟩; omega
      have KN := oidKnown wr ht1
      have hnil := Zs.nil
      obtain ⟨z, hz⟩ : ∃ z, cmpZ a' b' = z := ⟨_, rfl⟩
      have hz1 : -1 ≤ z := by omega
      have hz2 : z ≤ 1 := by omega
      have HZ := Lib.hid hz
      have HZ2 : Hid (cmpZ b' a' = -z) := by unfold Hid; rw [hneg.out, hz]
      clear hu hq hcont hz hmem hneg
      have e4 : (k : Int) < m' → u = false := by
        intro h2
        cases u with
        | false => rfl
        | true => simp at e3; omega
      have C1 : Hid (∀ W, Below w.heap.size w W → Calls Tryd.prog 25 #[.slice A n' c, .slice B m' d] W fun e w' => e = .returned (.int .i64 z) ∧ W = w') := by
        intro W hW
        have := oidCompare A B n' m' c d a' b' W (REST.out W hW).1 (REST.out W hW).2 (by omega) (by omega)
        rw [HZ.out] at this; exact this
      have C2 : Hid (∀ W, Below w.heap.size w W → Calls Tryd.prog 25 #[.slice B m' d, .slice A n' c] W fun e w' => e = .returned (.int .i64 (-z)) ∧ W = w') := by
        intro W hW
        have := oidCompare B A m' n' d c b' a' W (REST.out W hW).2 (REST.out W hW).1 (by omega) (by omega)
        rw [HZ2.out] at this; exact this
      have C3 : Hid (∀ W, Below w.heap.size w W → Calls Tryd.prog 26 #[.slice A n' c, .slice B m' d] W fun e w' => e = .returned (.int .i64 z) ∧ Below w.heap.size w w') := by
        intro W hW
        refine (ref4Compare A B n' m' c d a' b' W (REST.out W hW).1 (REST.out W hW).2 (by omega) (by omega)).mono ?_
        rintro e w' ⟨rfl, q⟩
        exact ⟨by rw [HZ.out], hW.trans q.below⟩
      have U1 : Hid (∀ W, Below w.heap.size w W → Calls Tryd.prog 27 #[.slice A n' c, .slice B m' d] W fun e w' => e = .returned (.bool u) ∧ Below w.heap.size w w') := by
        intro W hW
        refine (oidUnder A B n' m' c d a' b' W (REST.out W hW).1 (REST.out W hW).2 hc1 (by omega) (by omega)).mono ?_
        rintro e w' ⟨rfl, q⟩
        exact ⟨by rw [hE.out], hW.trans q.below⟩
      have U2 : Hid (∀ W, Below w.heap.size w W → Calls Tryd.prog 27 #[.slice A n' c, .slice none 0 0] W fun e w' => e = .returned (.bool true) ∧ Below w.heap.size w w') := by
        intro W hW
        refine (oidUnder A none n' 0 c 0 a' [] W (REST.out W hW).1 (Zs.nil _ _) hc1 (by omega) (by omega)).mono ?_
        rintro e w' ⟨rfl, q⟩
        exact ⟨by rw [undB_nil], hW.trans q.below⟩
      have U3 : Hid (∀ W, Below w.heap.size w W → Calls Tryd.prog 27 #[.slice A n' c, .slice A n' c] W fun e w' => e = .returned (.bool true) ∧ Below w.heap.size w w') := by
        intro W hW
        refine (oidUnder A A n' n' c c a' a' W (REST.out W hW).1 (REST.out W hW).1 hc1 (by omega) (by omega)).mono ?_
        rintro e w' ⟨rfl, q⟩
        exact ⟨by rw [undB_self], hW.trans q.below⟩
      clear REST ht ha1 hb1 HZ HZ2 hE la lb hnil
      have TAIL : True := trivial
      by_cases hlt : (k : Int) < m'
      · have hu0 := e4 hlt
        subst hu0
        have hlt' : k < m' := by omega
        go_wp2_with fail
        refine KN.mono ?_
        rintro e w2 ⟨rfl, hB2⟩
        have q2 : Below w.heap.size w w2 := hB.trans (Below.mono hB2 hB.size)
        go_wp2_with fail
        refine (C1.out _ q2).mono ?_
        rintro e w3 ⟨rfl, rfl⟩
        go_wp2_with fail
        refine (C3.out _ q2).mono ?_
        rintro e w4 ⟨rfl, q4⟩
        go_wp2_with fail
        refine (C2.out _ q4).mono ?_
        rintro e w5 ⟨rfl, rfl⟩
        go_wp2_with fail
        refine (C1.out _ q4).mono ?_
        rintro e w5 ⟨rfl, rfl⟩
        go_wp2_with fail
        refine (U1.out _ q4).mono ?_
        rintro e w6 ⟨rfl, q6⟩
        go_wp2_with fail
        refine (U2.out _ q6).mono ?_
        rintro e w7 ⟨rfl, q7⟩
        go_wp2_with fail
        refine (U3.out _ q7).mono ?_
        rintro e w8 ⟨rfl, q8⟩
        go_wp2
        go_ret
        exact ⟨rfl, q8⟩
      · have hlt' : ¬ k < m' := by omega
        go_wp2_with fail
        refine KN.mono ?_
        rintro e w2 ⟨rfl, hB2⟩
        have q2 : Below w.heap.size w w2 := hB.trans (Below.mono hB2 hB.size)
        go_wp2_with fail
        refine (C1.out _ q2).mono ?_
        rintro e w3 ⟨rfl, rfl⟩
        go_wp2_with fail
        refine (C3.out _ q2).mono ?_
        rintro e w4 ⟨rfl, q4⟩
        go_wp2_with fail
        refine (C2.out _ q4).mono ?_
        rintro e w5 ⟨rfl, rfl⟩
        go_wp2_with fail
        refine (C1.out _ q4).mono ?_
        rintro e w5 ⟨rfl, rfl⟩
        go_wp2_with fail
        refine (U1.out _ q4).mono ?_
        rintro e w6 ⟨rfl, q6⟩
        go_wp2_with fail
        refine (U2.out _ q6).mono ?_
        rintro e w7 ⟨rfl, q7⟩
        go_wp2_with fail
        refine (U3.out _ q7).mono ?_
        rintro e w8 ⟨rfl, q8⟩
        go_wp2
        go_ret
        exact ⟨rfl, q8⟩
end Go.Proofs.YtfighoplbmmijaaDoor
