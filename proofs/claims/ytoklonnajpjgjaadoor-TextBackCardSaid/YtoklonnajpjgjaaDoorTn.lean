/-
  The contract of the reference's wide: the characters of UTF-8.
-/
import Derived.Test.YtoklonnajpjgjaaDoorTm
import Derived.Deep.RegionWith
namespace Go.Proofs.YtoklonnajpjgjaaDoor
open Go.RowKit Go.Shelf
set_option linter.unusedVariables false
set_option linter.unusedSimpArgs false
set_option maxRecDepth 4000

/-- What the reference's Signs answers. -/
def SgR (k : Int) (l : List UInt8) (w : World) (e : Ending) (w' : World) : Prop :=
  (rightT k l = true → ∃ v, e = .returned (.tuple #[v, .bool true]) ∧ Ov w' w.heap.size 3 v ((runesT k l).map intV)) ∧
  (rightT k l = false → e = .returned (.tuple #[.slice none 0 0, .bool false])) ∧ Below w.heap.size w w'
theorem nth_drop (l : List UInt8) (p j : Nat) : nth (l.drop p) j = nth l (p + j) := by unfold nth; simp [List.getD, List.getElem?_drop]
theorem loose_none {l : List UInt8} {p : Nat} {L : List Int} (h : looseL l = (looseL (l.drop p)).map (L ++ ·)) (hp : p < l.length) (hb : looseN (l.drop p) > 1114111) : rightT 12 l = false := by
  rw [looseL_big _ (by intro e; have := congrArg List.length e; simp at this; omega) hb] at h
  cases hr : rightT 12 l
  · rfl
  · unfold rightT at hr
    simp only [Bool.and_eq_true] at hr
    rw [loose_right l hr.2] at h; cases h
theorem loose_on {l : List UInt8} {p : Nat} {L : List Int} (h : looseL l = (looseL (l.drop p)).map (L ++ ·)) (hp : p < l.length) (hb : ¬ looseN (l.drop p) > 1114111) : looseL l = (looseL (l.drop (p + looseS (l.drop p)))).map ((L ++ [looseN (l.drop p)]) ++ ·) := by
  rw [looseL_step _ (by intro e; have := congrArg List.length e; simp at this; omega) hb, List.drop_drop] at h
  rw [h, Option.map_map]
  congr 1
  funext x; simp
theorem beq_str (x y : List UInt8) : ((⟨x.toArray⟩ : ByteArray) == ⟨y.toArray⟩) = (x == y) := by
  show (x.toArray == y.toArray) = _
  simp
theorem ne_str (x y : List UInt8) (h : x ≠ y) : ((⟨x.toArray⟩ : ByteArray) != ⟨y.toArray⟩) = true := by
  unfold bne; rw [beq_str]; simpa using h
theorem eq_str (x : List UInt8) : ((⟨x.toArray⟩ : ByteArray) != ⟨x.toArray⟩) = false := by
  unfold bne; rw [beq_str]; simp

set_option maxHeartbeats 3200000 in
theorem ref6Wide (A : Option Addr) (m c : Nat) (l : List UInt8) (w : World) (h : Bs w A m l) (hm : m ≤ 1000000) :
    Calls Tryd.prog 36 #[.slice A m c] w (SgR 12 l w) := by
  obtain ⟨i0, hi, hz0, hz1, hz2⟩ := info_parts int_info6
  have hHl := Lib.hid h.len
  go_enter Tryd.func36, Tryd.ntmps36
  go_wp2
  go_loopw [4, 5] (fun v i wr => ∃ (p : Nat) (L : List Int), p ≤ m + 3 ∧ i = .int .i64 (p : Int) ∧ Hid (looseL l = (looseL (l.drop p)).map (L ++ ·)) ∧ L.length ≤ p ∧ Ov wr w.heap.size 3 v (L.map intV) ∧ Below w.heap.size w wr) (fun v i _ => m - (intOf i).toNat)
  case atStart => exact ⟨0, [], by omega, rfl, Lib.hid (by simp), Nat.le_refl _, World.ownsRow_nil _ _ _ _, Below.refl _ _⟩
  case round =>
    obtain ⟨p, L, hp, rfl, hLo, hLp, hov, hB⟩ := hrel
    have hsz := hB.size
    by_cases hlt : p < m
    · have hpl : p < l.length := by have := hHl.out; omega
      have hon := Lib.hid (fun hb => loose_on hLo.out hpl hb)
      have hoff := Lib.hid (fun hb => loose_none hLo.out hpl hb)
      have hbs := h.below hB
      have hcell := Lib.hid (fun (j : Nat) (hj : j < m) => hbs.at_ hj)
      obtain ⟨b, o, rfl, c0⟩ := hcell.out p hlt
      have hcell2 : Hid (∀ j : Nat, j < m → wr.cell? ⟨b, o + j, none⟩ = some (.int .u8 (nth l j))) := Lib.hid (fun j hj => by
        obtain ⟨b', o', e', hc⟩ := hcell.out j hj
        cases e'; exact hc)
      have i1 : (p : Int) < m := by omega
      have d1 : decide (p < m) = true := by simp; omega
      have hnd := Lib.hid (nth_drop l p)
      have hc0 := nth_bound l p
      have hdl := Lib.hid (show (l.drop p).length = m - p by rw [List.length_drop, hHl.out])
      have hS : looseS (l.drop p) = leadM (nth l p) + 1 := by simp only [looseS, nth_drop, Nat.add_zero]
      have hN : looseN (l.drop p) = foldW (l.drop p) (leadN (nth l p)) (min (leadM (nth l p)) (m - p - 1)) := by unfold looseN; rw [nth_drop, Nat.add_zero, hdl.out]
      have hfb := Lib.hid (foldW_bound (l.drop p))
      rw [hS] at hon
      rw [hN] at hon hoff
      have hwr : IntKind.i64.wrap (nth l p) = nth l p := wrap_small _ (by omega) (by omega)
      obtain ⟨D, hD⟩ : ∃ D, l.drop p = D := ⟨_, rfl⟩
      rw [hD] at hon hoff hfb hnd
      have hx0 := hc0.1
      have hx1 := hc0.2
      clear hS hN hcell hdl hbs hc0 hD hLo
      generalize nth l p = x at *
      by_cases c240 : x ≥ 240
      · skip
        have eN : leadN x = x - 240 := by unfold leadN; (repeat' split) <;> omega
        have eM : leadM x = 3 := by unfold leadM; (repeat' split) <;> omega
        rw [eN, eM] at hon hoff
        have hN0 : 0 ≤ x - 240 ∧ x - 240 ≤ 255 := by omega
        have hHN := Lib.hid hN0
        clear eN eM hN0
        go_wp2
        go_loopw [7, 9] (fun nv kv wr2 => ∃ j : Nat, j ≤ min 3 (m - p - 1) ∧ kv = .int .i64 ((j + 1 : Nat) : Int) ∧ nv = .int .i64 (foldW D (x - 240) j) ∧ wr2 = wr) (fun nv kv _ => 5 - (intOf kv).toNat)
        case atStart => exact ⟨0, Nat.zero_le _, rfl, rfl, rfl⟩
        case round =>
          obtain ⟨j, hj, rfl, rfl, rfl⟩ := hrel
          by_cases hj2 : j < min 3 (m - p - 1)
          · have q1 : ((j + 1 : Nat) : Int) ≤ 3 := by omega
            have q2 : (p : Int) + ((j + 1 : Nat) : Int) < m := by omega
            have q3 : IntKind.i64.wrap ((p : Int) + ((j + 1 : Nat) : Int)) = (p : Int) + ((j + 1 : Nat) : Int) := wrap_small _ (by omega) (by omega)
            have q4 := hcell2.out (p + (j + 1)) (by omega)
            have q5 : decide (p + (j + 1) < m) = true := by simp; omega
            have q6 := nth_bound l (p + (j + 1))
            have hF := hfb.out (x - 240) hHN.out.1 hHN.out.2 j (by omega)
            have hst : Hid (foldW D (x - 240) (j + 1) = 64 * foldW D (x - 240) j + nth l (p + (j + 1)) % 64) := Lib.hid (by rw [← hnd.out]; rfl)
            have q7 : (nth l (p + (j + 1))).tmod 64 = nth l (p + (j + 1)) % 64 := Int.tmod_eq_emod_of_nonneg q6.1
            have q8 : IntKind.i64.wrap (nth l (p + (j + 1))) = nth l (p + (j + 1)) := wrap_small _ (by omega) (by omega)
            generalize foldW D (x - 240) j = F at *
            generalize nth l (p + (j + 1)) = y at *
            go_wp2
            go_roundw
            case rel => exact ⟨j + 1, by omega, by go_num, by rw [hst.out], by first | rfl | trivial⟩
            case measure => simp [intOf]; omega
          · have hje : j = min 3 (m - p - 1) := by omega
            rw [← hje] at hon hoff
            have hF := hfb.out (x - 240) hHN.out.1 hHN.out.2 j (by omega)
            generalize foldW D (x - 240) j = F at *
            have hstop : ¬ (((j + 1 : Nat) : Int) ≤ 3 ∧ (p : Int) + ((j + 1 : Nat) : Int) < m) := by omega
            have q3 : IntKind.i64.wrap ((p : Int) + ((j + 1 : Nat) : Int)) = (p : Int) + ((j + 1 : Nat) : Int) := wrap_small _ (by omega) (by omega)
            have hHst := Lib.hid hstop
            have hHj := Lib.hid hj
            clear hje hstop hj
            by_cases hM : ((j + 1 : Nat) : Int) ≤ 3
            · have q2 : ¬ ((p : Int) + ((j + 1 : Nat) : Int) < m) := by have := hHst.out; omega
              by_cases hbig : F > 1114111
              · have hfalse := Lib.hid (hoff.out (by first | exact hbig | omega))
                clear hon hoff
                go_wp2
                go_ret2
                exact ⟨fun hx => tf hfalse.out hx, fun _ => rfl, hB⟩
              · have hnext := Lib.hid (hon.out (by first | exact hbig | omega))
                clear hon hoff
                go_wp2_with (at_builtin; refine wpList_appendV rfl _ _ 28 rfl w.heap.size 3 i0 (.int .i64 0) Tryd.underlying28 hi hz0 hz1 (by omega) rfl _ (L.map intV) rfl (Ov.alloc hov _) _ _ _ [intV F] rfl (Vs.new1 wr _ 3) ?ab0 ?ab1 ?ab2 ?_)
                case ab0 => first | (intro u hu; rw [List.mem_singleton.1 hu]; rfl) | rfl | (simp [intV, Value.oneCell'])
                case ab1 => first | omega | (simp; omega)
                case ab2 => first | omega | (simp; omega)
                intro v' w2 hown hg _ _
                have hB2 : Below w.heap.size w w2 := Ov.grew (Ov.alloc hov _) (hB.alloc hsz _) (Nat.le_refl _) hg
                clear hov c0 hg hcell2
                go_wp2
                go_roundw
                case rel => exact ⟨p + (3 + 1), L ++ [F], by omega, by go_num, hnext, by simp; omega, by rw [List.map_append]; exact hown, hB2⟩
                case measure => simp [intOf]; omega
            · skip
              by_cases hbig : F > 1114111
              · have hfalse := Lib.hid (hoff.out (by first | exact hbig | omega))
                clear hon hoff
                go_wp2
                go_ret2
                exact ⟨fun hx => tf hfalse.out hx, fun _ => rfl, hB⟩
              · have hnext := Lib.hid (hon.out (by first | exact hbig | omega))
                clear hon hoff
                go_wp2_with (at_builtin; refine wpList_appendV rfl _ _ 28 rfl w.heap.size 3 i0 (.int .i64 0) Tryd.underlying28 hi hz0 hz1 (by omega) rfl _ (L.map intV) rfl (Ov.alloc hov _) _ _ _ [intV F] rfl (Vs.new1 wr _ 3) ?ab0 ?ab1 ?ab2 ?_)
                case ab0 => first | (intro u hu; rw [List.mem_singleton.1 hu]; rfl) | rfl | (simp [intV, Value.oneCell'])
                case ab1 => first | omega | (simp; omega)
                case ab2 => first | omega | (simp; omega)
                intro v' w2 hown hg _ _
                have hB2 : Below w.heap.size w w2 := Ov.grew (Ov.alloc hov _) (hB.alloc hsz _) (Nat.le_refl _) hg
                clear hov c0 hg hcell2
                go_wp2
                go_roundw
                case rel => exact ⟨p + (3 + 1), L ++ [F], by omega, by go_num, hnext, by simp; omega, by rw [List.map_append]; exact hown, hB2⟩
                case measure => simp [intOf]; omega
      · by_cases c224 : x ≥ 224
        · skip
          have eN : leadN x = x - 224 := by unfold leadN; (repeat' split) <;> omega
          have eM : leadM x = 2 := by unfold leadM; (repeat' split) <;> omega
          rw [eN, eM] at hon hoff
          have hN0 : 0 ≤ x - 224 ∧ x - 224 ≤ 255 := by omega
          have hHN := Lib.hid hN0
          clear eN eM hN0
          go_wp2
          go_loopw [7, 9] (fun nv kv wr2 => ∃ j : Nat, j ≤ min 2 (m - p - 1) ∧ kv = .int .i64 ((j + 1 : Nat) : Int) ∧ nv = .int .i64 (foldW D (x - 224) j) ∧ wr2 = wr) (fun nv kv _ => 5 - (intOf kv).toNat)
          case atStart => exact ⟨0, Nat.zero_le _, rfl, rfl, rfl⟩
          case round =>
            obtain ⟨j, hj, rfl, rfl, rfl⟩ := hrel
            by_cases hj2 : j < min 2 (m - p - 1)
            · have q1 : ((j + 1 : Nat) : Int) ≤ 2 := by omega
              have q2 : (p : Int) + ((j + 1 : Nat) : Int) < m := by omega
              have q3 : IntKind.i64.wrap ((p : Int) + ((j + 1 : Nat) : Int)) = (p : Int) + ((j + 1 : Nat) : Int) := wrap_small _ (by omega) (by omega)
              have q4 := hcell2.out (p + (j + 1)) (by omega)
              have q5 : decide (p + (j + 1) < m) = true := by simp; omega
              have q6 := nth_bound l (p + (j + 1))
              have hF := hfb.out (x - 224) hHN.out.1 hHN.out.2 j (by omega)
              have hst : Hid (foldW D (x - 224) (j + 1) = 64 * foldW D (x - 224) j + nth l (p + (j + 1)) % 64) := Lib.hid (by rw [← hnd.out]; rfl)
              have q7 : (nth l (p + (j + 1))).tmod 64 = nth l (p + (j + 1)) % 64 := Int.tmod_eq_emod_of_nonneg q6.1
              have q8 : IntKind.i64.wrap (nth l (p + (j + 1))) = nth l (p + (j + 1)) := wrap_small _ (by omega) (by omega)
              generalize foldW D (x - 224) j = F at *
              generalize nth l (p + (j + 1)) = y at *
              go_wp2
              go_roundw
              case rel => exact ⟨j + 1, by omega, by go_num, by rw [hst.out], by first | rfl | trivial⟩
              case measure => simp [intOf]; omega
            · have hje : j = min 2 (m - p - 1) := by omega
              rw [← hje] at hon hoff
              have hF := hfb.out (x - 224) hHN.out.1 hHN.out.2 j (by omega)
              generalize foldW D (x - 224) j = F at *
              have hstop : ¬ (((j + 1 : Nat) : Int) ≤ 2 ∧ (p : Int) + ((j + 1 : Nat) : Int) < m) := by omega
              have q3 : IntKind.i64.wrap ((p : Int) + ((j + 1 : Nat) : Int)) = (p : Int) + ((j + 1 : Nat) : Int) := wrap_small _ (by omega) (by omega)
              have hHst := Lib.hid hstop
              have hHj := Lib.hid hj
              clear hje hstop hj
              by_cases hM : ((j + 1 : Nat) : Int) ≤ 2
              · have q2 : ¬ ((p : Int) + ((j + 1 : Nat) : Int) < m) := by have := hHst.out; omega
                by_cases hbig : F > 1114111
                · have hfalse := Lib.hid (hoff.out (by first | exact hbig | omega))
                  clear hon hoff
                  go_wp2
                  go_ret2
                  exact ⟨fun hx => tf hfalse.out hx, fun _ => rfl, hB⟩
                · have hnext := Lib.hid (hon.out (by first | exact hbig | omega))
                  clear hon hoff
                  go_wp2_with (at_builtin; refine wpList_appendV rfl _ _ 28 rfl w.heap.size 3 i0 (.int .i64 0) Tryd.underlying28 hi hz0 hz1 (by omega) rfl _ (L.map intV) rfl (Ov.alloc hov _) _ _ _ [intV F] rfl (Vs.new1 wr _ 3) ?ab0 ?ab1 ?ab2 ?_)
                  case ab0 => first | (intro u hu; rw [List.mem_singleton.1 hu]; rfl) | rfl | (simp [intV, Value.oneCell'])
                  case ab1 => first | omega | (simp; omega)
                  case ab2 => first | omega | (simp; omega)
                  intro v' w2 hown hg _ _
                  have hB2 : Below w.heap.size w w2 := Ov.grew (Ov.alloc hov _) (hB.alloc hsz _) (Nat.le_refl _) hg
                  clear hov c0 hg hcell2
                  go_wp2
                  go_roundw
                  case rel => exact ⟨p + (2 + 1), L ++ [F], by omega, by go_num, hnext, by simp; omega, by rw [List.map_append]; exact hown, hB2⟩
                  case measure => simp [intOf]; omega
              · skip
                by_cases hbig : F > 1114111
                · have hfalse := Lib.hid (hoff.out (by first | exact hbig | omega))
                  clear hon hoff
                  go_wp2
                  go_ret2
                  exact ⟨fun hx => tf hfalse.out hx, fun _ => rfl, hB⟩
                · have hnext := Lib.hid (hon.out (by first | exact hbig | omega))
                  clear hon hoff
                  go_wp2_with (at_builtin; refine wpList_appendV rfl _ _ 28 rfl w.heap.size 3 i0 (.int .i64 0) Tryd.underlying28 hi hz0 hz1 (by omega) rfl _ (L.map intV) rfl (Ov.alloc hov _) _ _ _ [intV F] rfl (Vs.new1 wr _ 3) ?ab0 ?ab1 ?ab2 ?_)
                  case ab0 => first | (intro u hu; rw [List.mem_singleton.1 hu]; rfl) | rfl | (simp [intV, Value.oneCell'])
                  case ab1 => first | omega | (simp; omega)
                  case ab2 => first | omega | (simp; omega)
                  intro v' w2 hown hg _ _
                  have hB2 : Below w.heap.size w w2 := Ov.grew (Ov.alloc hov _) (hB.alloc hsz _) (Nat.le_refl _) hg
                  clear hov c0 hg hcell2
                  go_wp2
                  go_roundw
                  case rel => exact ⟨p + (2 + 1), L ++ [F], by omega, by go_num, hnext, by simp; omega, by rw [List.map_append]; exact hown, hB2⟩
                  case measure => simp [intOf]; omega
        · by_cases c192 : x ≥ 192
          · skip
            have eN : leadN x = x - 192 := by unfold leadN; (repeat' split) <;> omega
            have eM : leadM x = 1 := by unfold leadM; (repeat' split) <;> omega
            rw [eN, eM] at hon hoff
            have hN0 : 0 ≤ x - 192 ∧ x - 192 ≤ 255 := by omega
            have hHN := Lib.hid hN0
            clear eN eM hN0
            go_wp2
            go_loopw [7, 9] (fun nv kv wr2 => ∃ j : Nat, j ≤ min 1 (m - p - 1) ∧ kv = .int .i64 ((j + 1 : Nat) : Int) ∧ nv = .int .i64 (foldW D (x - 192) j) ∧ wr2 = wr) (fun nv kv _ => 5 - (intOf kv).toNat)
            case atStart => exact ⟨0, Nat.zero_le _, rfl, rfl, rfl⟩
            case round =>
              obtain ⟨j, hj, rfl, rfl, rfl⟩ := hrel
              by_cases hj2 : j < min 1 (m - p - 1)
              · have q1 : ((j + 1 : Nat) : Int) ≤ 1 := by omega
                have q2 : (p : Int) + ((j + 1 : Nat) : Int) < m := by omega
                have q3 : IntKind.i64.wrap ((p : Int) + ((j + 1 : Nat) : Int)) = (p : Int) + ((j + 1 : Nat) : Int) := wrap_small _ (by omega) (by omega)
                have q4 := hcell2.out (p + (j + 1)) (by omega)
                have q5 : decide (p + (j + 1) < m) = true := by simp; omega
                have q6 := nth_bound l (p + (j + 1))
                have hF := hfb.out (x - 192) hHN.out.1 hHN.out.2 j (by omega)
                have hst : Hid (foldW D (x - 192) (j + 1) = 64 * foldW D (x - 192) j + nth l (p + (j + 1)) % 64) := Lib.hid (by rw [← hnd.out]; rfl)
                have q7 : (nth l (p + (j + 1))).tmod 64 = nth l (p + (j + 1)) % 64 := Int.tmod_eq_emod_of_nonneg q6.1
                have q8 : IntKind.i64.wrap (nth l (p + (j + 1))) = nth l (p + (j + 1)) := wrap_small _ (by omega) (by omega)
                generalize foldW D (x - 192) j = F at *
                generalize nth l (p + (j + 1)) = y at *
                go_wp2
                go_roundw
                case rel => exact ⟨j + 1, by omega, by go_num, by rw [hst.out], by first | rfl | trivial⟩
                case measure => simp [intOf]; omega
              · have hje : j = min 1 (m - p - 1) := by omega
                rw [← hje] at hon hoff
                have hF := hfb.out (x - 192) hHN.out.1 hHN.out.2 j (by omega)
                generalize foldW D (x - 192) j = F at *
                have hstop : ¬ (((j + 1 : Nat) : Int) ≤ 1 ∧ (p : Int) + ((j + 1 : Nat) : Int) < m) := by omega
                have q3 : IntKind.i64.wrap ((p : Int) + ((j + 1 : Nat) : Int)) = (p : Int) + ((j + 1 : Nat) : Int) := wrap_small _ (by omega) (by omega)
                have hHst := Lib.hid hstop
                have hHj := Lib.hid hj
                clear hje hstop hj
                by_cases hM : ((j + 1 : Nat) : Int) ≤ 1
                · have q2 : ¬ ((p : Int) + ((j + 1 : Nat) : Int) < m) := by have := hHst.out; omega
                  by_cases hbig : F > 1114111
                  · have hfalse := Lib.hid (hoff.out (by first | exact hbig | omega))
                    clear hon hoff
                    go_wp2
                    go_ret2
                    exact ⟨fun hx => tf hfalse.out hx, fun _ => rfl, hB⟩
                  · have hnext := Lib.hid (hon.out (by first | exact hbig | omega))
                    clear hon hoff
                    go_wp2_with (at_builtin; refine wpList_appendV rfl _ _ 28 rfl w.heap.size 3 i0 (.int .i64 0) Tryd.underlying28 hi hz0 hz1 (by omega) rfl _ (L.map intV) rfl (Ov.alloc hov _) _ _ _ [intV F] rfl (Vs.new1 wr _ 3) ?ab0 ?ab1 ?ab2 ?_)
                    case ab0 => first | (intro u hu; rw [List.mem_singleton.1 hu]; rfl) | rfl | (simp [intV, Value.oneCell'])
                    case ab1 => first | omega | (simp; omega)
                    case ab2 => first | omega | (simp; omega)
                    intro v' w2 hown hg _ _
                    have hB2 : Below w.heap.size w w2 := Ov.grew (Ov.alloc hov _) (hB.alloc hsz _) (Nat.le_refl _) hg
                    clear hov c0 hg hcell2
                    go_wp2
                    go_roundw
                    case rel => exact ⟨p + (1 + 1), L ++ [F], by omega, by go_num, hnext, by simp; omega, by rw [List.map_append]; exact hown, hB2⟩
                    case measure => simp [intOf]; omega
                · skip
                  by_cases hbig : F > 1114111
                  · have hfalse := Lib.hid (hoff.out (by first | exact hbig | omega))
                    clear hon hoff
                    go_wp2
                    go_ret2
                    exact ⟨fun hx => tf hfalse.out hx, fun _ => rfl, hB⟩
                  · have hnext := Lib.hid (hon.out (by first | exact hbig | omega))
                    clear hon hoff
                    go_wp2_with (at_builtin; refine wpList_appendV rfl _ _ 28 rfl w.heap.size 3 i0 (.int .i64 0) Tryd.underlying28 hi hz0 hz1 (by omega) rfl _ (L.map intV) rfl (Ov.alloc hov _) _ _ _ [intV F] rfl (Vs.new1 wr _ 3) ?ab0 ?ab1 ?ab2 ?_)
                    case ab0 => first | (intro u hu; rw [List.mem_singleton.1 hu]; rfl) | rfl | (simp [intV, Value.oneCell'])
                    case ab1 => first | omega | (simp; omega)
                    case ab2 => first | omega | (simp; omega)
                    intro v' w2 hown hg _ _
                    have hB2 : Below w.heap.size w w2 := Ov.grew (Ov.alloc hov _) (hB.alloc hsz _) (Nat.le_refl _) hg
                    clear hov c0 hg hcell2
                    go_wp2
                    go_roundw
                    case rel => exact ⟨p + (1 + 1), L ++ [F], by omega, by go_num, hnext, by simp; omega, by rw [List.map_append]; exact hown, hB2⟩
                    case measure => simp [intOf]; omega
          · skip
            have eN : leadN x = x := by unfold leadN; (repeat' split) <;> omega
            have eM : leadM x = 0 := by unfold leadM; (repeat' split) <;> omega
            rw [eN, eM] at hon hoff
            have hN0 : 0 ≤ x ∧ x ≤ 255 := by omega
            have hHN := Lib.hid hN0
            clear eN eM hN0
            go_wp2
            go_loopw [7, 9] (fun nv kv wr2 => ∃ j : Nat, j ≤ min 0 (m - p - 1) ∧ kv = .int .i64 ((j + 1 : Nat) : Int) ∧ nv = .int .i64 (foldW D (x) j) ∧ wr2 = wr) (fun nv kv _ => 5 - (intOf kv).toNat)
            case atStart => exact ⟨0, Nat.zero_le _, rfl, rfl, rfl⟩
            case round =>
              obtain ⟨j, hj, rfl, rfl, rfl⟩ := hrel
              have hje : j = min 0 (m - p - 1) := by omega
              rw [← hje] at hon hoff
              have hF := hfb.out (x) hHN.out.1 hHN.out.2 j (by omega)
              generalize foldW D (x) j = F at *
              have hstop : ¬ (((j + 1 : Nat) : Int) ≤ 0 ∧ (p : Int) + ((j + 1 : Nat) : Int) < m) := by omega
              have q3 : IntKind.i64.wrap ((p : Int) + ((j + 1 : Nat) : Int)) = (p : Int) + ((j + 1 : Nat) : Int) := wrap_small _ (by omega) (by omega)
              have hHst := Lib.hid hstop
              have hHj := Lib.hid hj
              clear hje hstop hj
              have hM : ¬ (((j + 1 : Nat) : Int) ≤ 0) := by omega
              by_cases hbig : F > 1114111
              · have hfalse := Lib.hid (hoff.out (by first | exact hbig | omega))
                clear hon hoff
                go_wp2
                go_ret2
                exact ⟨fun hx => tf hfalse.out hx, fun _ => rfl, hB⟩
              · have hnext := Lib.hid (hon.out (by first | exact hbig | omega))
                clear hon hoff
                go_wp2_with (at_builtin; refine wpList_appendV rfl _ _ 28 rfl w.heap.size 3 i0 (.int .i64 0) Tryd.underlying28 hi hz0 hz1 (by omega) rfl _ (L.map intV) rfl (Ov.alloc hov _) _ _ _ [intV F] rfl (Vs.new1 wr _ 3) ?ab0 ?ab1 ?ab2 ?_)
                case ab0 => first | (intro u hu; rw [List.mem_singleton.1 hu]; rfl) | rfl | (simp [intV, Value.oneCell'])
                case ab1 => first | omega | (simp; omega)
                case ab2 => first | omega | (simp; omega)
                intro v' w2 hown hg _ _
                have hB2 : Below w.heap.size w w2 := Ov.grew (Ov.alloc hov _) (hB.alloc hsz _) (Nat.le_refl _) hg
                clear hov c0 hg hcell2
                go_wp2
                go_roundw
                case rel => exact ⟨p + (0 + 1), L ++ [F], by omega, by go_num, hnext, by simp; omega, by rw [List.map_append]; exact hown, hB2⟩
                case measure => simp [intOf]; omega
    · have hlast : Hid (looseL l = some L) := Lib.hid (by
        rw [hLo.out, List.drop_eq_nil_of_le (by have := hHl.out; omega), looseL_nil]; simp)
      obtain ⟨A1, c1, rfl, hc1, hvs⟩ := hov.slice
      have hz : Zs wr A1 L.length L := by unfold Zs; rw [List.length_map] at hvs; exact hvs
      rw [List.length_map] at hov ⊢
      clear hLo hvs
      have i1 : ¬ (p : Int) < m := by omega
      have hLm : L.length ≤ m + 3 := by omega
      have hMay := Lib.hid (fun n W => ref6May 12 n W rfl)
      clear hLp hp
      go_wp2
      go_loopw [10] (fun i wr3 => ∃ q : Nat, q ≤ L.length ∧ i = .int .i64 (q : Int) ∧ Hid (∀ z ∈ L.take q, hasT 12 z = true) ∧ wr3 = wr) (fun i _ => L.length - (intOf i).toNat)
      case atStart => exact ⟨0, Nat.zero_le _, rfl, Lib.hid (by simp), by first | rfl | trivial⟩
      case round =>
        obtain ⟨q, hq, rfl, hall, rfl⟩ := hrel
        by_cases hql : q < L.length
        · have i2 : (q : Int) < L.length := by omega
          have d2 : decide (q < L.length) = true := by simp; omega
          obtain ⟨b2, o2, rfl, cz⟩ := hz.at_ hql
          have hmem : Hid (zth L q ∈ L) := Lib.hid (by simp [zth, List.getD, List.getElem?_eq_getElem hql])
          have htk : Hid (∀ z ∈ L.take (q + 1), z ∈ L.take q ∨ z = zth L q) := Lib.hid (by
            intro z hz'
            rw [List.take_add_one, List.getElem?_eq_getElem hql] at hz'
            rcases List.mem_append.1 hz' with h1 | h1
            · exact .inl h1
            · right; simp at h1; rw [h1]; simp [zth, List.getD, List.getElem?_eq_getElem hql])
          generalize zth L q = z at *
          have hM := hMay.out z wr
          cases hb : hasT 12 z
          · have hfalse : Hid (rightT 12 l = false) := Lib.hid (by
              cases hr : rightT 12 l
              · rfl
              · have := (right_loose_not hlast.out hr).2.1
                rw [List.all_eq_true] at this
                exact absurd (this z hmem.out) (by rw [hb]; simp))
            rw [hb] at hM
            go_wp2_with fail
            refine hM.mono ?_
            rintro e w5 ⟨rfl, rfl⟩
            go_wp2
            go_ret2
            exact ⟨fun hx => tf hfalse.out hx, fun _ => rfl, hB⟩
          · rw [hb] at hM
            have hHb := Lib.hid hb
            clear hb
            go_wp2_with fail
            refine hM.mono ?_
            rintro e w5 ⟨rfl, rfl⟩
            clear hM
            go_wp2
            go_roundw
            case rel =>
              refine ⟨q + 1, by omega, by go_num, Lib.hid fun y hy => ?_, by first | rfl | trivial⟩
              rcases htk.out y hy with h1 | h1
              · exact hall.out y h1
              · rw [h1]; exact hHb.out
            case measure => simp [intOf]; omega
        · obtain rfl : q = L.length := by omega
          have hallL : Hid (L.all (hasT 12) = true) := Lib.hid (by
            rw [List.all_eq_true]; intro y hy; exact hall.out y (by rw [List.take_length]; exact hy))
          have hU := ref6Utf8 A1 L.length c1 L wr.drew hz (by omega) (by rw [← hasT12]; exact hallL.out)
          have hbs := h.below hB
          have hcvA : Hid (∀ W : World, Below wr.heap.size wr W → (convert 22 9 (.slice A m c)).run Tryd.prog W = .ok (.string ⟨l.toArray⟩) W) := Lib.hid (fun W hW => (hbs.below hW).convert c _ _ 5 Tryd.underlying22 Tryd.underlying5 Tryd.underlying9)
          have hcv0 := hcvA.out wr.drew (Qt.drew (Qt.refl wr)).below
          clear hall hMay
          generalize hfl : L.flatMap Lib.encodeRune = fl at *
          have hfH := Lib.hid hfl
          clear hfl
          have i3 : ¬ ((L.length : Nat) : Int) < (L.length : Nat) := by omega
          by_cases heq : fl = l
          · have hr := right_loose hallL.out (hfH.out.trans heq)
            have hHr := Lib.hid hr
            subst heq
            have hes := eq_str fl
            clear hr
            go_wp2
            go_region_with (go_at_call 19; refine hU.mono ?_; rintro e w5 ⟨v2, rfl, hob2, hb5⟩; obtain ⟨A2, c2, rfl, hc2, hbs2⟩ := hob2.slice; have hcv2 := hbs2.convert (P := Tryd.prog) c2 22 9 5 Tryd.underlying22 Tryd.underlying5 Tryd.underlying9; have hb5' : Below wr.heap.size wr w5 := ⟨hb5.os, hb5.tape, hb5.output, hb5.size, hb5.block⟩; have hcv3 := hcvA.out w5 hb5')
            all_goals
              have hb6 : Below wr.heap.size wr w5 := ⟨hb5.os, hb5.tape, hb5.output, hb5.size, hb5.block⟩
              have hov5 := Ov.below hov hb6
              have hB5 := hB.trans (Below.mono hb6 hB.size)
              clear hcv2 hcv3 hbs2 hob2 hb5 hb5' hb6 hcv0 hU hov
              go_wp2
              go_ret2
              exact ⟨fun _ => ⟨_, rfl, by rw [hHr.out.2]; exact hov5⟩, fun hx => tf hx hHr.out.1, hB5⟩
          · have hfalse : Hid (rightT 12 l = false) := Lib.hid (by
              cases hr : rightT 12 l
              · rfl
              · exact absurd (hfH.out.symm.trans (right_loose_not hlast.out hr).2.2) heq)
            have hes := ne_str fl l heq
            have hes2 : (fl != l) = true := by simpa using heq
            have hes3 : (fl == l) = false := by simpa using heq
            have hes4 : ((⟨fl.toArray⟩ : ByteArray) == ⟨l.toArray⟩) = false := by rw [beq_str]; exact hes3
            have hes5 : (fl.toArray == l.toArray) = false := by simpa using heq
            have hHe := Lib.hid heq
            clear heq
            go_wp2
            go_region_with (go_at_call 19; refine hU.mono ?_; rintro e w5 ⟨v2, rfl, hob2, hb5⟩; obtain ⟨A2, c2, rfl, hc2, hbs2⟩ := hob2.slice; have hcv2 := hbs2.convert (P := Tryd.prog) c2 22 9 5 Tryd.underlying22 Tryd.underlying5 Tryd.underlying9; have hb5' : Below wr.heap.size wr w5 := ⟨hb5.os, hb5.tape, hb5.output, hb5.size, hb5.block⟩; have hcv3 := hcvA.out w5 hb5')
            all_goals
              have hb6 : Below wr.heap.size wr w5 := ⟨hb5.os, hb5.tape, hb5.output, hb5.size, hb5.block⟩
              have hB5 := hB.trans (Below.mono hb6 hB.size)
              clear hcv2 hcv3 hbs2 hob2 hb5 hb5' hb6 hcv0 hU hov
              go_wp2
              go_ret2
              exact ⟨fun hx => tf hfalse.out hx, fun _ => rfl, hB5⟩
end Go.Proofs.YtoklonnajpjgjaaDoor
