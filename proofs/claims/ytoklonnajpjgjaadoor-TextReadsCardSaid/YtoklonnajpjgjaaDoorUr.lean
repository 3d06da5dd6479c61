/-
  The reference of heads: reading tags, lengths, heads.
-/
import Derived.Test.YtoklonnajpjgjaaDoorOpn
namespace Go.Proofs.YtoklonnajpjgjaaDoor
open Go.RowKit
set_option linter.unusedVariables false
set_option linter.unusedSimpArgs false
set_option maxRecDepth 4000

set_option maxHeartbeats 1600000 in
theorem refReadTag (A : Option Addr) (n c k : Nat) (x : Int) (l : List UInt8) (w : World) (h : Bs w A n l) (hn : n ≤ 1099511627776) (hk : k ≤ 1099511627776) (hx : x = k) :
    Calls Tryd.prog 66 #[.slice A n c, .int .i64 x] w fun e w' => e = tagV (rTag l k) ∧ Below w.heap.size w w' := by
  subst hx
  have hl := Lib.hid h.len
  go_enter Tryd.func66, Tryd.ntmps66
  by_cases h0 : n ≤ k
  · have hR : Hid (rTag l k = (tg0, k, 3)) := by unfold Hid rTag; rw [hl.out, if_pos h0]
    go_wp2
    rw [hR.out]
    refine bodyPost_ret (v := .tuple #[tg0.v, .int .i64 (k : Int), .int .i64 3]) (by simp [results, Tryd.results66, go_sem, tg0, Tg.v]) rfl ?_
    exact ⟨rfl, below_alloc1 _ _⟩
  · obtain ⟨b, o, rfl, hc⟩ := h.at_ (k := k) (by omega)
    have hb := nth_bound l k
    have hc1 : (w.alloc (Obj.cells #[Value.int IntKind.i64 0, Value.int IntKind.i64 0, Value.bool false] 61)).cell? ⟨b, o + k, none⟩ = some (.int .u8 (nth l k)) := (Below.cell (below_alloc1 w _) (World.block_lt_of_cell? w _ hc)).trans hc
    by_cases h1 : nth l k % 32 < 31
    · have hR : Hid (rTag l k = (tg1 (nth l k), k + 1, 0)) := by unfold Hid rTag; rw [hl.out, if_neg h0, if_pos h1]
      go_wp2
      rw [hR.out]
      refine bodyPost_ret (v := .tuple #[(tg1 (nth l k)).v, .int .i64 ((k + 1 : Nat) : Int), .int .i64 0]) (by simp [results, Tryd.results66, go_sem, tg1, Tg.v]) rfl ?_
      exact ⟨rfl, below_alloc2 _ _ _⟩
    · have hR : Hid (rTag l k = digs2 l k (nth l k / 64) (nth l k / 32 % 2 == 1) 3 1 0) := by unfold Hid rTag; rw [hl.out, if_neg h0, if_neg h1]
      go_wp2
      go_loopw [9, 10] (fun v i wr => ∃ (m f : Nat) (z : Int), i = .int .i64 (m : Int) ∧ v = .int .i64 z ∧ m + f = 4 ∧ 1 ≤ m ∧ 0 ≤ z ∧ z < 2097152 ∧ (m = 1 → z = 0) ∧ (m = 2 → z < 128) ∧ (m = 3 → z < 16384) ∧
        wr = (w.alloc (Obj.cells #[Value.int IntKind.i64 0, Value.int IntKind.i64 0, Value.bool false] 61)).alloc (Obj.cells #[Value.int IntKind.i64 (nth l k / 64), Value.int IntKind.i64 (nth l k % 32), Value.bool (nth l k / 32 % 2 == 1)] 61) ∧
        Hid (rTag l k = digs2 l k (nth l k / 64) (nth l k / 32 % 2 == 1) f m z)) (fun _ i _ => 5 - (intOf i).toNat)
      case atStart => exact ⟨1, 3, 0, rfl, rfl, by omega, by omega, by omega, by omega, by omega, by omega, by omega, rfl, hR⟩
      case round =>
        obtain ⟨m, f, z, rfl, rfl, hmf, hm1, hz0, hz1, hz2, hz3, hz4, rfl, hun⟩ := hrel
        clear hR hc1
        generalize hq1 : (nth l k / 64) = q1 at *
        generalize hq2 : (nth l k % 32) = q2 at *
        generalize hq3 : (nth l k / 32 % 2 == 1) = q3 at *
        clear hq1 hq2 hq3
        by_cases h2 : n ≤ k + m
        · have hR : Hid (rTag l k = (tg0, k, 3)) := by
            unfold Hid; rw [hun.out]; cases f <;> (unfold digs2; rw [hl.out, if_pos h2])
          have h2' : (n : Int) ≤ k + m := by omega
          go_wp2
          rw [hR.out]
          refine bodyPost_ret (v := .tuple #[tg0.v, .int .i64 (k : Int), .int .i64 3]) (by simp [results, Tryd.results66, go_sem, tg0, Tg.v]) rfl ?_
          exact ⟨rfl, below_alloc2 _ _ _⟩
        · obtain ⟨b', o', hbo, hc2⟩ := h.at_ (k := k + m) (by omega)
          cases hbo
          have hb2 := nth_bound l (k + m)
          have h2' : (k : Int) + m < n := by omega
          have hc3 := (Below.cell (below_alloc2 w (Obj.cells #[Value.int IntKind.i64 0, Value.int IntKind.i64 0, Value.bool false] 61) (Obj.cells #[Value.int IntKind.i64 q1, Value.int IntKind.i64 q2, Value.bool q3] 61)) (World.block_lt_of_cell? w _ hc2)).trans hc2
          have hun1 : ∀ f', f = f' + 1 → Hid (rTag l k = if m = 1 ∧ nth l (k + m) = 128 then (tg0, k, 4) else if nth l (k + m) < 128 then
              (if 128 * z + nth l (k + m) % 128 < 31 then (tg0, k, 4) else (⟨q1, 128 * z + nth l (k + m) % 128, q3⟩, k + m + 1, 0)) else digs2 l k q1 q3 f' (m + 1) (128 * z + nth l (k + m) % 128)) := by
            rintro f' rfl; unfold Hid; rw [hun.out]; conv => lhs; unfold digs2
            rw [hl.out, if_neg h2]
          have hun0 : f = 0 → Hid (rTag l k = (tg0, k, 4)) := by
            rintro rfl; unfold Hid; rw [hun.out]; unfold digs2; rw [hl.out, if_neg h2]
          clear hun
          generalize nth l (k + m) = d at *
          rcases f with _ | f
          · obtain rfl : m = 4 := by omega
            have hR := hun0 rfl
            clear hun0 hun1
            go_wp2
            rw [hR.out]
            refine bodyPost_ret (v := .tuple #[tg0.v, .int .i64 (k : Int), .int .i64 4]) (by simp [results, Tryd.results66, go_sem, tg0, Tg.v]) rfl ?_
            exact ⟨rfl, below_alloc2 _ _ _⟩
          · have hR := (hun1 f rfl).out
            clear hun0 hun1
            have e4 : ((m : Int) == 4) = false := by simp; omega
            by_cases h3 : m = 1 ∧ d = 128
            · rw [if_pos h3] at hR
              have HR := Lib.hid hR; clear hR
              obtain ⟨rfl, rfl⟩ := h3
              go_wp2
              rw [HR.out]
              refine bodyPost_ret (v := .tuple #[tg0.v, .int .i64 (k : Int), .int .i64 4]) (by simp [results, Tryd.results66, go_sem, tg0, Tg.v]) rfl ?_
              exact ⟨rfl, below_alloc2 _ _ _⟩
            · rw [if_neg h3] at hR
              have hd : d % 128 = if d < 128 then d else d - 128 := by split <;> omega
              have hz5 : 128 * z + d % 128 < 2097152 := by omega
              have hz6 : m = 1 → 128 * z + d % 128 < 128 := by omega
              have hz7 : m = 2 → 128 * z + d % 128 < 16384 := by omega
              have hz8 : 0 ≤ 128 * z + d % 128 := by omega
              have hz9 : 0 ≤ d % 128 ∧ d % 128 < 128 := by omega
              clear hd
              by_cases h4 : d < 128
              · rw [if_pos h4] at hR
                by_cases h5 : 128 * z + d % 128 < 31
                · rw [if_pos h5] at hR
                  have HR := Lib.hid hR; clear hR
                  by_cases h6 : m = 1
                  · subst h6
                    have e6 : (d == 128) = false := by simp; omega
                    go_wp2
                    rw [HR.out]
                    refine bodyPost_ret (v := .tuple #[tg0.v, .int .i64 (k : Int), .int .i64 4]) (by simp [results, Tryd.results66, go_sem, tg0, Tg.v]) rfl ?_
                    exact ⟨rfl, below_alloc2 _ _ _⟩
                  · have e6 : ((m : Int) == 1) = false := by simp; omega
                    go_wp2
                    rw [HR.out]
                    refine bodyPost_ret (v := .tuple #[tg0.v, .int .i64 (k : Int), .int .i64 4]) (by simp [results, Tryd.results66, go_sem, tg0, Tg.v]) rfl ?_
                    exact ⟨rfl, below_alloc2 _ _ _⟩
                · rw [if_neg h5] at hR
                  have HR := Lib.hid hR; clear hR
                  by_cases h6 : m = 1
                  · subst h6
                    have e6 : (d == 128) = false := by simp; omega
                    obtain rfl : z = 0 := hz2 rfl
                    go_wp2
                    rw [HR.out]
                    refine bodyPost_ret (v := .tuple #[Tg.v ⟨q1, 128 * 0 + d % 128, q3⟩, .int .i64 ((k + 1 + 1 : Nat) : Int), .int .i64 0]) (by simp [results, Tryd.results66, go_sem, tg0, Tg.v]) rfl ?_
                    exact ⟨rfl, below_alloc2 _ _ _⟩
                  · have e6 : ((m : Int) == 1) = false := by simp; omega
                    go_wp2
                    rw [HR.out]
                    refine bodyPost_ret (v := .tuple #[Tg.v ⟨q1, 128 * z + d % 128, q3⟩, .int .i64 ((k + m + 1 : Nat) : Int), .int .i64 0]) (by simp [results, Tryd.results66, go_sem, tg0, Tg.v]) rfl ?_
                    exact ⟨rfl, below_alloc2 _ _ _⟩
              · rw [if_neg h4] at hR
                have HR := Lib.hid hR; clear hR
                by_cases h6 : m = 1
                · subst h6
                  have e6 : (d == 128) = false := by simp; omega
                  obtain rfl : z = 0 := hz2 rfl
                  rw [show (128 : Int) * 0 + d % 128 = d % 128 by omega] at HR
                  go_wp2
                  go_roundw
                  case rel => exact ⟨2, f, _, by go_num, rfl, by omega, by omega, by omega, by omega, by omega, by omega, by omega, trivial, HR⟩
                  case measure => simp [intOf]
                · have e6 : ((m : Int) == 1) = false := by simp; omega
                  go_wp2
                  go_roundw
                  case rel => exact ⟨m + 1, f, _, by go_num, rfl, by omega, by omega, by omega, by omega, by omega, by omega, by omega, trivial, HR⟩
                  case measure => simp [intOf]; omega


def lenV (r : Int × Nat × Int) : Ending := .returned (.tuple #[.int .i64 r.1, .int .i64 (r.2.1 : Int), .int .i64 r.2.2])

set_option maxHeartbeats 1600000 in
theorem refReadLength (A : Option Addr) (n c k : Nat) (x : Int) (l : List UInt8) (w : World) (h : Bs w A n l) (hn : n ≤ 1099511627776) (hk : k ≤ 1099511627776) (hx : x = k) :
    Calls Tryd.prog 67 #[.slice A n c, .int .i64 x] w fun e w' => e = lenV (rLen l k) ∧ Qt w w' := by
  subst hx
  have hl := Lib.hid h.len
  go_enter Tryd.func67, Tryd.ntmps67
  by_cases h0 : n ≤ k
  · have hR : Hid (rLen l k = (0, k, 3)) := by unfold Hid rLen; rw [hl.out, if_pos h0]
    go_wp2
    rw [hR.out]
    refine bodyPost_ret (v := .tuple #[.int .i64 0, .int .i64 (k : Int), .int .i64 3]) (by simp [results, Tryd.results67, go_sem]) rfl ?_
    exact ⟨rfl, Qt.refl _⟩
  · obtain ⟨b, o, rfl, hc⟩ := h.at_ (k := k) (by omega)
    have hb := nth_bound l k
    by_cases h1 : nth l k < 128
    · have hR : Hid (rLen l k = (nth l k, k + 1, 0)) := by unfold Hid rLen; rw [hl.out, if_neg h0, if_pos h1]
      go_wp2
      rw [hR.out]
      refine bodyPost_ret (v := .tuple #[.int .i64 (nth l k), .int .i64 ((k + 1 : Nat) : Int), .int .i64 0]) (by simp [results, Tryd.results67, go_sem]) rfl ?_
      exact ⟨rfl, Qt.refl _⟩
    · by_cases h2 : nth l k = 128 ∨ 132 < nth l k
      · have hR : Hid (rLen l k = (0, k, 5)) := by unfold Hid rLen; rw [hl.out, if_neg h0, if_neg h1, if_pos h2]
        rcases h2 with h2 | h2
        · rw [h2] at hc
          go_wp2
          rw [hR.out]
          refine bodyPost_ret (v := .tuple #[.int .i64 0, .int .i64 (k : Int), .int .i64 5]) (by simp [results, Tryd.results67, go_sem]) rfl ?_
          exact ⟨rfl, Qt.refl _⟩
        · have e1 : (nth l k == 128) = false := by simp; omega
          go_wp2
          rw [hR.out]
          refine bodyPost_ret (v := .tuple #[.int .i64 0, .int .i64 (k : Int), .int .i64 5]) (by simp [results, Tryd.results67, go_sem]) rfl ?_
          exact ⟨rfl, Qt.refl _⟩
      · have hR : Hid (rLen l k = if l.length < k + 1 + (nth l k - 128).toNat then (0, k, 3)
            else if nth l (k + 1) = 0 ∨ bign l (k + 1) (nth l k - 128).toNat 0 < 128 then (0, k, 5)
            else if 16777216 < bign l (k + 1) (nth l k - 128).toNat 0 then (0, k, 2)
            else (bign l (k + 1) (nth l k - 128).toNat 0, k + (nth l k - 128).toNat + 1, 0)) := by unfold Hid rLen; rw [if_neg (hl.out ▸ h0), if_neg h1, if_neg h2]
        rw [hl.out] at hR
        obtain ⟨q, hq⟩ : ∃ q, q = nth l k := ⟨_, rfl⟩
        have e1 : (q == 128) = false := by simp; omega
        have hq1 : 129 ≤ q := by omega
        have hq2 : q ≤ 132 := by omega
        rw [← hq] at hR hc hb
        clear h1 h2 hq
        obtain ⟨r, hr⟩ : ∃ r : Nat, r = (q - 128).toNat := ⟨_, rfl⟩
        rw [← hr] at hR
        have Hr : Hid ((r : Int) = q - 128) := by unfold Hid; omega
        clear hr
        by_cases h3 : n < k + 1 + r
        · rw [if_pos h3] at hR
          have h3' : (n : Int) - k - 1 < q - 128 := by have := Hr.out; omega
          go_wp2
          rw [hR.out]
          refine bodyPost_ret (v := .tuple #[.int .i64 0, .int .i64 (k : Int), .int .i64 3]) (by simp [results, Tryd.results67, go_sem]) rfl ?_
          exact ⟨rfl, Qt.refl _⟩
        · rw [if_neg h3] at hR
          have h3' : q - 128 ≤ (n : Int) - k - 1 := by have := Hr.out; omega
          go_wp2
          go_loopw [9, 10] (fun v i wr => ∃ (m f : Nat) (z : Int), i = .int .i64 (m : Int) ∧ v = .int .i64 z ∧ m + f = r + 1 ∧ 1 ≤ m ∧ m ≤ 5 ∧ 0 ≤ z ∧ z < 4294967296 ∧ (m = 1 → z = 0) ∧ (m = 2 → z < 256) ∧ (m = 3 → z < 65536) ∧ (m = 4 → z < 16777216) ∧ Qt w wr ∧
             Hid (bign l (k + 1) r 0 = bign l (k + m) f z)) (fun _ i _ => 6 - (intOf i).toNat)
          case atStart => exact ⟨1, r, 0, rfl, rfl, by omega, by omega, by omega, by omega, by omega, by omega, by omega, by omega, by omega, Qt.refl _, rfl⟩
          case round =>
            obtain ⟨m, f, z, rfl, rfl, hmf, hm1, hm5, hz0, hz1, hz2, hz3, hz4, hz5, hqt, hun⟩ := hrel
            rcases f with _ | f
            · have e2 : (q - 128 : Int) < m := by have := Hr.out; omega
              have hv : Hid (bign l (k + 1) r 0 = z) := hun
              rw [hv.out] at hR
              obtain ⟨b', o', hbo, hc2⟩ := h.at_ (k := k + 1) (by omega)
              cases hbo
              have hc3 : wr.cell? _ = some _ := (Below.cell (hqt.below (B := w.heap.size)) (World.block_lt_of_cell? w _ hc2)).trans hc2
              generalize nth l (k + 1) = d at *
              go_wp2
              · rw [hR.out, if_pos (Or.inl ‹d = 0›)]
                refine bodyPost_ret (v := .tuple #[.int .i64 0, .int .i64 (k : Int), .int .i64 5]) (by simp [results, Tryd.results67, go_sem]) rfl ?_
                exact ⟨rfl, hqt⟩
              · rw [hR.out, if_pos (by simp_all)]
                refine bodyPost_ret (v := .tuple #[.int .i64 0, .int .i64 (k : Int), .int .i64 5]) (by simp [results, Tryd.results67, go_sem]) rfl ?_
                exact ⟨rfl, hqt⟩
              · rw [hR.out, if_neg (by simp_all), if_pos (by omega)]
                refine bodyPost_ret (v := .tuple #[.int .i64 0, .int .i64 (k : Int), .int .i64 2]) (by simp [results, Tryd.results67, go_sem]) rfl ?_
                exact ⟨rfl, hqt⟩
              · rw [hR.out, if_neg (by simp_all), if_neg (by omega)]
                refine bodyPost_ret (v := .tuple #[.int .i64 z, .int .i64 ((k : Int) + (q - 128) + 1), .int .i64 0]) (by simp [results, Tryd.results67, go_sem]) rfl ?_
                refine ⟨?_, hqt⟩
                have := Hr.out
                simp [lenV]
                omega
            · have e2 : (m : Int) ≤ q - 128 := by have := Hr.out; omega
              obtain ⟨b', o', hbo, hc2⟩ := h.at_ (k := k + m) (by have := Hr.out; omega)
              cases hbo
              have hc3 : wr.cell? _ = some _ := (Below.cell (hqt.below (B := w.heap.size)) (World.block_lt_of_cell? w _ hc2)).trans hc2
              have hb2 := nth_bound l (k + m)
              have hun2 : Hid (bign l (k + 1) r 0 = bign l (k + m + 1) f (256 * z + nth l (k + m))) := hun
              clear hun
              generalize nth l (k + m) = d at *
              have y1 : 256 * z + d < 4294967296 := by have := Hr.out; omega
              have y2 : (k : Int) + m < n := by have := Hr.out; omega
              go_wp2
              go_roundw
              case rel => exact ⟨m + 1, f, _, by go_num, rfl, by omega, by omega, by have := Hr.out; omega, by omega, by omega, by omega, by omega, by omega, by omega, hqt, hun2⟩
              case measure => simp [intOf]; omega




set_option maxHeartbeats 1600000 in
theorem refRead (A : Option Addr) (n c k : Nat) (x : Int) (l : List UInt8) (w : World) (h : Bs w A n l) (hn : n ≤ 1099511627776) (hk : k ≤ n) (hx : x = k) :
    Calls Tryd.prog 49 #[.slice A n c, .int .i64 x] w fun e w' => e = headV (rHead l k) ∧ Below w.heap.size w w' := by
  have hX := Lib.hid hx; clear hx
  have hle := Lib.hid (rTag_le l k (by rw [h.len]; exact hk))
  have hl := Lib.hid h.len
  go_enter Tryd.func49, Tryd.ntmps49
  go_wp2_with fail
  refine (refReadTag A n c k x l _ (h.below (below_alloc1 _ _)) hn (by omega) hX.out).mono ?_
  rintro e w1 ⟨rfl, hb1⟩
  have ho := (Own3.new w _ _ _ _).below hb1
  have hB1 : Below w.heap.size w w1 := (below_alloc1 _ _).trans (Below.mono hb1 (by simp))
  have hH : Hid (rHead l k = if (rTag l k).2.2 = 0 then
      (if (rLen l (rTag l k).2.1).2.2 = 0 then ((rTag l k).1, (rLen l (rTag l k).2.1).1, (rLen l (rTag l k).2.1).2.1, 0) else (tg0, 0, k, (rLen l (rTag l k).2.1).2.2))
      else (tg0, 0, k, (rTag l k).2.2)) := rfl
  generalize rTag l k = T at *
  obtain ⟨t, k1, e1⟩ := T
  obtain ⟨tc, tn, tm⟩ := t
  simp only at hH hle
  unfold tagV Tg.v
  clear hb1
  have ho2 := ho.below (below_alloc1 w1 (Obj.cells #[Value.int IntKind.i64 tc, Value.int IntKind.i64 tn, Value.bool tm] 61))
  have hB2 : Below w.heap.size w (w1.alloc (Obj.cells #[Value.int IntKind.i64 tc, Value.int IntKind.i64 tn, Value.bool tm] 61)) := hB1.alloc hB1.size _
  by_cases he : e1 = 0
  · subst he
    rw [if_pos rfl] at hH
    have ho := Lib.hid ho2
    clear ho2
    go_wp2_with fail
    have hk1 : k1 ≤ 1099511627776 := by have h1 := hle.out; have h2 := hl.out; omega
    refine (refReadLength A n c k1 _ l _ (h.below hB2) hn hk1 rfl).mono ?_
    rintro e w2 ⟨rfl, hq⟩
    have hB3 : Below w.heap.size w w2 := hB2.trans hq.below
    have ho := ho.out.below hq.below
    have hot := (Own3.new w1 (Value.int IntKind.i64 tc) (Value.int IntKind.i64 tn) (Value.bool tm) 61).below hq.below
    generalize rLen l k1 = T at *
    obtain ⟨y, k2, e2⟩ := T
    simp only at hH
    unfold lenV
    clear hB1 hB2 hq
    by_cases he : e2 = 0
    · subst he
      rw [if_pos rfl] at hH
      obtain ⟨r0, r1, r2, f0, f1, f2⟩ := ho
      obtain ⟨t0, t1, t2, _, _, _⟩ := hot
      go_wp2
      rw [hH.out]
      refine bodyPost_ret (v := .tuple #[Tg.v ⟨tc, tn, tm⟩, .int .i64 y, .int .i64 (k2 : Int), .int .i64 0]) (by simp [results, Tryd.results49, go_sem, tg0, Tg.v, r0, r1, r2]) rfl ?_
      exact ⟨rfl, below_set3 hB3 hB3.size (Nat.le_refl _) _ _ _⟩
    · rw [if_neg he] at hH
      have e3 : (e2 == 0) = false := by simp; exact he
      have e4 : (e2 != 0) = true := by simp; exact he
      obtain ⟨r0, r1, r2, f0, f1, f2⟩ := ho
      clear hot
      go_wp2
      rw [hH.out, hX.out]
      refine bodyPost_ret (v := .tuple #[tg0.v, .int .i64 0, .int .i64 (k : Int), .int .i64 e2]) (by simp [results, Tryd.results49, go_sem, tg0, Tg.v, r0, r1, r2]) rfl ?_
      exact ⟨rfl, below_set3 hB3 hB3.size (Nat.le_refl _) _ _ _⟩
  · rw [if_neg he] at hH
    have e2 : (e1 == 0) = false := by simp; exact he
    have e3 : (e1 != 0) = true := by simp; exact he
    obtain ⟨r0, r1, r2, f0, f1, f2⟩ := ho2
    clear ho
    go_wp2
    rw [hH.out, hX.out]
    refine bodyPost_ret (v := .tuple #[tg0.v, .int .i64 0, .int .i64 (k : Int), .int .i64 e1]) (by simp [results, Tryd.results49, go_sem, tg0, Tg.v, r0, r1, r2]) rfl ?_
    exact ⟨rfl, below_set3 hB2 hB2.size (Nat.le_refl _) _ _ _⟩

end Go.Proofs.YtoklonnajpjgjaaDoor
