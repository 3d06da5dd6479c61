/-
  The contracts of the project's bits: areFlags, Of.
-/
import Derived.Test.YtjcddbcokiaehaaBk
namespace Go.Proofs.Ytjcddbcokiaehaa
open Go.RowKit
set_option linter.unusedVariables false
set_option linter.unusedSimpArgs false
set_option maxRecDepth 4000

theorem or_mask (f : Nat → Bool) {t : Nat} (ht : t < 8) : bits BinOp.or IntKind.u8 (packN f : Int) (mk8 t) = (packN (fun s => f s || s == t) : Int) := by
  have key : ∀ a b c d e f g h : Bool, ∀ t : Nat, t < 8 → bits BinOp.or IntKind.u8 (pk a b c d e f g h : Int) (mk8 t) = (pk (a || 0 == t) (b || 1 == t) (c || 2 == t) (d || 3 == t) (e || 4 == t) (f || 5 == t) (g || 6 == t) (h || 7 == t) : Int) := by decide +kernel
  exact key _ _ _ _ _ _ _ _ t ht
theorem mem_snoc (x z : Int) (l : List Int) : decide (x ∈ l ++ [z]) = (decide (x ∈ l) || decide (x = z)) := by simp
theorem ofB_step (l : List Int) (nb z : Nat) (hz : z / 8 < nb) : ofB (l ++ [(z : Int)]) nb = (ofB l nb).set (z / 8) (UInt8.ofNat (packN fun s => decide (((8 * (z / 8) + s : Nat) : Int) ∈ l) || s == z % 8)) := by
  apply List.ext_getElem
  · simp [ofB_len]
  · intro j h1 h2
    rw [List.getElem_set]
    have e1 : (ofB (l ++ [(z : Int)]) nb)[j] = UInt8.ofNat (packN fun t => decide (((8 * j + t : Nat) : Int) ∈ l ++ [(z : Int)])) := by simp [ofB]
    rw [e1]
    split
    · rename_i hj
      subst hj
      congr 1
      refine packN_congr fun t ht => ?_
      rw [mem_snoc]
      congr 1
      by_cases e : t = z % 8
      · rw [decide_eq_true (by omega), e]; simp
      · rw [decide_eq_false (by omega)]; simp [e]
    · rename_i hj
      simp only [ofB, List.getElem_map, List.getElem_range]
      congr 1
      refine packN_congr fun t ht => ?_
      rw [mem_snoc, decide_eq_false (p := ((8 * j + t : Nat) : Int) = (z : Int)) (by omega), Bool.or_false]
theorem ofB_nil (nb : Nat) : ofB [] nb = List.replicate nb (0 : UInt8) := by
  apply List.ext_getElem
  · simp [ofB_len]
  · intro j h1 h2
    simp [ofB, packN, pk]

set_option maxHeartbeats 1600000 in
theorem btAreFlags (A : Option Addr) (n c : Nat) (l : List Int) (w : World) (h : Zs w A n l) (hn : n ≤ 1099511627776) :
    Calls Try.prog 48 #[.slice A n c] w fun e w' => e = .returned (.bool (isFl 0 l)) ∧ w' = w := by
  have hl := Lib.hid h.len
  go_enter Try.func48, Try.ntmps48
  go_wp2
  go_loop [3, 8] (fun m i => ∃ k : Nat, k ≤ n ∧ i = .int .i64 (k : Int) ∧ m = .int .i64 (nextF l k) ∧ 0 ≤ nextF l k ∧ Hid (isFl 0 (l.take k) = true)) (fun _ i => n - (intOf i).toNat)
  case atStart => exact ⟨0, Nat.zero_le _, rfl, rfl, by simp [nextF], rfl⟩
  case round =>
    obtain ⟨k, hk, rfl, rfl, hm0, hf⟩ := hrel
    by_cases hlt : k < n
    · obtain ⟨b, o, rfl, hc⟩ := h.at_ hlt
      have hs : Hid (isFl 0 (l.take (k + 1)) = (decide (nextF l k ≤ zth l k) && decide (zth l k < 32))) := by
        have := isFl_take_succ (l := l) (k := k) (m := 0) (by have := hl.out; omega)
        rw [hf.out, Bool.true_and] at this
        exact this
      have hnx : Hid (nextF l (k + 1) = zth l k + 1) := by unfold Hid nextF; rw [if_neg (by omega), Nat.add_sub_cancel]
      have k1 : (k : Int) < n := by omega
      generalize nextF l k = m at *
      generalize zth l k = z at *
      by_cases h1 : z < m
      · have hF : Hid (isFl 0 l = false) := isFl_wrong (k := k + 1) (by rw [hs.out, decide_eq_false (by omega)]; rfl)
        have d1 : decide (z < m) = true := by simpa using h1
        go_wp2
        go_ret
        exact ⟨by rw [hF.out]; rfl, rfl⟩
      · have d1 : decide (z < m) = false := by simpa using h1
        by_cases h2 : 32 ≤ z
        · have hF : Hid (isFl 0 l = false) := isFl_wrong (k := k + 1) (by rw [hs.out, decide_eq_false (p := z < 32) (by omega)]; simp)
          have d2 : decide (32 ≤ z) = true := by simpa using h2
          go_wp2
          go_ret
          exact ⟨by rw [hF.out]; rfl, rfl⟩
        · have d2 : decide (32 ≤ z) = false := by simpa using h2
          have hT : Hid (isFl 0 (l.take (k + 1)) = true) := by unfold Hid; rw [hs.out, decide_eq_true (by omega), decide_eq_true (by omega)]; rfl
          have z0 : 0 ≤ z := by omega
          have z1 : z < 32 := by omega
          clear h1 h2
          go_wp2
          go_round
          case rel => exact ⟨k + 1, by omega, by go_num, by rw [hnx.out], by rw [hnx.out]; omega, hT⟩
          case measure => simp [intOf]; omega
    · have hF : Hid (isFl 0 l = true) := by
        have := hf.out; rw [List.take_of_length_le (by have := hl.out; omega)] at this; exact this
      go_wp2
      go_ret
      exact ⟨by rw [hF.out]; rfl, rfl⟩

set_option maxHeartbeats 1600000 in
theorem btOfNo (A : Option Addr) (n c : Nat) (l : List Int) (w : World) (h : Zs w A n l) (hn : n ≤ 1099511627776) (hf : isFl 0 l = false) :
    Calls Try.prog 24 #[.slice A n c] w fun e w' => e = .returned (.tuple #[.agg #[.int .i64 0, .slice none 0 0], .int .i64 1]) ∧ Below w.heap.size w w' := by
  have hP := Blk.new2 w (.int .i64 0) (.slice none 0 0) 25
  have hB := below_alloc1 w (.cells #[.int .i64 0, .slice none 0 0] 25)
  have hA := btAreFlags A n c l (w.alloc (.cells #[.int .i64 0, .slice none 0 0] 25)) (h.below hB) hn
  rw [hf] at hA
  obtain ⟨p0, p1, p2, p3⟩ := hP.two
  obtain ⟨q0, q1, _, _⟩ := (hP.put (.int .i64 0) (.slice none 0 0)).two
  have hB5 := below_set2 (R := w.heap.size) hB hB.size (Nat.le_refl _) (.int .i64 0) (.slice none 0 0)
  clear hP
  go_enter Try.func24, Try.ntmps24
  go_upto_region 1 with (fail)
  generalize (w.alloc (Obj.cells #[.int .i64 0, .slice none 0 0] 25)) = W0 at *
  go_wp2_with fail
  refine hA.mono ?_
  rintro e w1 ⟨rfl, rfl⟩
  go_wp2
  refine bodyPost_ret (v := .tuple #[.agg #[.int .i64 0, .slice none 0 0], .int .i64 1]) (by simp [results, Try.results24, go_sem, q0, q1]) rfl ?_
  exact ⟨rfl, hB5⟩

set_option maxHeartbeats 1600000 in
theorem btOfNil (A : Option Addr) (c : Nat) (w : World) :
    Calls Try.prog 24 #[.slice A 0 c] w fun e w' => e = .returned (.tuple #[.agg #[.int .i64 0, .slice none 0 0], .int .i64 0]) ∧ Below w.heap.size w w' := by
  have hP := Blk.new2 w (.int .i64 0) (.slice none 0 0) 25
  have hB := below_alloc1 w (.cells #[.int .i64 0, .slice none 0 0] 25)
  have hA := btAreFlags A 0 c [] (w.alloc (.cells #[.int .i64 0, .slice none 0 0] 25)) (Zs.nil _ _) (by omega)
  rw [show isFl 0 [] = true from rfl] at hA
  obtain ⟨p0, p1, p2, p3⟩ := hP.two
  obtain ⟨q0, q1, _, _⟩ := (hP.put (.int .i64 0) (.slice none 0 0)).two
  have hB5 := below_set2 (R := w.heap.size) hB hB.size (Nat.le_refl _) (.int .i64 0) (.slice none 0 0)
  clear hP
  go_enter Try.func24, Try.ntmps24
  go_upto_region 1 with (fail)
  generalize (w.alloc (Obj.cells #[.int .i64 0, .slice none 0 0] 25)) = W0 at *
  go_wp2_with fail
  refine hA.mono ?_
  rintro e w1 ⟨rfl, rfl⟩
  go_wp2
  refine bodyPost_ret (v := .tuple #[.agg #[.int .i64 0, .slice none 0 0], .int .i64 0]) (by simp [results, Try.results24, go_sem, q0, q1]) rfl ?_
  exact ⟨rfl, hB5⟩

set_option maxHeartbeats 3200000 in
theorem btOfYes (A : Option Addr) (n c : Nat) (l : List Int) (w : World) (h : Zs w A n l) (hn : n ≤ 1099511627776) (hf : isFl 0 l = true) (h0 : n ≠ 0) (g : Nat) (hg : zth l (n - 1) = (g : Int)) :
    Calls Try.prog 24 #[.slice A n c] w fun e w' => ∃ A' c', e = .returned (.tuple #[.agg #[.int .i64 (7 - (g : Int) % 8), .slice A' (g / 8 + 1) c'], .int .i64 0]) ∧ Bs w' A' (g / 8 + 1) (ofB l (g / 8 + 1)) ∧ g / 8 + 1 ≤ c' ∧ Below w.heap.size w w' := by
  obtain ⟨i0, hi, hz0, hz1, hz2⟩ := info_parts u8_info
  have hl := Lib.hid h.len
  have hbd := isFl_mem hf
  have hasc := asc_last (isFl_asc hf)
  have hgl : g < 32 := by
    have := hbd _ (zth_last_mem (l := l) (by rw [hl.out]; exact h0))
    rw [hl.out, hg] at this
    omega
  have HEL : Hid (∀ k, k < n → ∃ z : Nat, zth l k = (z : Int) ∧ z ≤ g) := by
    intro k hk
    have hkl : k < l.length := by have := hl.out; omega
    have hm : zth l k ∈ l := by unfold zth; rw [List.getD_eq_getElem?_getD, List.getElem?_eq_getElem hkl]; exact List.getElem_mem _
    have h1 := hbd _ hm
    have h2 := hasc _ hm
    rw [hl.out, hg] at h2
    exact ⟨(zth l k).toNat, by omega, by omega⟩
  obtain ⟨nb, hnb⟩ : ∃ nb, nb = g / 8 + 1 := ⟨_, rfl⟩
  obtain ⟨ug, hug⟩ : ∃ ug, ug = 7 - (g : Int) % 8 := ⟨_, rfl⟩
  rw [← hnb, ← hug]
  have hnb4 : nb ≤ 4 := by omega
  have hmk := run_makeN (P := Try.prog) 22 5 i0 Try.underlying22 hi hz0 hz1 hz2 ((g : Int) / 8 + 1) (by omega) (by omega)
  have hmn : ((g : Int) / 8 + 1).toNat = nb := by omega
  rw [hmn] at hmk
  have hP := Blk.new2 w (.int .i64 0) (.slice none 0 0) 25
  have hB := below_alloc1 w (.cells #[.int .i64 0, .slice none 0 0] 25)
  have hA := btAreFlags A n c l (w.alloc (.cells #[.int .i64 0, .slice none 0 0] 25)) (h.below hB) hn
  rw [hf] at hA
  have hs1 : (w.alloc (.cells #[.int .i64 0, .slice none 0 0] 25)).heap.size = w.heap.size + 1 := by simp
  have ZS : Hid (∀ W, Below w.heap.size w W → Zs W A n l) := fun W hW => h.below hW
  have e0 : ((n : Int) == 0) = false := by simp; omega
  have n1 : (n : Int) - 1 < n := by omega
  have hug2 : 7 - (g : Int) % 8 = ug := hug.symm
  have HNB0 := Lib.hid hnb
  clear hug hbd hasc h hmn hnb
  go_enter Try.func24, Try.ntmps24
  go_upto_region 1 with (fail)
  have hZ0 := ZS.out _ hB
  generalize (w.alloc (Obj.cells #[.int .i64 0, .slice none 0 0] 25)) = W0 at *
  obtain ⟨b, o, rfl, hcl⟩ := hZ0.at_ (k := n - 1) (by omega)
  rw [hg] at hcl
  go_wp2_with fail
  refine hA.mono ?_
  rintro e w1 ⟨rfl, rfl⟩
  go_wp2
  have HNB := HNB0
  have hMz : Blk ((w1.alloc (.cells (zeroB nb) 5)).alloc (.cells #[.int .i64 ug, .slice (some ⟨w.heap.size + 1, 0, none⟩) nb nb] 25)) (w.heap.size + 1) 5 ((ofB (l.take 0) nb).map byteV) := by
    have := (Blk.new w1 ((List.replicate nb (0 : UInt8)).map byteV) 5).alloc (.cells #[.int .i64 ug, .slice (some ⟨w.heap.size + 1, 0, none⟩) nb nb] 25)
    rw [← zeroB_list, hs1] at this
    rw [List.take_zero, ofB_nil]; exact this
  have hXz : Blk ((w1.alloc (.cells (zeroB nb) 5)).alloc (.cells #[.int .i64 ug, .slice (some ⟨w.heap.size + 1, 0, none⟩) nb nb] 25)) (w.heap.size + 1 + 1) 25 [.int .i64 ug, .slice (some ⟨w.heap.size + 1, 0, none⟩) nb nb] := by
    have := Blk.new2 (w1.alloc (.cells (zeroB nb) 5)) (.int .i64 ug) (.slice (some ⟨w.heap.size + 1, 0, none⟩) nb nb) 25
    rw [World.size_alloc, hs1] at this; exact this
  have hPz := (hP.alloc (.cells (zeroB nb) 5)).alloc (.cells #[.int .i64 ug, .slice (some ⟨w.heap.size + 1, 0, none⟩) nb nb] 25)
  have hBz := (hB.alloc hB.size (.cells (zeroB nb) 5)).alloc (by simp; omega) (.cells #[.int .i64 ug, .slice (some ⟨w.heap.size + 1, 0, none⟩) nb nb] 25)
  clear hA hZ0 hcl hmk
  go_loopw [32] (fun i wr => ∃ k : Nat, k ≤ n ∧ i = .int .i64 (k : Int) ∧ Blk wr (w.heap.size + 1) 5 ((ofB (l.take k) nb).map byteV) ∧ Blk wr (w.heap.size + 1 + 1) 25 [.int .i64 ug, .slice (some ⟨w.heap.size + 1, 0, none⟩) nb nb] ∧ Blk wr w.heap.size 25 [.int .i64 0, .slice none 0 0] ∧ Below w.heap.size w wr) (fun i _ => n - (intOf i).toNat)
  case atStart => exact ⟨0, Nat.zero_le _, rfl, hMz, hXz, hPz, hBz⟩
  case round =>
    clear hMz hXz hPz hBz hP hB
    obtain ⟨k, hk, rfl, hM1, hX, hP, hB⟩ := hrel
    by_cases hlt : k < n
    · obtain ⟨z, hz, hzg⟩ := HEL.out k hlt
      obtain ⟨b', o', e, hcz⟩ := (ZS.out wr hB).at_ hlt
      cases e
      rw [hz] at hcz
      have k1 : (k : Int) < n := by omega
      have htk : l.take (k + 1) = l.take k ++ [(z : Int)] := by
        rw [List.take_succ_eq_append_getElem (by have := hl.out; omega), ← hz]
        simp [zth, List.getD, List.getElem?_eq_getElem (show k < l.length by have := hl.out; omega)]
      obtain ⟨j, hj⟩ : ∃ j, j = z / 8 := ⟨_, rfl⟩
      have hjn : j < nb := by have := HNB.out; omega
      have hjn' : (j : Int) < nb := by omega
      have hst : Hid (ofB (l.take (k + 1)) nb = (ofB (l.take k) nb).set j (UInt8.ofNat (packN fun s => decide (((8 * j + s : Nat) : Int) ∈ l.take k) || s == z % 8))) := by
        unfold Hid; rw [htk, ofB_step _ _ _ (by rw [← hj]; exact hjn), hj]
      have hor : Hid (Value.int .u8 (bits BinOp.or IntKind.u8 (nth (ofB (l.take k) nb) j) (mk8 (z % 8))) = byteV (UInt8.ofNat (packN fun s => decide (((8 * j + s : Nat) : Int) ∈ l.take k) || s == z % 8))) := by
        unfold Hid byteV
        rw [nth_nthN, ofB_nth hjn, or_mask _ (Nat.mod_lt z (by omega)), UInt8.toNat_ofNat']
        have := packN_lt fun s => decide (((8 * j + s : Nat) : Int) ∈ l.take k) || s == z % 8
        congr 2
        omega
      have hlen : (ofB (l.take k) nb).length = nb := ofB_len _ _
      have yc := hM1.cell j
      have yf := hM1.free j
      have hyv : ((ofB (l.take k) nb).map byteV)[j]? = some (.int .u8 (nth (ofB (l.take k) nb) j)) := by
        rw [List.getElem?_map, List.getElem?_eq_getElem (by rw [hlen]; exact hjn)]
        simp [byteV, nth, List.getD, List.getElem?_eq_getElem (show j < (ofB (l.take k) nb).length by rw [hlen]; exact hjn)]
      rw [hyv] at yc
      have hq : IntKind.i64.wrap ((z : Int).tdiv 8) = (j : Int) := by rw [Int.tdiv_eq_ediv_of_nonneg (by omega)]; simp [IntKind.wrap, IntKind.bits, IntKind.signed]; omega
      have hq2 : (z : Int) / 8 = (j : Int) := by omega
      have hq3 : IntKind.i64.wrap (j : Int) = (j : Int) := by simp [IntKind.wrap, IntKind.bits, IntKind.signed]; omega
      have hM := Lib.hid (fun W => btMask z (z : Int) W rfl (by omega))
      generalize nth (ofB (l.take k) nb) j = y at *
      generalize ofB (l.take k) nb = row at *
      generalize (UInt8.ofNat (packN fun s => decide (((8 * j + s : Nat) : Int) ∈ l.take k) || s == z % 8)) = yy at *
      obtain ⟨x0, x1, _, _⟩ := hX.two
      have H2 : Hid (Blk (wr.setCell ⟨w.heap.size + 1, j, none⟩ (.int .u8 (bits BinOp.or IntKind.u8 y (mk8 (z % 8))))) (w.heap.size + 1) 5 ((ofB (l.take (k + 1)) nb).map byteV) ∧ Blk (wr.setCell ⟨w.heap.size + 1, j, none⟩ (.int .u8 (bits BinOp.or IntKind.u8 y (mk8 (z % 8))))) (w.heap.size + 1 + 1) 25 [.int .i64 ug, .slice (some ⟨w.heap.size + 1, 0, none⟩) nb nb] ∧
          Blk (wr.setCell ⟨w.heap.size + 1, j, none⟩ (.int .u8 (bits BinOp.or IntKind.u8 y (mk8 (z % 8))))) w.heap.size 25 [.int .i64 0, .slice none 0 0] ∧ Below w.heap.size w (wr.setCell ⟨w.heap.size + 1, j, none⟩ (.int .u8 (bits BinOp.or IntKind.u8 y (mk8 (z % 8)))))) := by
        refine ⟨?_, hX.setOther (by omega) _ _, hP.setOther (by omega) _ _, Only.below ((Only.refl (w.heap.size + 1) wr).setCell rfl _) hB (by omega) hB.size⟩
        rw [hst.out, List.map_set, ← hor.out]
        exact hM1.set j _
      clear hj hz htk hyv hM1 hX hP hB
      go_upto_region 10 with (fail)
      go_region_with ((go_at_call 46; refine (hM.out _).mono ?_; rintro e w2 ⟨rfl, rfl⟩))
      all_goals
        go_wp2
        go_roundw
        case rel => exact ⟨k + 1, by omega, by go_num, H2.out.1, H2.out.2.1, H2.out.2.2.1, H2.out.2.2.2.drew⟩
        case measure => simp [intOf]; omega
    · have hkn : l.take k = l := List.take_of_length_le (by have := hl.out; omega)
      rw [hkn] at hM1
      obtain ⟨x0, x1, _, _⟩ := hX.two
      obtain ⟨p0, p1, p2, p3⟩ := hP.two
      obtain ⟨q0, q1, _, _⟩ := (hP.put (.int .i64 ug) (.slice (some ⟨w.heap.size + 1, 0, none⟩) nb nb)).two
      have hB5 := below_set2 (R := w.heap.size) hB hB.size (Nat.le_refl _) (.int .i64 ug) (.slice (some ⟨w.heap.size + 1, 0, none⟩) nb nb)
      have hM5 := (hM1.putOther (r := w.heap.size) (by omega) (.int .i64 ug) (.slice (some ⟨w.heap.size + 1, 0, none⟩) nb nb)).bs
      rw [ofB_len] at hM5
      clear hM1 hX hP hB hkn
      go_wp2
      refine bodyPost_ret (v := .tuple #[.agg #[.int .i64 ug, .slice (some ⟨w.heap.size + 1, 0, none⟩) nb nb], .int .i64 0]) (by simp [results, Try.results24, go_sem, q0, q1]) rfl ?_
      exact ⟨_, _, rfl, hM5, Nat.le_refl _, hB5⟩

end Go.Proofs.Ytjcddbcokiaehaa
