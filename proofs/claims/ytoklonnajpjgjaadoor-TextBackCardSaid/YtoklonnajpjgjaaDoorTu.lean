/-
  The contract of the reference's Of.
-/
import Derived.Test.YtoklonnajpjgjaaDoorTp
import Derived.Deep.RegionLaw
namespace Go.Proofs.YtoklonnajpjgjaaDoor
open Go.RowKit Go.Shelf
set_option linter.unusedVariables false
set_option linter.unusedSimpArgs false
set_option maxRecDepth 4000

/-- The text of a kind with these characters: its kind, its bytes, the error. -/
def ofV (k : Int) (l : List Int) : Int × List UInt8 × Int := if isK k = true then (if l.all (hasT k) = true then (k, l.flatMap (encT k), 0) else (0, [], 6)) else (0, [], 1)
def OfR (v : Int × List UInt8 × Int) (w : World) (e : Ending) (w' : World) : Prop :=
  ∃ A n c, e = .returned (.tuple #[.agg #[.int .i64 v.1, .slice A n c], .int .i64 v.2.2]) ∧ Bs w' A n v.2.1 ∧ n ≤ c ∧ Below w.heap.size w w'
theorem flatk_snoc (k : Int) (L : List Int) {q : Nat} (h : q < L.length) : (L.take (q + 1)).flatMap (encT k) = (L.take q).flatMap (encT k) ++ encT k (zth L q) := by
  rw [List.take_add_one, List.flatMap_append, List.getElem?_eq_getElem h]; simp [zth, List.getD, List.getElem?_eq_getElem h]
theorem flatk_len (k : Int) (L : List Int) : (L.flatMap (encT k)).length ≤ 4 * L.length := by
  induction L with
  | nil => simp
  | cons x t ih =>
    have := encT_length k x
    simp only [List.flatMap_cons, List.length_append, List.length_cons] at *
    omega
theorem nob2u (x : Int) (A : Option Addr) (n c : Nat) : NoB [.int .i64 x, .slice A n c] := by
  intro i y
  match i with
  | 0 => simp
  | 1 => simp
  | i + 2 => simp

set_option maxHeartbeats 1600000 in
theorem ref6OfNo (k : Int) (A : Option Addr) (m c : Nat) (l : List Int) (w : World) (hk : isK k = false) :
    Calls Tryd.prog 21 #[.int .i64 k, .slice A m c] w (OfR (ofV k l) w) := by
  have hv : ofV k l = (0, [], 1) := by unfold ofV; rw [hk]; rfl
  rw [hv]
  have hK := ref6Kind k (w.alloc (.cells #[.int .i64 0, .slice none 0 0] 24))
  rw [hk] at hK
  have hR := Blk.new2 w (.int .i64 0) (.slice none 0 0) 24
  have hb0 := below_alloc1 w (.cells #[.int .i64 0, .slice none 0 0] 24)
  obtain ⟨r0, r1, r2, r3⟩ := hR.two
  obtain ⟨p0, p1, _, _⟩ := (hR.put (.int .i64 0) (.slice none 0 0)).two
  have hB := (hb0.setCell (p := ⟨w.heap.size, 0, none⟩) (Nat.le_refl _) (.int .i64 0)).setCell (p := ⟨w.heap.size, 1, none⟩) (Nat.le_refl _) (.slice none 0 0)
  generalize hw0 : w.alloc (.cells #[.int .i64 0, .slice none 0 0] 24) = W0 at *
  go_enter Tryd.func21, Tryd.ntmps21
  go_wp2_with fail
  refine hK.mono ?_
  rintro e w1 ⟨rfl, rfl⟩
  clear hw0 hK
  go_wp2
  refine bodyPost_ret (v := .tuple #[.agg #[.int .i64 0, .slice none 0 0], .int .i64 1]) (by simp [results, Tryd.f21, go_sem, p0, p1]) rfl ?_
  exact ⟨none, 0, 0, rfl, Bs.nil _ _, Nat.le_refl _, hB⟩


set_option maxHeartbeats 3200000 in
theorem ref6Of12 (A : Option Addr) (m c : Nat) (l : List Int) (w : World) (h : Zs w A m l) (hm : m ≤ 1000000) :
    Calls Tryd.prog 21 #[.int .i64 12, .slice A m c] w (OfR (ofV 12 l) w) := by
  obtain ⟨i0, hi, hz0, hz1, hz2⟩ := info_parts u8_info
  have hk : isK 12 = true := rfl
  have hvN : Hid (∀ z ∈ l, hasT 12 z = false → ofV 12 l = (0, [], 6)) := Lib.hid (fun z hz hf => by
    have : l.all (hasT 12) = false := by rw [List.all_eq_false]; exact ⟨z, hz, by rw [hf]; simp⟩
    unfold ofV; rw [hk, this]; rfl)
  have hvY : Hid (l.all (hasT 12) = true → ofV 12 l = (12, l.flatMap (encT 12), 0)) := Lib.hid (fun ha => by unfold ofV; rw [hk, ha]; rfl)
  have hK := ref6Kind 12 (w.alloc (.cells #[.int .i64 0, .slice none 0 0] 24))
  rw [hk] at hK
  have hMay := Lib.hid (fun n W => ref6May 12 n W hk)
  have hR := Blk.new2 w (.int .i64 0) (.slice none 0 0) 24
  have hb0 := below_alloc1 w (.cells #[.int .i64 0, .slice none 0 0] 24)
  have hz := h.below hb0
  have hHl := Lib.hid h.len
  have hs0 := World.size_alloc w (.cells #[.int .i64 0, .slice none 0 0] 24)
  generalize hw0 : w.alloc (.cells #[.int .i64 0, .slice none 0 0] 24) = W0 at *
  have hHs0 := Lib.hid hs0
  clear hs0
  go_enter Tryd.func21, Tryd.ntmps21
  go_wp2_with fail
  refine hK.mono ?_
  rintro e w1 ⟨rfl, rfl⟩
  have hHz := Lib.hid h
  clear hw0 hK h
  go_wp2
  go_loopw [6] (fun i wr3 => ∃ q : Nat, q ≤ m ∧ i = .int .i64 (q : Int) ∧ Hid (∀ z ∈ l.take q, hasT 12 z = true) ∧ wr3 = w1) (fun i _ => m - (intOf i).toNat)
  case atStart => exact ⟨0, Nat.zero_le _, rfl, Lib.hid (by simp), by first | rfl | trivial⟩
  case round =>
    obtain ⟨q, hq, rfl, hall, hwe⟩ := hrel
    obtain rfl : w1 = wr := hwe.symm
    by_cases hql : q < m
    · have i2 : (q : Int) < m := by omega
      have d2 : decide (q < m) = true := by simp; omega
      have hqL : q < l.length := by have := hHl.out; omega
      obtain ⟨b2, o2, rfl, cz⟩ := hz.at_ hql
      have hmem : Hid (zth l q ∈ l) := Lib.hid (by simp [zth, List.getD, List.getElem?_eq_getElem hqL])
      have htk : Hid (∀ z ∈ l.take (q + 1), z ∈ l.take q ∨ z = zth l q) := Lib.hid (by
        intro z hz'
        rw [List.take_add_one, List.getElem?_eq_getElem hqL] at hz'
        rcases List.mem_append.1 hz' with h1 | h1
        · exact .inl h1
        · right; simp at h1; rw [h1]; simp [zth, List.getD, List.getElem?_eq_getElem hqL])
      generalize zth l q = z at *
      have hM := hMay.out z w1
      cases hb : hasT 12 z
      · have hve := hvN.out z hmem.out hb
        rw [hb] at hM
        obtain ⟨r0, r1, r2, r3⟩ := hR.two
        obtain ⟨p0, p1, _, _⟩ := (hR.put (.int .i64 0) (.slice none 0 0)).two
        have hB := (hb0.setCell (p := ⟨w.heap.size, 0, none⟩) (Nat.le_refl _) (.int .i64 0)).setCell (p := ⟨w.heap.size, 1, none⟩) (Nat.le_refl _) (.slice none 0 0)
        have hHe := Lib.hid hve
        clear hb hve
        go_wp2_with fail
        refine hM.mono ?_
        rintro e w5 ⟨rfl, rfl⟩
        go_wp2
        refine bodyPost_ret (v := .tuple #[.agg #[.int .i64 0, .slice none 0 0], .int .i64 6]) (by simp [results, Tryd.f21, go_sem, p0, p1]) rfl ?_
        rw [hHe.out]
        exact ⟨none, 0, 0, rfl, Bs.nil _ _, Nat.le_refl _, hB⟩
      · rw [hb] at hM
        have hHb := Lib.hid hb
        clear hb
        go_wp2_with fail
        refine hM.mono ?_
        rintro e w5 ⟨rfl, rfl⟩
        clear hM
        go_wp2
        go_roundw
        case rel =>
          refine ⟨q + 1, by omega, by go_num, Lib.hid fun y hy => ?_, by first | rfl | trivial⟩
          rcases htk.out y hy with h1 | h1
          · exact hall.out y h1
          · rw [h1]; exact hHb.out
        case measure => simp [intOf]; omega
    · obtain rfl : q = m := by omega
      have hallL : Hid (l.all (hasT 12) = true) := Lib.hid (by
        rw [List.all_eq_true]; intro y hy; exact hall.out y (by rw [List.take_of_length_le (by have := hHl.out; omega)]; exact hy))
      have hve := hvY.out hallL.out
      have hHe := Lib.hid hve
      have i3 : ¬ ((q : Nat) : Int) < (q : Nat) := by omega
      clear hve hall hql hMay hvN hvY
      have hb1 := below_alloc1 w1 (.cells #[.int .i64 12, .slice none 0 0] 24)
      have hX1 := Blk.new2 w1 (.int .i64 12) (.slice none 0 0) 24
      obtain ⟨f0, f1, f2, f3⟩ := hX1.two
      have hR1 := hR.below hb1
      have hz1' := hz.below hb1
      have hB1 := hb0.trans (Below.mono hb1 hb0.size)
      have hs1 : Hid (w1.heap.size = w.heap.size + 1) := hHs0
      clear hb0 hb1 hR hz
      have hU := ref6Utf8 A q c l _ hz1' (by omega) (by rw [← hasT12]; exact hallL.out)
      rw [encT12] at hHe
      go_wp2_with fail
      refine hU.mono ?_
      rintro e w5 ⟨v5, rfl, hob5, hb5⟩
      obtain ⟨A5, c5, rfl, hc5, hbs5⟩ := hob5.slice
      have hX5 := hX1.below hb5
      have hR5 := hR1.below hb5
      have hB5 := hB1.trans (Below.mono hb5 hB1.size)
      obtain ⟨y0, y1, y2, y3⟩ := hX5.two
      have hob5' := hob5.mono (base' := w.heap.size) hB1.size
      generalize l.flatMap Lib.encodeRune = fl at *
      have hX6 := hX5.set 1 (.slice A5 fl.length c5)
      have hR6 := hR5.setOther (r := w1.heap.size) (by have := hs1.out; omega) 1 (.slice A5 fl.length c5)
      have hob6 : Ob (w5.setCell ⟨w1.heap.size, 1, none⟩ (.slice A5 fl.length c5)) w.heap.size 5 (.slice A5 fl.length c5) fl := ownsRow_setCell_other hob5' (hX5.notRow hob5' (by decide)) _
      have hB6' := hB5.setCell (p := ⟨w1.heap.size, 1, none⟩) (by show w.heap.size ≤ w1.heap.size; have := hs1.out; omega) (.slice A5 fl.length c5)
      simp only [List.set_cons_succ, List.set_cons_zero] at hX6
      generalize hw6 : w5.setCell ⟨w1.heap.size, 1, none⟩ (.slice A5 fl.length c5) = w6 at *
      clear f0 f1 f2 f3 hU hob5 hbs5 hX1 hR1 hB1 hb5 hz1' hob5' hX5 hR5 hB5
      obtain ⟨x0, x1, _, _⟩ := hX6.two
      obtain ⟨r0, r1, r2, r3⟩ := hR6.two
      obtain ⟨p0, p1, _, _⟩ := (hR6.put (.int .i64 12) (.slice A5 fl.length c5)).two
      have hbs6 := (hob6.bs.1).put hR6 (nob2u _ _ _ _) (.int .i64 12) (.slice A5 fl.length c5)
      have hcc := (hob6.bs.2)
      have hB6 := (hB6'.setCell (p := ⟨w.heap.size, 0, none⟩) (Nat.le_refl _) (.int .i64 12)).setCell (p := ⟨w.heap.size, 1, none⟩) (Nat.le_refl _) (.slice A5 fl.length c5)
      have hHcc := Lib.hid hcc
      clear hcc
      go_wp2
      refine bodyPost_ret (v := .tuple #[.agg #[.int .i64 12, .slice A5 fl.length c5], .int .i64 0]) (by simp [results, Tryd.f21, go_sem, p0, p1]) rfl ?_
      rw [hHe.out]
      exact ⟨_, _, _, rfl, hbs6, hHcc.out, hB6⟩

set_option maxHeartbeats 3200000 in
theorem ref6OfS (k : Int) (hk : isK k = true) (h12 : k ≠ 12) (h30 : k ≠ 30) (A : Option Addr) (m c : Nat) (l : List Int) (w : World) (h : Zs w A m l) (hm : m ≤ 1000000) :
    Calls Tryd.prog 21 #[.int .i64 k, .slice A m c] w (OfR (ofV k l) w) := by
  obtain ⟨i0, hi, hz0, hz1, hz2⟩ := info_parts u8_info
  have b12 : (k == 12) = false := by simpa using h12
  have b30 : (k == 30) = false := by simpa using h30
  have hvN : Hid (∀ z ∈ l, hasT k z = false → ofV k l = (0, [], 6)) := Lib.hid (fun z hz hf => by
    have : l.all (hasT k) = false := by rw [List.all_eq_false]; exact ⟨z, hz, by rw [hf]; simp⟩
    unfold ofV; rw [hk, this]; rfl)
  have hvY : Hid (l.all (hasT k) = true → ofV k l = (k, l.flatMap (encT k), 0)) := Lib.hid (fun ha => by unfold ofV; rw [hk, ha]; rfl)
  have hK := ref6Kind k (w.alloc (.cells #[.int .i64 0, .slice none 0 0] 24))
  rw [hk] at hK
  have hMay := Lib.hid (fun n W => ref6May k n W hk)
  have hR := Blk.new2 w (.int .i64 0) (.slice none 0 0) 24
  have hb0 := below_alloc1 w (.cells #[.int .i64 0, .slice none 0 0] 24)
  have hz := h.below hb0
  have hHl := Lib.hid h.len
  have hs0 := World.size_alloc w (.cells #[.int .i64 0, .slice none 0 0] 24)
  generalize hw0 : w.alloc (.cells #[.int .i64 0, .slice none 0 0] 24) = W0 at *
  have hHs0 := Lib.hid hs0
  clear hs0
  go_enter Tryd.func21, Tryd.ntmps21
  go_wp2_with fail
  refine hK.mono ?_
  rintro e w1 ⟨rfl, rfl⟩
  have hHz := Lib.hid h
  clear hw0 hK h
  go_wp2
  go_loopw [6] (fun i wr3 => ∃ q : Nat, q ≤ m ∧ i = .int .i64 (q : Int) ∧ Hid (∀ z ∈ l.take q, hasT k z = true) ∧ wr3 = w1) (fun i _ => m - (intOf i).toNat)
  case atStart => exact ⟨0, Nat.zero_le _, rfl, Lib.hid (by simp), by first | rfl | trivial⟩
  case round =>
    obtain ⟨q, hq, rfl, hall, hwe⟩ := hrel
    obtain rfl : w1 = wr := hwe.symm
    by_cases hql : q < m
    · have i2 : (q : Int) < m := by omega
      have d2 : decide (q < m) = true := by simp; omega
      have hqL : q < l.length := by have := hHl.out; omega
      obtain ⟨b2, o2, rfl, cz⟩ := hz.at_ hql
      have hmem : Hid (zth l q ∈ l) := Lib.hid (by simp [zth, List.getD, List.getElem?_eq_getElem hqL])
      have htk : Hid (∀ z ∈ l.take (q + 1), z ∈ l.take q ∨ z = zth l q) := Lib.hid (by
        intro z hz'
        rw [List.take_add_one, List.getElem?_eq_getElem hqL] at hz'
        rcases List.mem_append.1 hz' with h1 | h1
        · exact .inl h1
        · right; simp at h1; rw [h1]; simp [zth, List.getD, List.getElem?_eq_getElem hqL])
      generalize zth l q = z at *
      have hM := hMay.out z w1
      cases hb : hasT k z
      · have hve := hvN.out z hmem.out hb
        rw [hb] at hM
        obtain ⟨r0, r1, r2, r3⟩ := hR.two
        obtain ⟨p0, p1, _, _⟩ := (hR.put (.int .i64 0) (.slice none 0 0)).two
        have hB := (hb0.setCell (p := ⟨w.heap.size, 0, none⟩) (Nat.le_refl _) (.int .i64 0)).setCell (p := ⟨w.heap.size, 1, none⟩) (Nat.le_refl _) (.slice none 0 0)
        have hHe := Lib.hid hve
        clear hb hve
        go_wp2_with fail
        refine hM.mono ?_
        rintro e w5 ⟨rfl, rfl⟩
        go_wp2
        refine bodyPost_ret (v := .tuple #[.agg #[.int .i64 0, .slice none 0 0], .int .i64 6]) (by simp [results, Tryd.f21, go_sem, p0, p1]) rfl ?_
        rw [hHe.out]
        exact ⟨none, 0, 0, rfl, Bs.nil _ _, Nat.le_refl _, hB⟩
      · rw [hb] at hM
        have hHb := Lib.hid hb
        clear hb
        go_wp2_with fail
        refine hM.mono ?_
        rintro e w5 ⟨rfl, rfl⟩
        clear hM
        go_wp2
        go_roundw
        case rel =>
          refine ⟨q + 1, by omega, by go_num, Lib.hid fun y hy => ?_, by first | rfl | trivial⟩
          rcases htk.out y hy with h1 | h1
          · exact hall.out y h1
          · rw [h1]; exact hHb.out
        case measure => simp [intOf]; omega
    · obtain rfl : q = m := by omega
      have hallL : Hid (l.all (hasT k) = true) := Lib.hid (by
        rw [List.all_eq_true]; intro y hy; exact hall.out y (by rw [List.take_of_length_le (by have := hHl.out; omega)]; exact hy))
      have hve := hvY.out hallL.out
      have hHe := Lib.hid hve
      have i3 : ¬ ((q : Nat) : Int) < (q : Nat) := by omega
      clear hve hall hql hMay hvN hvY
      have hb1 := below_alloc1 w1 (.cells #[.int .i64 k, .slice none 0 0] 24)
      have hX1 := Blk.new2 w1 (.int .i64 k) (.slice none 0 0) 24
      obtain ⟨f0, f1, f2, f3⟩ := hX1.two
      have hR1 := hR.below hb1
      have hz1' := hz.below hb1
      have hB1 := hb0.trans (Below.mono hb1 hb0.size)
      have hs1 : Hid (w1.heap.size = w.heap.size + 1) := hHs0
      clear hb0 hb1 hR hz
      go_wp2
      go_loopw [8] (fun i wr => ∃ (p : Nat) (A2 : Option Addr) (c2 : Nat), p ≤ q ∧ i = .int .i64 (p : Int) ∧ Blk wr w.heap.size 24 [.int .i64 0, .slice none 0 0] ∧ Blk wr w1.heap.size 24 [.int .i64 k, .slice A2 ((l.take p).flatMap (encT k)).length c2] ∧ Ob wr w.heap.size 5 (.slice A2 ((l.take p).flatMap (encT k)).length c2) ((l.take p).flatMap (encT k)) ∧ Below w.heap.size w wr) (fun i _ => q - (intOf i).toNat)
      case atStart => exact ⟨0, none, 0, Nat.zero_le _, rfl, hR1, hX1, Ob.nil _ _ _, hB1⟩
      case round =>
        clear f0 f1 f2 f3 hR1 hX1 hz1' hB1
        obtain ⟨p, A2, c2, hp, rfl, hR2, hXc, hob, hB⟩ := hrel
        have hsz := hB.size
        by_cases hpl : p < q
        · have i2 : (p : Int) < q := by omega
          have d2 : decide (p < q) = true := by simp; omega
          have hpL : p < l.length := by have := hHl.out; omega
          obtain ⟨b2, o2, rfl, cz⟩ := (hHz.out.below hB).at_ hpl
          have hsn := Lib.hid (flatk_snoc k l hpL)
          have hlen : ((l.take p).flatMap (encT k)).length ≤ 100000000 := by
            have := flatk_len k (l.take p)
            rw [List.length_take] at this
            omega
          have hha : hasT k (zth l p) = true := List.all_eq_true.1 hallL.out _ (by simp [zth, List.getD, List.getElem?_eq_getElem hpL])
          generalize (l.take p).flatMap (encT k) = pre at *
          generalize hzz : zth l p = z at *
          have hHzz := Lib.hid hzz
          clear hzz
          have hzb : 0 ≤ z ∧ z ≤ 255 := by rcases isK_cases hk with rfl | rfl | rfl | rfl | rfl | rfl <;> simp [hasT, plainT, markT] at hha h12 h30 <;> omega
          have z0 := hzb.1
          have z1 := hzb.2
          have t1 : z.tdiv 256 = z / 256 := Int.tdiv_eq_ediv_of_nonneg z0
          have t2 : z.tmod 256 = z % 256 := Int.tmod_eq_emod_of_nonneg z0
          have t3 : IntKind.u8.wrap (z / 256) = z / 256 := by unfold IntKind.wrap; simp [IntKind.bits, IntKind.signed]; omega
          have t4 : IntKind.u8.wrap (z % 256) = z % 256 := by unfold IntKind.wrap; simp [IntKind.bits, IntKind.signed]
          have t5 : IntKind.i64.wrap (z / 256) = z / 256 := wrap_small _ (by omega) (by omega)
          have hlo := Lib.hid (loB_toNat z)
          have hhi := Lib.hid (loB_toNat (z / 256))
          have hen : Hid (encT k z = [loB z]) := Lib.hid (by simp [encT, h12, h30])
          obtain ⟨y0, y1, y2, y3⟩ := hXc.two
          obtain ⟨v0, v1, v2, v3⟩ := (hXc.alloc (.cells #[.int .u8 (z % 256)] 5)).two
          clear hha hzb
          go_wp2
          go_region_law ((refine step_appendB (by rfl) _ _ 22 (by rfl) w.heap.size 5 i0 (.int .u8 0) Tryd.underlying22 hi hz0 hz1 hz2 rfl _ pre (by rfl) ((hob.alloc _).drew) _ _ _ [loB z] (by rfl) ((Bs.new1 wr _ _ 5 hlo.out.symm).drew) (by first | omega | (simp; omega)) (by first | omega | (simp; omega)) ?_; intro v9 w9 hob9 hg9 _ _; obtain ⟨A9, c9, rfl, _, _⟩ := hob9.slice; have hX9 : Blk w9 w1.heap.size 24 _ := (hg9.block _ (by have := hXc.lt; simp; omega) (fun e => (hXc.notRow hob (by decide)) e.symm)).trans (hXc.alloc _); obtain ⟨u0, u1, u2, u3⟩ := hX9.two))
          all_goals
            have hB9 : Below w.heap.size w w9 := Ob.grew ((hob.alloc (.cells #[.int .u8 (z % 256)] 5)).drew) (by have := hB.alloc hsz (.cells #[.int .u8 (z % 256)] 5); exact ⟨this.os, this.tape, this.output, this.size, this.block⟩) (Nat.le_refl _) hg9
            have hR9 : Blk w9 w.heap.size 24 [.int .i64 0, .slice none 0 0] := (hg9.block _ (by have := hR2.lt; simp; omega) (fun e => (hR2.notRow hob (by decide)) e.symm)).trans (hR2.alloc _)
            have hRa := hR9.setOther (r := w1.heap.size) (by have := hs1.out; omega) 1 (.slice A9 (pre ++ [loB z]).length c9)
            have hXa := hX9.set 1 (.slice A9 (pre ++ [loB z]).length c9)
            have hoa : Ob (w9.setCell ⟨w1.heap.size, 1, none⟩ (.slice A9 (pre ++ [loB z]).length c9)) w.heap.size 5 (.slice A9 (pre ++ [loB z]).length c9) (pre ++ [loB z]) := ownsRow_setCell_other hob9 (hX9.notRow hob9 (by decide)) _
            have hBa := hB9.setCell (p := ⟨w1.heap.size, 1, none⟩) (by show w.heap.size ≤ w1.heap.size; have := hs1.out; omega) (.slice A9 (pre ++ [loB z]).length c9)
            simp only [List.set_cons_succ, List.set_cons_zero] at hXa
            clear v0 v1 v2 v3 hob cz hg9 hXc y0 y1 y2 y3 u0 u1 u2 u3 hX9 hob9 hB9 hR9 hR2
            have eL : (pre ++ [loB z]).length = pre.length + 1 := by simp
            rw [eL] at hRa hXa hoa hBa
            have hfin : Hid ((l.take (p + 1)).flatMap (encT k) = pre ++ [loB z]) := Lib.hid (by rw [hsn.out, hen.out])
            have heL := Lib.hid eL
            clear eL hsn hen
            generalize hwX : w9.setCell ⟨w1.heap.size, 1, none⟩ (.slice A9 (pre.length + 1) c9) = wX at *
            clear hwX
            go_wp2
            go_roundw
            case rel =>
              refine ⟨p + 1, A9, c9, by omega, by go_num, ?_⟩
              rw [hfin.out, heL.out]
              exact ⟨hRa, hXa, hoa, hBa⟩
            case measure => simp [intOf]; omega
        · obtain rfl : p = q := by omega
          have ht : l.take p = l := List.take_of_length_le (by have := hHl.out; omega)
          rw [ht] at hXc hob
          have i4 : ¬ ((p : Nat) : Int) < (p : Nat) := by omega
          clear ht hpl
          generalize l.flatMap (encT k) = fl at *
          obtain ⟨x0, x1, _, _⟩ := hXc.two
          obtain ⟨r0, r1, r2, r3⟩ := hR2.two
          obtain ⟨p0, p1, _, _⟩ := (hR2.put (.int .i64 k) (.slice A2 fl.length c2)).two
          have hbs6 := (hob.bs.1).put hR2 (nob2u _ _ _ _) (.int .i64 k) (.slice A2 fl.length c2)
          have hcc := (hob.bs.2)
          have hB6 := (hB.setCell (p := ⟨w.heap.size, 0, none⟩) (Nat.le_refl _) (.int .i64 k)).setCell (p := ⟨w.heap.size, 1, none⟩) (Nat.le_refl _) (.slice A2 fl.length c2)
          have hHcc := Lib.hid hcc
          clear hcc
          go_wp2
          refine bodyPost_ret (v := .tuple #[.agg #[.int .i64 k, .slice A2 fl.length c2], .int .i64 0]) (by simp [results, Tryd.f21, go_sem, p0, p1]) rfl ?_
          rw [hHe.out]
          exact ⟨_, _, _, rfl, hbs6, hHcc.out, hB6⟩

set_option maxHeartbeats 3200000 in
theorem ref6Of30 (A : Option Addr) (m c : Nat) (l : List Int) (w : World) (h : Zs w A m l) (hm : m ≤ 1000000) :
    Calls Tryd.prog 21 #[.int .i64 30, .slice A m c] w (OfR (ofV 30 l) w) := by
  obtain ⟨i0, hi, hz0, hz1, hz2⟩ := info_parts u8_info
  have hk : isK 30 = true := rfl
  have hvN : Hid (∀ z ∈ l, hasT 30 z = false → ofV 30 l = (0, [], 6)) := Lib.hid (fun z hz hf => by
    have : l.all (hasT 30) = false := by rw [List.all_eq_false]; exact ⟨z, hz, by rw [hf]; simp⟩
    unfold ofV; rw [hk, this]; rfl)
  have hvY : Hid (l.all (hasT 30) = true → ofV 30 l = (30, l.flatMap (encT 30), 0)) := Lib.hid (fun ha => by unfold ofV; rw [hk, ha]; rfl)
  have hK := ref6Kind 30 (w.alloc (.cells #[.int .i64 0, .slice none 0 0] 24))
  rw [hk] at hK
  have hMay := Lib.hid (fun n W => ref6May 30 n W hk)
  have hR := Blk.new2 w (.int .i64 0) (.slice none 0 0) 24
  have hb0 := below_alloc1 w (.cells #[.int .i64 0, .slice none 0 0] 24)
  have hz := h.below hb0
  have hHl := Lib.hid h.len
  have hs0 := World.size_alloc w (.cells #[.int .i64 0, .slice none 0 0] 24)
  generalize hw0 : w.alloc (.cells #[.int .i64 0, .slice none 0 0] 24) = W0 at *
  have hHs0 := Lib.hid hs0
  clear hs0
  go_enter Tryd.func21, Tryd.ntmps21
  go_wp2_with fail
  refine hK.mono ?_
  rintro e w1 ⟨rfl, rfl⟩
  have hHz := Lib.hid h
  clear hw0 hK h
  go_wp2
  go_loopw [6] (fun i wr3 => ∃ q : Nat, q ≤ m ∧ i = .int .i64 (q : Int) ∧ Hid (∀ z ∈ l.take q, hasT 30 z = true) ∧ wr3 = w1) (fun i _ => m - (intOf i).toNat)
  case atStart => exact ⟨0, Nat.zero_le _, rfl, Lib.hid (by simp), by first | rfl | trivial⟩
  case round =>
    obtain ⟨q, hq, rfl, hall, hwe⟩ := hrel
    obtain rfl : w1 = wr := hwe.symm
    by_cases hql : q < m
    · have i2 : (q : Int) < m := by omega
      have d2 : decide (q < m) = true := by simp; omega
      have hqL : q < l.length := by have := hHl.out; omega
      obtain ⟨b2, o2, rfl, cz⟩ := hz.at_ hql
      have hmem : Hid (zth l q ∈ l) := Lib.hid (by simp [zth, List.getD, List.getElem?_eq_getElem hqL])
      have htk : Hid (∀ z ∈ l.take (q + 1), z ∈ l.take q ∨ z = zth l q) := Lib.hid (by
        intro z hz'
        rw [List.take_add_one, List.getElem?_eq_getElem hqL] at hz'
        rcases List.mem_append.1 hz' with h1 | h1
        · exact .inl h1
        · right; simp at h1; rw [h1]; simp [zth, List.getD, List.getElem?_eq_getElem hqL])
      generalize zth l q = z at *
      have hM := hMay.out z w1
      cases hb : hasT 30 z
      · have hve := hvN.out z hmem.out hb
        rw [hb] at hM
        obtain ⟨r0, r1, r2, r3⟩ := hR.two
        obtain ⟨p0, p1, _, _⟩ := (hR.put (.int .i64 0) (.slice none 0 0)).two
        have hB := (hb0.setCell (p := ⟨w.heap.size, 0, none⟩) (Nat.le_refl _) (.int .i64 0)).setCell (p := ⟨w.heap.size, 1, none⟩) (Nat.le_refl _) (.slice none 0 0)
        have hHe := Lib.hid hve
        clear hb hve
        go_wp2_with fail
        refine hM.mono ?_
        rintro e w5 ⟨rfl, rfl⟩
        go_wp2
        refine bodyPost_ret (v := .tuple #[.agg #[.int .i64 0, .slice none 0 0], .int .i64 6]) (by simp [results, Tryd.f21, go_sem, p0, p1]) rfl ?_
        rw [hHe.out]
        exact ⟨none, 0, 0, rfl, Bs.nil _ _, Nat.le_refl _, hB⟩
      · rw [hb] at hM
        have hHb := Lib.hid hb
        clear hb
        go_wp2_with fail
        refine hM.mono ?_
        rintro e w5 ⟨rfl, rfl⟩
        clear hM
        go_wp2
        go_roundw
        case rel =>
          refine ⟨q + 1, by omega, by go_num, Lib.hid fun y hy => ?_, by first | rfl | trivial⟩
          rcases htk.out y hy with h1 | h1
          · exact hall.out y h1
          · rw [h1]; exact hHb.out
        case measure => simp [intOf]; omega
    · obtain rfl : q = m := by omega
      have hallL : Hid (l.all (hasT 30) = true) := Lib.hid (by
        rw [List.all_eq_true]; intro y hy; exact hall.out y (by rw [List.take_of_length_le (by have := hHl.out; omega)]; exact hy))
      have hve := hvY.out hallL.out
      have hHe := Lib.hid hve
      have i3 : ¬ ((q : Nat) : Int) < (q : Nat) := by omega
      clear hve hall hql hMay hvN hvY
      have hb1 := below_alloc1 w1 (.cells #[.int .i64 30, .slice none 0 0] 24)
      have hX1 := Blk.new2 w1 (.int .i64 30) (.slice none 0 0) 24
      obtain ⟨f0, f1, f2, f3⟩ := hX1.two
      have hR1 := hR.below hb1
      have hz1' := hz.below hb1
      have hB1 := hb0.trans (Below.mono hb1 hb0.size)
      have hs1 : Hid (w1.heap.size = w.heap.size + 1) := hHs0
      clear hb0 hb1 hR hz
      go_wp2
      go_loopw [8] (fun i wr => ∃ (p : Nat) (A2 : Option Addr) (c2 : Nat), p ≤ q ∧ i = .int .i64 (p : Int) ∧ Blk wr w.heap.size 24 [.int .i64 0, .slice none 0 0] ∧ Blk wr w1.heap.size 24 [.int .i64 30, .slice A2 ((l.take p).flatMap (encT 30)).length c2] ∧ Ob wr w.heap.size 5 (.slice A2 ((l.take p).flatMap (encT 30)).length c2) ((l.take p).flatMap (encT 30)) ∧ Below w.heap.size w wr) (fun i _ => q - (intOf i).toNat)
      case atStart => exact ⟨0, none, 0, Nat.zero_le _, rfl, hR1, hX1, Ob.nil _ _ _, hB1⟩
      case round =>
        clear f0 f1 f2 f3 hR1 hX1 hz1' hB1
        obtain ⟨p, A2, c2, hp, rfl, hR2, hXc, hob, hB⟩ := hrel
        have hsz := hB.size
        by_cases hpl : p < q
        · have i2 : (p : Int) < q := by omega
          have d2 : decide (p < q) = true := by simp; omega
          have hpL : p < l.length := by have := hHl.out; omega
          obtain ⟨b2, o2, rfl, cz⟩ := (hHz.out.below hB).at_ hpl
          have hsn := Lib.hid (flatk_snoc 30 l hpL)
          have hlen : ((l.take p).flatMap (encT 30)).length ≤ 100000000 := by
            have := flatk_len 30 (l.take p)
            rw [List.length_take] at this
            omega
          have hha : hasT 30 (zth l p) = true := List.all_eq_true.1 hallL.out _ (by simp [zth, List.getD, List.getElem?_eq_getElem hpL])
          generalize (l.take p).flatMap (encT 30) = pre at *
          generalize hzz : zth l p = z at *
          have hHzz := Lib.hid hzz
          clear hzz
          have hzb : 0 ≤ z ∧ z ≤ 65535 := by simp [hasT] at hha; have := valid_bound hha.1; omega
          have z0 := hzb.1
          have z1 := hzb.2
          have t1 : z.tdiv 256 = z / 256 := Int.tdiv_eq_ediv_of_nonneg z0
          have t2 : z.tmod 256 = z % 256 := Int.tmod_eq_emod_of_nonneg z0
          have t3 : IntKind.u8.wrap (z / 256) = z / 256 := by unfold IntKind.wrap; simp [IntKind.bits, IntKind.signed]; omega
          have t4 : IntKind.u8.wrap (z % 256) = z % 256 := by unfold IntKind.wrap; simp [IntKind.bits, IntKind.signed]
          have t5 : IntKind.i64.wrap (z / 256) = z / 256 := wrap_small _ (by omega) (by omega)
          have hlo := Lib.hid (loB_toNat z)
          have hhi := Lib.hid (loB_toNat (z / 256))
          have hen : Hid (encT 30 z = [loB (z / 256)] ++ [loB z]) := Lib.hid (by rfl)
          obtain ⟨y0, y1, y2, y3⟩ := hXc.two
          obtain ⟨v0, v1, v2, v3⟩ := (hXc.alloc (.cells #[.int .u8 (z / 256)] 5)).two
          clear hha hzb
          go_wp2
          go_region_law ((refine step_appendB (by rfl) _ _ 22 (by rfl) w.heap.size 5 i0 (.int .u8 0) Tryd.underlying22 hi hz0 hz1 hz2 rfl _ pre (by rfl) ((hob.alloc _).drew) _ _ _ [loB (z / 256)] (by rfl) ((Bs.new1 wr _ _ 5 (by rw [hhi.out]; omega)).drew) (by first | omega | (simp; omega)) (by first | omega | (simp; omega)) ?_; intro v9 w9 hob9 hg9 _ _; obtain ⟨A9, c9, rfl, _, _⟩ := hob9.slice; have hX9 : Blk w9 w1.heap.size 24 _ := (hg9.block _ (by have := hXc.lt; simp; omega) (fun e => (hXc.notRow hob (by decide)) e.symm)).trans (hXc.alloc _); obtain ⟨u0, u1, u2, u3⟩ := hX9.two))
          all_goals
            have hB9 : Below w.heap.size w w9 := Ob.grew ((hob.alloc (.cells #[.int .u8 (z / 256)] 5)).drew) (by have := hB.alloc hsz (.cells #[.int .u8 (z / 256)] 5); exact ⟨this.os, this.tape, this.output, this.size, this.block⟩) (Nat.le_refl _) hg9
            have hR9 : Blk w9 w.heap.size 24 [.int .i64 0, .slice none 0 0] := (hg9.block _ (by have := hR2.lt; simp; omega) (fun e => (hR2.notRow hob (by decide)) e.symm)).trans (hR2.alloc _)
            have hRa := hR9.setOther (r := w1.heap.size) (by have := hs1.out; omega) 1 (.slice A9 (pre ++ [loB (z / 256)]).length c9)
            have hXa := hX9.set 1 (.slice A9 (pre ++ [loB (z / 256)]).length c9)
            have hoa : Ob (w9.setCell ⟨w1.heap.size, 1, none⟩ (.slice A9 (pre ++ [loB (z / 256)]).length c9)) w.heap.size 5 (.slice A9 (pre ++ [loB (z / 256)]).length c9) (pre ++ [loB (z / 256)]) := ownsRow_setCell_other hob9 (hX9.notRow hob9 (by decide)) _
            have hBa := hB9.setCell (p := ⟨w1.heap.size, 1, none⟩) (by show w.heap.size ≤ w1.heap.size; have := hs1.out; omega) (.slice A9 (pre ++ [loB (z / 256)]).length c9)
            simp only [List.set_cons_succ, List.set_cons_zero] at hXa
            clear v0 v1 v2 v3 hob cz hg9 hXc y0 y1 y2 y3 u0 u1 u2 u3 hX9 hob9 hB9 hR9 hR2 hB hsz
            have eL : (pre ++ [loB (z / 256)]).length = pre.length + 1 := by simp
            rw [eL] at hRa hXa hoa hBa
            generalize hwX : w9.setCell ⟨w1.heap.size, 1, none⟩ (.slice A9 (pre.length + 1) c9) = wX at *
            clear hwX
            have hsz := hBa.size
            have cz := (hHz.out.below hBa).at_ hpl
            obtain ⟨b3, o3, e3, cz⟩ := cz
            cases e3
            rw [hHzz.out] at cz
            have hfin : Hid ((l.take (p + 1)).flatMap (encT 30) = (pre ++ [loB (z / 256)]) ++ [loB z]) := Lib.hid (by rw [hsn.out, hen.out, List.append_assoc])
            clear hsn hen
            obtain ⟨pr1, hpr1⟩ : ∃ pr1, pre ++ [loB (z / 256)] = pr1 := ⟨_, rfl⟩
            rw [hpr1] at hoa eL hfin
            rw [← eL] at hXa hoa
            have hln1 : pr1.length ≤ 100000001 := by omega
            obtain ⟨y0, y1, y2, y3⟩ := hXa.two
            obtain ⟨v0, v1, v2, v3⟩ := (hXa.alloc (.cells #[.int .u8 (z % 256)] 5)).two
            clear eL hpr1
            go_wp2
            go_region_law ((refine step_appendB (by rfl) _ _ 22 (by rfl) w.heap.size 5 i0 (.int .u8 0) Tryd.underlying22 hi hz0 hz1 hz2 rfl _ pr1 (by rfl) ((hoa.alloc _).drew) _ _ _ [loB z] (by rfl) ((Bs.new1 wX _ _ 5 hlo.out.symm).drew) (by first | omega | (simp; omega)) (by first | omega | (simp; omega)) ?_; intro v9 w10 hob10 hg10 _ _; obtain ⟨A10, c10, rfl, _, _⟩ := hob10.slice; have hX10 : Blk w10 w1.heap.size 24 _ := (hg10.block _ (by have := hXa.lt; simp; omega) (fun e => (hXa.notRow hoa (by decide)) e.symm)).trans (hXa.alloc _); obtain ⟨u0, u1, u2, u3⟩ := hX10.two))
            all_goals
              have hB10 : Below w.heap.size w w10 := Ob.grew ((hoa.alloc (.cells #[.int .u8 (z % 256)] 5)).drew) (by have := hBa.alloc hsz (.cells #[.int .u8 (z % 256)] 5); exact ⟨this.os, this.tape, this.output, this.size, this.block⟩) (Nat.le_refl _) hg10
              have hR10 : Blk w10 w.heap.size 24 [.int .i64 0, .slice none 0 0] := (hg10.block _ (by have := hRa.lt; simp; omega) (fun e => (hRa.notRow hoa (by decide)) e.symm)).trans (hRa.alloc _)
              have hRb := hR10.setOther (r := w1.heap.size) (by have := hs1.out; omega) 1 (.slice A10 (pr1 ++ [loB z]).length c10)
              have hXb := hX10.set 1 (.slice A10 (pr1 ++ [loB z]).length c10)
              have hob : Ob (w10.setCell ⟨w1.heap.size, 1, none⟩ (.slice A10 (pr1 ++ [loB z]).length c10)) w.heap.size 5 (.slice A10 (pr1 ++ [loB z]).length c10) (pr1 ++ [loB z]) := ownsRow_setCell_other hob10 (hX10.notRow hob10 (by decide)) _
              have hBb := hB10.setCell (p := ⟨w1.heap.size, 1, none⟩) (by show w.heap.size ≤ w1.heap.size; have := hs1.out; omega) (.slice A10 (pr1 ++ [loB z]).length c10)
              simp only [List.set_cons_succ, List.set_cons_zero] at hXb
              clear v0 v1 v2 v3 hoa cz hg10 hXa y0 y1 y2 y3 u0 u1 u2 u3 hX10 hob10 hB10 hR10 hRa hBa hsz
              have eL2 : (pr1 ++ [loB z]).length = pr1.length + 1 := by simp
              rw [eL2] at hRb hXb hob hBb
              have heL := Lib.hid eL2
              clear eL2
              generalize hwY : w10.setCell ⟨w1.heap.size, 1, none⟩ (.slice A10 (pr1.length + 1) c10) = wY at *
              clear hwY
              go_wp2
              go_roundw
              case rel =>
                refine ⟨p + 1, A10, c10, by omega, by go_num, ?_⟩
                rw [hfin.out, heL.out]
                exact ⟨hRb, hXb, hob, hBb⟩
              case measure => simp [intOf]; omega
        · obtain rfl : p = q := by omega
          have ht : l.take p = l := List.take_of_length_le (by have := hHl.out; omega)
          rw [ht] at hXc hob
          have i4 : ¬ ((p : Nat) : Int) < (p : Nat) := by omega
          clear ht hpl
          generalize l.flatMap (encT 30) = fl at *
          obtain ⟨x0, x1, _, _⟩ := hXc.two
          obtain ⟨r0, r1, r2, r3⟩ := hR2.two
          obtain ⟨p0, p1, _, _⟩ := (hR2.put (.int .i64 30) (.slice A2 fl.length c2)).two
          have hbs6 := (hob.bs.1).put hR2 (nob2u _ _ _ _) (.int .i64 30) (.slice A2 fl.length c2)
          have hcc := (hob.bs.2)
          have hB6 := (hB.setCell (p := ⟨w.heap.size, 0, none⟩) (Nat.le_refl _) (.int .i64 30)).setCell (p := ⟨w.heap.size, 1, none⟩) (Nat.le_refl _) (.slice A2 fl.length c2)
          have hHcc := Lib.hid hcc
          clear hcc
          go_wp2
          refine bodyPost_ret (v := .tuple #[.agg #[.int .i64 30, .slice A2 fl.length c2], .int .i64 0]) (by simp [results, Tryd.f21, go_sem, p0, p1]) rfl ?_
          rw [hHe.out]
          exact ⟨_, _, _, rfl, hbs6, hHcc.out, hB6⟩

theorem ref6Of (k : Int) (A : Option Addr) (m c : Nat) (l : List Int) (w : World) (h : Zs w A m l) (hm : m ≤ 1000000) :
    Calls Tryd.prog 21 #[.int .i64 k, .slice A m c] w (OfR (ofV k l) w) := by
  cases hk : isK k
  · exact ref6OfNo k A m c l w hk
  · by_cases h12 : k = 12
    · subst h12; exact ref6Of12 A m c l w h hm
    · by_cases h30 : k = 30
      · subst h30; exact ref6Of30 A m c l w h hm
      · exact ref6OfS k hk h12 h30 A m c l w h hm
end Go.Proofs.YtoklonnajpjgjaaDoor
