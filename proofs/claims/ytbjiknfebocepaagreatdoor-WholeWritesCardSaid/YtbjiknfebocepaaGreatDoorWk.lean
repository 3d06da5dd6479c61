/-
  The contracts of the project's whole: idle and Parse of any bytes.
-/
import Derived.Test.YtbjiknfebocepaaGreatDoorWi
import Derived.Test.YtbjiknfebocepaaGreatDoorWh
namespace Go.Proofs.YtbjiknfebocepaaGreatDoor
open Go.RowKit Go.Joins
set_option linter.unusedVariables false
set_option linter.unusedSimpArgs false
set_option maxRecDepth 4000

theorem flip_stepR {l : List UInt8} {rest : List Value} {k : Nat} {y : UInt8} (h : l[k]? = some y) :
    (((l.take k).map (fun x => 255 - x) ++ l.drop k).map byteV ++ rest).set k (byteV (255 - y)) = ((l.take (k + 1)).map (fun x => 255 - x) ++ l.drop (k + 1)).map byteV ++ rest := by
  have hk := (List.getElem?_eq_some_iff.1 h).1
  rw [List.set_append_left _ _ (by simp; omega), flip_step h]

set_option maxHeartbeats 1600000 in
theorem whFlipR (g n c : Nat) (l : List UInt8) (rest : List Value) (w : World) (h : Blk w g 5 (l.map byteV ++ rest)) (hl : l.length = n) (hn : n ≤ 1000000) :
    Calls Tryz.prog 47 #[.slice (some ⟨g, 0, none⟩) n c] w fun e w' => e = .returned (.tuple #[]) ∧ Blk w' g 5 ((l.map fun x => 255 - x).map byteV ++ rest) ∧ Only g w w' := by
  have HL := Lib.hid hl; clear hl
  go_enter Tryz.func47, Tryz.ntmps47
  go_wp2
  go_loopw [5] (fun i wr => ∃ k : Nat, k ≤ n ∧ i = .int .i64 (k : Int) ∧ Blk wr g 5 (((l.take k).map (fun x => 255 - x) ++ l.drop k).map byteV ++ rest) ∧ Only g w wr) (fun i _ => n - (intOf i).toNat)
  case atStart => exact ⟨0, by omega, rfl, by simpa using h, Only.refl _ _⟩
  case round =>
    obtain ⟨k, hk, rfl, r0, hO⟩ := hrel
    by_cases hlt : k < n
    · have e2 : (k : Int) < n := by omega
      have hl2 := HL.out
      obtain ⟨y, hy⟩ : ∃ y, l[k]? = some y := ⟨l[k]'(by omega), List.getElem?_eq_getElem (by omega)⟩
      have c0 := r0.cell k
      have hget : ((l.take k).map (fun x => 255 - x) ++ l.drop k)[k]? = some y := by
        rw [List.getElem?_append_right (by simp; omega)]
        have e3 : k - ((l.take k).map (fun x => 255 - x)).length = 0 := by simp; omega
        rw [e3, List.getElem?_drop]; simpa using hy
      rw [List.getElem?_append_left (by simp; omega), List.getElem?_map, hget] at c0
      simp only [Option.map_some, byteV] at c0
      have f0 := r0.free k
      have hxor := xorFF y
      go_wp2
      refine ⟨⟨k + 1, by omega, by go_num, ?_, ?_⟩, by simp [intOf]; omega⟩
      · have := r0.set k (byteV (255 - y))
        rw [flip_stepR hy] at this
        simp only [byteV] at this ⊢
        first
          | exact this
          | (rw [hxor]; exact this)
      · exact hO.setCell rfl _
    · have hkn : k = n := by omega
      subst hkn
      have e2 : ¬ (k : Int) < k := by omega
      have hl2 := HL.out
      rw [List.take_of_length_le (by omega), List.drop_eq_nil_of_le (by omega), List.append_nil] at r0
      go_wp2
      go_end0
      rw [List.map_map] at r0
      exact ⟨rfl, r0, hO⟩

theorem Ob.blk {w : World} {base : Nat} {e : TypeId} {g n c : Nat} {l : List UInt8} (h : Ob w base e (.slice (some ⟨g, 0, none⟩) n c) l) : ∃ rest, Blk w g e (l.map byteV ++ rest) ∧ base ≤ g ∧ l.length = n := by
  rcases h.2 with ⟨h', _⟩ | ⟨g', cap, cur, h', hb, hg, hle, _, hsz, htk⟩
  · simp at h'
  · simp only [Value.slice.injEq, Option.some.injEq, Addr.mk.injEq, and_true, true_and] at h'
    obtain ⟨rfl, rfl, rfl⟩ := h'
    refine ⟨cur.toList.drop l.length, ?_, hb, rfl⟩
    unfold Blk
    rw [hg]
    congr 2
    rw [← htk, Nat.mul_one, List.take_append_drop]

theorem Ob.zero {w : World} {base : Nat} {e : TypeId} {g o n c : Nat} {l : List UInt8} (h : Ob w base e (.slice (some ⟨g, o, none⟩) n c) l) : o = 0 := by
  rcases h.2 with ⟨h', _⟩ | ⟨g', cap, cur, h', _⟩
  · simp at h'
  · simp only [Value.slice.injEq, Option.some.injEq, Addr.mk.injEq, and_true] at h'
    exact h'.1.2
theorem Blk.bsR {w : World} {g : Nat} {t : TypeId} {l : List UInt8} {rest : List Value} (h : Blk w g t (l.map byteV ++ rest)) : Bs w (some ⟨g, 0, none⟩) l.length l :=
  ⟨rfl, fun i x hx => ⟨g, 0, rfl, by
    rw [h.cell, Nat.zero_add, List.getElem?_append_left (by have := (List.getElem?_eq_some_iff.1 hx).1; simpa using this), List.getElem?_map, hx]; rfl⟩⟩

set_option maxHeartbeats 1600000 in
theorem whIdle (A : Option Addr) (n c : Nat) (l : List UInt8) (w : World) (h : Bs w A n l) (hn : n ≤ 1000000) :
    Calls Tryz.prog 49 #[.slice A n c] w fun e w' => e = .returned (.bool (idleL l)) ∧ Qt w w' := by
  have hl := h.len
  by_cases h2 : n < 2
  · have e1 : (n : Int) < 2 := by omega
    have hF : Hid (idleL l = false) := by
      unfold Hid
      match l, hl with
      | [], _ => rfl
      | [_], _ => rfl
      | _ :: _ :: _, hl => simp at hl; omega
    clear hl
    go_enter Tryz.func49, Tryz.ntmps49
    go_wp2
    go_ret
    rw [hF.out]
    exact ⟨rfl, Qt.refl _⟩
  · have e1 : ¬ (n : Int) < 2 := by omega
    have e0 : 0 < n := by omega
    have e01 : 1 < n := by omega
    have e2 : (0 : Int) < n := by omega
    have e3 : (1 : Int) < n := by omega
    obtain ⟨b, o, rfl, c0⟩ := h.at_ (k := 0) (by omega)
    obtain ⟨b', o', e', c1⟩ := h.at_ (k := 1) (by omega)
    cases e'
    rw [Nat.add_zero] at c0
    match l, hl with
    | [], hl => simp at hl; omega
    | [_], hl => simp at hl; omega
    | x :: y :: r, hl =>
      have n0 : nth (x :: y :: r) 0 = (x.toNat : Int) := rfl
      have n1 : nth (x :: y :: r) 1 = (y.toNat : Int) := rfl
      rw [n0] at c0
      rw [n1] at c1
      clear n0 n1 h hl
      have hF : Hid (idleL (x :: y :: r) = ((x.toNat == 0 && decide (y.toNat < 128)) || (x.toNat == 255 && decide (128 ≤ y.toNat)))) := rfl
      have hxb : x.toNat < 256 := UInt8.toNat_lt x
      generalize x.toNat = X at *
      generalize y.toNat = Y at *
      by_cases hX0 : X = 0
      · subst hX0
        by_cases hY : Y < 128
        · have q1 : (Y : Int) < 128 := by omega
          go_enter Tryz.func49, Tryz.ntmps49
          go_wp2
          go_ret
          exact ⟨by rw [hF.out]; simp [hY], Qt.refl _⟩
        · have q1 : ¬ (Y : Int) < 128 := by omega
          go_enter Tryz.func49, Tryz.ntmps49
          go_wp2
          go_ret
          exact ⟨by rw [hF.out]; simp [hY], Qt.refl _⟩
      · have q0 : ((X : Int) == 0) = false := by simp; omega
        by_cases hX1 : X = 255
        · subst hX1
          by_cases hY : 128 ≤ Y
          · have q1 : (128 : Int) ≤ Y := by omega
            go_enter Tryz.func49, Tryz.ntmps49
            go_wp2
            go_ret
            exact ⟨by rw [hF.out]; simp [hY], Qt.refl _⟩
          · have q1 : ¬ (128 : Int) ≤ Y := by omega
            go_enter Tryz.func49, Tryz.ntmps49
            go_wp2
            go_ret
            exact ⟨by rw [hF.out]; simp [hY], Qt.refl _⟩
        · have q1 : ((X : Int) == 255) = false := by simp; omega
          go_enter Tryz.func49, Tryz.ntmps49
          go_wp2
          go_ret
          exact ⟨by rw [hF.out]; simp [hX0, hX1], Qt.refl _⟩

/-- Parse's error. -/
def parE (l : List UInt8) : Int := if l = [] then 6 else if 64 < l.length then 2 else if idleL l = true then 6 else 0
/-- Parse's number. -/
def parZ (l : List UInt8) : Int := if nth l 0 < 128 then (val l : Int) else -1 - (val (l.map fun x => 255 - x) : Int)
def ParP (l : List UInt8) (w : World) (e : Ending) (w' : World) : Prop :=
  (parE l ≠ 0 → e = .returned (.tuple #[.agg #[.bool false, .slice none 0 0], .int .i64 (parE l)])) ∧
  (parE l = 0 → ∃ s u', e = .returned (.tuple #[u', .int .i64 0]) ∧ NumV w' s u' ∧ s.ok ∧ s.z = parZ l ∧ s.size.length ≤ 80) ∧ Below w.heap.size w w'
theorem ParP.err {l : List UInt8} {w w' : World} {k : Int} (h : parE l = k) (hk : k ≠ 0) (hb : Below w.heap.size w w') : ParP l w (.returned (.tuple #[.agg #[.bool false, .slice none 0 0], .int .i64 k])) w' :=
  ⟨fun _ => by rw [h], fun h0 => absurd (h.symm.trans h0) hk, hb⟩
theorem ParP.fine {l : List UInt8} {w w' : World} {s : Nm} {u : Value} (h : parE l = 0) (hv : NumV w' s u) (ho : s.ok) (hz : s.z = parZ l) (hl : s.size.length ≤ 80) (hb : Below w.heap.size w w') : ParP l w (.returned (.tuple #[u, .int .i64 0])) w' :=
  ⟨fun h0 => absurd h h0, fun _ => ⟨s, u, rfl, hv, ho, hz, hl⟩, hb⟩

set_option maxHeartbeats 3200000 in
theorem whParse (A : Option Addr) (n c : Nat) (l : List UInt8) (w : World) (h : Bs w A n l) (hn : n ≤ 1000000) :
    Calls Tryz.prog 30 #[.slice A n c] w (ParP l w) := by
  have hT := One.start w 26 (.bool false) (.slice none 0 0)
  have HLn := Lib.hid h.len
  go_enter Tryz.func30, Tryz.ntmps30
  go_upto_region 1 with (fail)
  generalize (w.alloc (Obj.cells #[Value.bool false, Value.slice none 0 0] 26)) = W0 at *
  generalize hR : w.heap.size = R at *
  have HR := Lib.hid hR; clear hR
  have h0 := h.below hT.2.1
  have r0 := hT.1.cell 0
  have r1 := hT.1.cell 1
  have g0 := hT.1.free 0
  have g1 := hT.1.free 1
  simp at r0 r1
  have hlt := hT.1.lt
  have hwR := hT.2.2
  by_cases hn0 : n = 0
  · subst hn0
    have hF : Hid (parE l = 6) := by
      unfold Hid parE
      rw [if_pos (List.eq_nil_of_length_eq_zero HLn.out)]
    go_wp2
    refine bodyPost_ret (v := .tuple #[.agg #[.bool false, .slice none 0 0], .int .i64 6]) (by simp [results, Tryz.results30, go_sem, r0, r1]) rfl ?_
    exact ParP.err hF.out (by decide) (below_set2 hT.2.1 (by omega) (by omega) _ _)
  · have hne : Hid (l ≠ []) := by unfold Hid; intro e; subst e; exact hn0 HLn.out.symm
    have z0 : ((n : Int) == 0) = false := by simp; omega
    by_cases h64 : 64 < n
    · have z1 : (64 : Int) < n := by omega
      have hF : Hid (parE l = 2) := by
        unfold Hid parE
        rw [if_neg hne.out, if_pos (by rw [HLn.out]; exact h64)]
      go_wp2
      refine bodyPost_ret (v := .tuple #[.agg #[.bool false, .slice none 0 0], .int .i64 2]) (by simp [results, Tryz.results30, go_sem, r0, r1]) rfl ?_
      exact ParP.err hF.out (by decide) (below_set2 hT.2.1 (by omega) (by omega) _ _)
    · have z1 : ¬ (64 : Int) < n := by omega
      have z2 : (n : Int) ≤ 64 := by omega
      go_wp2_with fail
      refine (whIdle A n c l W0 h0 hn).mono ?_
      rintro e w1 ⟨rfl, hq⟩
      have hT1 := hT.frame hq.below
      have h1 := h0.qt hq
      clear hT r0 r1 g0 g1 h0 hlt hwR hq
      have r0 := hT1.1.cell 0
      have r1 := hT1.1.cell 1
      have g0 := hT1.1.free 0
      have g1 := hT1.1.free 1
      simp at r0 r1
      have hlt := hT1.1.lt
      have hwR := hT1.2.2
      cases hid : idleL l with
      | true =>
        have hF : Hid (parE l = 6) := by
          unfold Hid parE
          rw [if_neg hne.out, if_neg (by rw [HLn.out]; exact h64), if_pos hid]
        go_wp2
        refine bodyPost_ret (v := .tuple #[.agg #[.bool false, .slice none 0 0], .int .i64 6]) (by simp [results, Tryz.results30, go_sem, r0, r1]) rfl ?_
        exact ParP.err hF.out (by decide) (below_set2 hT1.2.1 (by omega) (by omega) _ _)
      | false =>
        have hF : Hid (parE l = 0) := by
          unfold Hid parE
          rw [if_neg hne.out, if_neg (by rw [HLn.out]; exact h64), if_neg (by rw [hid]; decide)]
        clear hid
        go_wp2_with fail
        refine (bytesClone A n c l w1 h1 (by omega)).mono ?_
        rintro e w2 ⟨A2, n2, c2, rfl, ho2, hb2⟩
        have hT2 := hT1.frame hb2
        have h2 := h1.below hb2
        have hw12 := hb2.size
        have hRw1 : R < w1.heap.size := hT1.1.lt
        clear hT1 r0 r1 g0 g1 h1 hlt hwR
        have r0 := hT2.1.cell 0
        have r1 := hT2.1.cell 1
        have g0 := hT2.1.free 0
        have g1 := hT2.1.free 1
        simp at r0 r1
        have hlt := hT2.1.lt
        have hwR := hT2.2.2
        obtain ⟨hbs2, hnc2⟩ := ho2.bs
        have hn2 : n2 = n := by rw [← hbs2.len, ← HLn.out]
        subst hn2
        obtain ⟨ba, oa, rfl, ca⟩ := h2.at_ (k := 0) (by omega)
        rw [Nat.add_zero] at ca
        have hp : 0 < n2 := by omega
        have hpI : (0 : Int) < n2 := by omega
        by_cases hx : nth l 0 < 128
        · have hZ : Hid (parZ l = (val l : Int)) := by unfold Hid parZ; rw [if_pos hx]
          generalize nth l 0 = X at *
          go_wp2_with fail
          refine (whTrim A2 n2 c2 l w2 hbs2 hnc2 (by omega)).mono ?_
          rintro e w3 ⟨A3, c3, rfl, hs3, hc3, hq3⟩
          have hT3 := hT2.frame hq3.below
          have hs3' := hs3.qt hq3
          clear hT2 r0 r1 g0 g1 hlt hwR
          have r0 := hT3.1.cell 0
          have r1 := hT3.1.cell 1
          have g0 := hT3.1.free 0
          have g1 := hT3.1.free 1
          simp at r0 r1
          have hlt := hT3.1.lt
          have hwR := hT3.2.2
          have hdl := dz_len l
          have hdl2 : (dz l).length ≤ 80 := by have := HLn.out; omega
          have FIN : Hid (Nm.ok ⟨false, dz l⟩ ∧ Nm.z ⟨false, dz l⟩ = parZ l) := by
            refine ⟨⟨Nz.dz l, fun _ => rfl⟩, ?_⟩
            rw [hZ.out]; simp [Nm.z, val_dz]
          clear hdl
          generalize dz l = ld at *
          generalize hL : ld.length = L at *
          have HL := Lib.hid hL; clear hL
          go_wp2
          refine bodyPost_ret (v := .tuple #[.agg #[.bool false, .slice A3 L c3], .int .i64 0]) (by simp [results, Tryz.results30, go_sem, r0, r1]) rfl ?_
          exact ParP.fine (s := ⟨false, ld⟩) hF.out (NumV.mk' false (hs3'.set2 hT3.1 _ _) hc3) FIN.out.1 FIN.out.2 (by show ld.length ≤ 80; rw [HL.out]; exact hdl2) (below_set2 hT3.2.1 (by omega) (by omega) _ _)
        · have hZ : Hid (parZ l = -1 - (val (l.map fun x => 255 - x) : Int)) := by unfold Hid parZ; rw [if_neg hx]
          obtain ⟨bg, og, rfl, _⟩ := hbs2.at_ (k := 0) (by omega)
          obtain rfl := ho2.zero
          obtain ⟨rest, hk2, hbg, _⟩ := ho2.blk
          have hne2 : R ≠ bg := by omega
          have hwbg : w.heap.size ≤ bg := by omega
          clear ho2 hbs2
          have hnx : ¬ (nth l 0 < 128) := hx
          generalize nth l 0 = X at *
          go_wp2_with fail
          refine (whFlipR bg n2 c2 l rest w2 hk2 HLn.out (by omega)).mono ?_
          rintro e w3 ⟨rfl, hk3, hO3⟩
          have hT3 : One w 26 R [.bool false, .slice none 0 0] w3 := ⟨hT2.1.only hO3 hne2, Only.below hO3 hT2.2.1 hwbg hT2.2.1.size, hT2.2.2⟩
          have hs3 := hk3.bsR
          rw [List.length_map, HLn.out] at hs3
          have hNV : NumV w3 ⟨false, l.map fun x => 255 - x⟩ (.agg #[.bool false, .slice (some ⟨bg, 0, none⟩) n2 c2]) := NumV.mk' false hs3 hnc2
          have hfl : Hid ((l.map fun x => 255 - x).length = n2) := by unfold Hid; rw [List.length_map]; exact HLn.out
          clear hT2 hk3 hO3 r0 r1 g0 g1 hlt hwR hs3 hk2
          generalize (l.map fun x => 255 - x) = lf at *
          go_wp2_with fail
          refine (whOpposite ⟨false, lf⟩ _ w3 hNV (by show lf.length ≤ _; rw [hfl.out]; omega)).mono ?_
          rintro e w4 ⟨s, u4, rfl, ⟨A4, c4, rfl, hs4, hc4⟩, hok4, hz4, hl4, hb4⟩
          have hT4 := hT3.frame hb4
          have r0 := hT4.1.cell 0
          have r1 := hT4.1.cell 1
          have g0 := hT4.1.free 0
          have g1 := hT4.1.free 1
          simp at r0 r1
          have hlt := hT4.1.lt
          have hwR := hT4.2.2
          have hl80 : s.size.length ≤ 80 := by
            have h1 : s.size.length ≤ lf.length + 9 := hl4
            have := hfl.out
            omega
          have HZ4 := Lib.hid hz4
          clear hz4 hl4 hb4 hT3 hNV
          go_wp2
          refine bodyPost_ret (v := .tuple #[.agg #[.bool s.below, .slice A4 s.size.length c4], .int .i64 0]) (by simp [results, Tryz.results30, go_sem, r0, r1]) rfl ?_
          refine ParP.fine (s := s) hF.out ⟨A4, c4, rfl, hs4.set2 hT4.1 _ _, hc4⟩ hok4 ?_ hl80 (below_set2 hT4.2.1 (by omega) (by omega) _ _)
          rw [HZ4.out, hZ.out]
          simp [Nm.z]
end Go.Proofs.YtbjiknfebocepaaGreatDoor
