/-
  The contract of layer 5's reference: Of.
-/
import Derived.Test.YtjcddbcokiaehaaBx
namespace Go.Proofs.Ytjcddbcokiaehaa
open Go.RowKit
set_option linter.unusedVariables false
set_option linter.unusedSimpArgs false
set_option maxRecDepth 4000

/-- The string of flags, or nothing. -/
def ofR (l : List Int) : Int × List UInt8 := if isFl 0 l = true then ofS l else (0, [])
theorem ofR_no {l : List Int} (h : isFl 0 l = false) : ofR l = (0, []) := by unfold ofR; rw [if_neg (by rw [h]; simp)]
theorem ofR_yes {l : List Int} (h : isFl 0 l = true) : ofR l = ofS l := by unfold ofR; rw [if_pos h]
/-- What the reference's Of hands back. -/
def OfV (w : World) (r : Int × List UInt8) (b : Bool) (e : Ending) (w' : World) : Prop := ∃ A' c', e = .returned (.tuple #[.agg #[.int .i64 r.1, .slice A' r.2.length c'], .bool b]) ∧ Bs w' A' r.2.length r.2 ∧ r.2.length ≤ c' ∧ Below w.heap.size w w'
def rowLen : Value → Nat
  | .slice _ n _ => n
  | _ => 0

theorem byteStep {w w9 : World} {X : Nat} {U : Int} {v v1 v' : Value} {row : List Value} {bs : List UInt8} (hX : Blk w9 X 24 [.int .i64 U, v1]) (hP : Blk w9 w.heap.size 24 [.int .i64 0, .slice none 0 0]) (hob : Ob w9 (w.heap.size + 1) 5 v' bs) (hov : Ov w9 (w.heap.size + 1) 3 v row) (hB : Below w.heap.size w w9) (hPl : w.heap.size < X) :
    Blk (w9.setCell ⟨X, 1, none⟩ v') X 24 [.int .i64 U, v'] ∧ Ob (w9.setCell ⟨X, 1, none⟩ v') (w.heap.size + 1) 5 v' bs ∧ Ov (w9.setCell ⟨X, 1, none⟩ v') (w.heap.size + 1) 3 v row ∧ Blk (w9.setCell ⟨X, 1, none⟩ v') w.heap.size 24 [.int .i64 0, .slice none 0 0] ∧ Below w.heap.size w (w9.setCell ⟨X, 1, none⟩ v') :=
  ⟨hX.set 1 _, ownsRow_setCell_other hob (hX.notRow hob (by decide)) _, ownsRow_setCell_other hov (hX.notRow hov (by decide)) _, hP.setOther (by omega) _ _, Only.below ((Only.refl X w9).setCell rfl _) hB (by omega) hB.size⟩

theorem padStep {w w9 : World} {X M m : Nat} {v : Value} {row : List Value} (hX : Blk w9 X 24 [.int .i64 ((M : Int) - m), .slice none 0 0]) (hP : Blk w9 w.heap.size 24 [.int .i64 0, .slice none 0 0]) (hov : Ov w9 (w.heap.size + 1) 3 v row) (hB : Below w.heap.size w w9) (hPl : w.heap.size < X) :
    Ov (w9.setCell ⟨X, 0, none⟩ (.int .i64 ((M : Int) - m + 1))) (w.heap.size + 1) 3 v row ∧ Blk (w9.setCell ⟨X, 0, none⟩ (.int .i64 ((M : Int) - m + 1))) X 24 [.int .i64 (((M + 1 : Nat) : Int) - m), .slice none 0 0] ∧ Blk (w9.setCell ⟨X, 0, none⟩ (.int .i64 ((M : Int) - m + 1))) w.heap.size 24 [.int .i64 0, .slice none 0 0] ∧ Below w.heap.size w (w9.setCell ⟨X, 0, none⟩ (.int .i64 ((M : Int) - m + 1))) := by
  have hv : (M : Int) - m + 1 = ((M + 1 : Nat) : Int) - m := by omega
  refine ⟨ownsRow_setCell_other hov (hX.notRow hov (by decide)) _, ?_, hP.setOther (by omega) _ _, Only.below ((Only.refl X w9).setCell rfl _) hB (by omega) hB.size⟩
  rw [hv]
  exact hX.set 0 _

set_option maxHeartbeats 3200000 in
theorem rf5Of (A : Option Addr) (n c : Nat) (l : List Int) (w : World) (h : Zs w A n l) (hn : n ≤ 1000) :
    Calls Try.prog 25 #[.slice A n c] w (OfV w (ofR l) (isFl 0 l)) := by
  obtain ⟨i0, hi, hz0, hz1, hz2⟩ := info_parts int_info
  have hl := Lib.hid h.len
  have hP := Blk.new2 w (.int .i64 0) (.slice none 0 0) 24
  have hB := below_alloc1 w (.cells #[.int .i64 0, .slice none 0 0] 24)
  have ZS : Hid (∀ W, Below w.heap.size w W → Zs W A n l) := fun W hW => h.below hW
  go_enter Try.func25, Try.ntmps25
  go_wp2
  go_loopw [4, 5] (fun v i wr => ∃ k : Nat, k ≤ n ∧ i = .int .i64 (k : Int) ∧ topF l k ≤ 32 ∧ Hid (∀ z ∈ l.take k, z < (topF l k : Int)) ∧ Hid (isFl 0 l = isFl (topF l k : Int) (l.drop k)) ∧ Ov wr (w.heap.size + 1) 3 v ((indB (l.take k) (topF l k)).map intV) ∧ Blk wr w.heap.size 24 [.int .i64 0, .slice none 0 0] ∧ Below w.heap.size w wr) (fun _ i _ => n - (intOf i).toNat)
  case atStart => exact ⟨0, Nat.zero_le _, rfl, by simp [topF], by simp [Hid], rfl, Ov.nil _ _ _, hP, hB⟩
  case round =>
    clear hP hB
    obtain ⟨k, hk, rfl, ht, hall, hfl, hov, hP, hB⟩ := hrel
    by_cases hlt : k < n
    · obtain ⟨b, o, rfl, hcz⟩ := (ZS.out wr hB).at_ hlt
      obtain ⟨A1, c1, rfl, hc1, _⟩ := hov.slice
      have hil : ((indB (l.take k) (topF l k)).map intV).length = topF l k := by rw [List.length_map, indB_len]
      rw [hil] at hov hc1 ⊢
      have hkl : k < l.length := by have := hl.out; omega
      have hTK := Lib.hid (take_one hkl)
      have hT1 := Lib.hid (topF_succ l k)
      have k1 : (k : Int) < n := by omega
      have hSTOP := Lib.hid (fun h => isFl_stop (m := topF l k) hkl h)
      have hGO := Lib.hid (fun h1 h2 => isFl_take (m := topF l k) hkl h1 h2)
      generalize HZ' : zth l k = z at *
      have HZ := Lib.hid HZ'
      clear HZ'
      generalize topF l k = m at *
      by_cases hbad : z < 0 ∨ 31 < z ∨ z < m
      · have hF : Hid (isFl 0 l = false) := by unfold Hid; rw [hfl.out]; exact hSTOP.out (by omega)
        rw [ofR_no hF.out, hF.out]
        obtain ⟨p0, p1, p2, p3⟩ := hP.two
        obtain ⟨q0, q1, _, _⟩ := (hP.put (.int .i64 0) (.slice none 0 0)).two
        have hB5 := below_set2 (R := w.heap.size) hB hB.size (Nat.le_refl _) (.int .i64 0) (.slice none 0 0)
        clear hSTOP hGO hfl hall hTK hT1 hP hov
        by_cases g1 : z < 0
        · have d1 : decide (z < 0) = true := by simp [g1]
          go_wp2
          refine bodyPost_ret (v := .tuple #[.agg #[.int .i64 0, .slice none 0 0], .bool false]) (by simp [results, Try.results25, go_sem, q0, q1]) rfl ?_
          exact ⟨none, 0, rfl, Bs.nil _ _, Nat.le_refl _, hB5⟩
        · have d1 : decide (z < 0) = false := by simp; omega
          by_cases g2 : 31 < z
          · have d2 : decide (31 < z) = true := by simp [g2]
            go_wp2
            refine bodyPost_ret (v := .tuple #[.agg #[.int .i64 0, .slice none 0 0], .bool false]) (by simp [results, Try.results25, go_sem, q0, q1]) rfl ?_
            exact ⟨none, 0, rfl, Bs.nil _ _, Nat.le_refl _, hB5⟩
          · have d2 : decide (31 < z) = false := by simp; omega
            have g3 : z < m := by omega
            have d3 : decide (z < (m : Int)) = true := by simp [g3]
            go_wp2
            refine bodyPost_ret (v := .tuple #[.agg #[.int .i64 0, .slice none 0 0], .bool false]) (by simp [results, Try.results25, go_sem, q0, q1]) rfl ?_
            exact ⟨none, 0, rfl, Bs.nil _ _, Nat.le_refl _, hB5⟩
      · obtain ⟨zn, rfl⟩ : ∃ zn : Nat, z = (zn : Int) := ⟨z.toNat, by omega⟩
        have g1 : ¬ (zn : Int) < 0 := by omega
        have g2 : ¬ 31 < (zn : Int) := by omega
        have g3 : ¬ (zn : Int) < (m : Int) := by omega
        have d1 : decide ((zn : Int) < 0) = false := by simp
        have d2 : decide (31 < (zn : Int)) = false := by simp; omega
        have d3 : decide ((zn : Int) < (m : Int)) = false := by simp; omega
        have d4 : decide (zn < m) = false := by simp; omega
        have hGO1 := Lib.hid (hGO.out (by omega) (by omega))
        have zt : (zn : Int).toNat = zn := Int.toNat_natCast zn
        have ZC : Hid (∀ W, Below w.heap.size w W → W.cell? ⟨b, o + k, none⟩ = some (.int .i64 (zn : Int))) := by
          intro W hW
          obtain ⟨b', o', e, hc⟩ := (ZS.out W hW).at_ hlt
          cases e
          rw [HZ.out] at hc
          exact hc
        rw [zt] at hT1 hGO1
        clear hSTOP hGO
        go_wp2
        go_loopw [4] (fun v wr => ∃ j : Nat, m ≤ j ∧ j ≤ zn ∧ Ov wr (w.heap.size + 1) 3 v ((indB (l.take k) j).map intV) ∧ Blk wr w.heap.size 24 [.int .i64 0, .slice none 0 0] ∧ Below w.heap.size w wr) (fun v _ => zn - rowLen v)
        case atStart => exact ⟨m, by omega, by omega, hov, hP, hB⟩
        case round =>
          clear hov hP hB hc1 hcz hil
          obtain ⟨j, hj, hjz, hov, hP, hB⟩ := hrel
          obtain ⟨A1, c1, rfl, hc1, _⟩ := hov.slice
          have hil : ((indB (l.take k) j).map intV).length = j := by rw [List.length_map, indB_len]
          rw [hil] at hov hc1 ⊢
          have hcz := ZC.out _ hB
          have hPl := hP.lt
          by_cases hlz : j < zn
          · have hst : Hid ((indB (l.take k) (j + 1)).map intV = (indB (l.take k) j).map intV ++ [intV 0]) := by unfold Hid; rw [indB_more (fun z hz => by have := hall.out z hz; omega), List.map_append]; rfl
            have hil2 : ((indB (l.take k) (j + 1)).map intV).length = j + 1 := by rw [List.length_map, indB_len]
            generalize (indB (l.take k) j).map intV = row at *
            have e1 : (j : Int) < zn := by omega
            go_wp2_with (at_builtin; (refine wpList_appendV rfl _ _ 38 rfl (w.heap.size + 1) 3 i0 (.int .i64 0) Try.underlying38 hi hz0 hz1 (by omega) rfl _ row rfl (hov.alloc _) _ _ _ [intV _] rfl (Vs.new1 _ _ 3) ?ab0 ?ab1 ?ab2 ?_))
            case ab0 => intro u hu; simp at hu; subst hu; rfl
            case ab1 => omega
            case ab2 => simp; omega
            intro v' w9 hov9 hg9 _ _
            have hP9 : Blk w9 w.heap.size 24 [.int .i64 0, .slice none 0 0] := (hP.alloc _).belowB ((hov.alloc _).grew (Below.refl (w.heap.size + 1) _) (by simp; omega) hg9) (by omega)
            have hB9 := (hB.alloc hB.size _).trans (((hov.alloc _).grew (Below.refl (w.heap.size + 1) _) (by simp; omega) hg9).mono (by omega))
            rw [← hst.out] at hov9
            obtain ⟨A2, c2, rfl, _, _⟩ := hov9.slice
            go_wp2
            go_roundw
            case rel => exact ⟨j + 1, by omega, by omega, hov9, hP9, hB9⟩
            case measure => simp [rowLen, hil2]; omega
          · have hjz' : j = zn := by omega
            subst hjz'
            have hst : Hid ((indB (l.take (k + 1)) (topF l (k + 1))).map intV = (indB (l.take k) j).map intV ++ [intV 1]) := by unfold Hid; rw [hTK.out, hT1.out, indB_one (fun z hz => by have := hall.out z hz; omega), List.map_append]; rfl
            have hall2 : Hid (∀ z ∈ l.take (k + 1), z < (topF l (k + 1) : Int)) := by
              intro z hz
              rw [hTK.out, List.mem_append, List.mem_singleton] at hz
              rw [hT1.out]
              rcases hz with hz | rfl
              · have := hall.out z hz; omega
              · omega
            have hfl2 : Hid (isFl 0 l = isFl (topF l (k + 1) : Int) (l.drop (k + 1))) := by unfold Hid; rw [hfl.out, hGO1.out, hT1.out]
            have ht2 : topF l (k + 1) ≤ 32 := by rw [hT1.out]; omega
            generalize (indB (l.take k) j).map intV = row at *
            go_wp2_with (at_builtin; (refine wpList_appendV rfl _ _ 38 rfl (w.heap.size + 1) 3 i0 (.int .i64 0) Try.underlying38 hi hz0 hz1 (by omega) rfl _ row rfl (hov.alloc _) _ _ _ [intV _] rfl (Vs.new1 _ _ 3) ?ab0 ?ab1 ?ab2 ?_))
            case ab0 => intro u hu; simp at hu; subst hu; rfl
            case ab1 => omega
            case ab2 => simp; omega
            intro v' w9 hov9 hg9 _ _
            have hP9 : Blk w9 w.heap.size 24 [.int .i64 0, .slice none 0 0] := (hP.alloc _).belowB ((hov.alloc _).grew (Below.refl (w.heap.size + 1) _) (by simp; omega) hg9) (by omega)
            have hB9 := (hB.alloc hB.size _).trans (((hov.alloc _).grew (Below.refl (w.heap.size + 1) _) (by simp; omega) hg9).mono (by omega))
            rw [← hst.out] at hov9
            go_wp2
            go_roundw
            case rel => exact ⟨k + 1, by omega, by go_num, ht2, hall2, hfl2, hov9, hP9, hB9⟩
            case measure => simp [intOf]; omega
    · have hkn : k = n := by omega
      subst hkn
      rename World => wq
      have htk : l.take k = l := List.take_of_length_le (by have := hl.out; omega)
      have hF : Hid (isFl 0 l = true) := by unfold Hid; rw [hfl.out, List.drop_of_length_le (by have := hl.out; omega)]; rfl
      rw [htk] at hov hall
      rw [ofR_yes hF.out, hF.out]
      obtain ⟨A1, c1, rfl, hc1, _⟩ := hov.slice
      have hil : ((indB l (topF l k)).map intV).length = topF l k := by rw [List.length_map, indB_len]
      rw [hil] at hov hc1 ⊢
      have hE := Lib.hid (ofS_top hF.out)
      rw [hl.out] at hE
      generalize topF l k = m at *
      obtain ⟨nb, hnb⟩ : ∃ nb, nb = (m + 7) / 8 := ⟨_, rfl⟩
      rw [← hnb] at hE
      have hnb4 : nb ≤ 4 := by omega
      have hX := Blk.new2 wq (.int .i64 0) (.slice none 0 0) 24
      have hPl := hP.lt
      have hP1 := hP.alloc (.cells #[.int .i64 0, .slice none 0 0] 24)
      have hov1 := hov.alloc (.cells #[.int .i64 0, .slice none 0 0] 24)
      have hB1 := hB.alloc hB.size (.cells #[.int .i64 0, .slice none 0 0] 24)
      clear hil
      go_wp2
      generalize (wq.alloc (Obj.cells #[.int .i64 0, .slice none 0 0] 24)) = W1 at *
      clear hP hov hB
      go_loopw [4] (fun v ws => ∃ M : Nat, m ≤ M ∧ M ≤ 8 * nb ∧ Ov ws (w.heap.size + 1) 3 v ((indB l M).map intV) ∧ Blk ws wq.heap.size 24 [.int .i64 ((M : Int) - m), .slice none 0 0] ∧ Blk ws w.heap.size 24 [.int .i64 0, .slice none 0 0] ∧ Below w.heap.size w ws) (fun v _ => 8 * nb - rowLen v)
      case atStart => exact ⟨m, by omega, by omega, hov1, by rw [Int.sub_self]; exact hX, hP1, hB1⟩
      case round =>
        clear hov1 hX hP1 hB1 hc1
        obtain ⟨M, hM, hM8, hov, hX, hP, hB⟩ := hrel
        obtain ⟨A1, c1, rfl, hc1, _⟩ := hov.slice
        have hil : ((indB l M).map intV).length = M := by rw [List.length_map, indB_len]
        rw [hil] at hov hc1 ⊢
        have hXl := hX.lt
        by_cases hmod : M % 8 = 0
        · have hMM : M = 8 * nb := by omega
          subst hMM
          clear hM hM8 hall
          obtain ⟨U, hU⟩ : ∃ U, U = ((8 * nb : Nat) : Int) - m := ⟨_, rfl⟩
          rw [← hU] at hE hX
          obtain ⟨j0, ji, jz0, jz1, jz2⟩ := info_parts u8_info
          clear hU hnb hmod
          go_wp2
          go_loopw [7] (fun i ws => ∃ j I : Nat, j ≤ nb ∧ I = 8 * j ∧ i = .int .i64 (I : Int) ∧ ∃ vb, Blk ws wq.heap.size 24 [.int .i64 U, vb] ∧ Ob ws (w.heap.size + 1) 5 vb (ofB l j) ∧ Ov ws (w.heap.size + 1) 3 (.slice A1 (8 * nb) c1) ((indB l (8 * nb)).map intV) ∧ Blk ws w.heap.size 24 [.int .i64 0, .slice none 0 0] ∧ Below w.heap.size w ws) (fun i _ => 8 * nb - (intOf i).toNat)
          case atStart => exact ⟨0, 0, Nat.zero_le _, rfl, rfl, _, hX, Ob.nil _ _ _, hov, hP, hB⟩
          case round =>
            clear hX hP hB hov hXl
            obtain ⟨j, I, hj, hI, rfl, vb, hX, hob, hov, hP, hB⟩ := hrel
            obtain ⟨A2, c2, rfl, hc2, hbs⟩ := hob.slice
            have hol : (ofB l j).length = j := ofB_len _ _
            rw [hol] at hX hob hbs hc2
            by_cases hlt2 : j < nb
            · have hMB := Lib.hid (ofB_more l j)
              obtain ⟨f, hf⟩ : ∃ f : Nat → Bool, f = fun t => decide (((8 * j + t : Nat) : Int) ∈ l) := ⟨_, rfl⟩
              have CELL : Hid (∀ t, t < 8 → ∃ b o, A1 = some ⟨b, o, none⟩ ∧ wr.cell? ⟨b, o + (I + t), none⟩ = some (.int .i64 ((f t).toNat : Int))) := by
                intro t ht8
                obtain ⟨b', o', e, hc⟩ := (show Zs wr A1 (8 * nb) (indB l (8 * nb)) from hov.vs.1).at_ (k := I + t) (by omega)
                rw [indB_zth (by omega), hI] at hc
                rw [hI, hf]
                exact ⟨b', o', e, hc⟩
              rw [← hf] at hMB
              obtain ⟨NB, hNB⟩ : ∃ NB, NB = 8 * nb := ⟨_, rfl⟩
              rw [← hNB] at hov ⊢
              have hI2 : I + 8 ≤ NB := by omega
              have hI3 : NB ≤ 32 := by omega
              have k2 : (I : Int) < NB := by omega
              obtain ⟨b, o, rfl, _⟩ := CELL.out 0 (by omega)
              obtain ⟨x0, x1, x2, x3⟩ := hX.two
              have HI := Lib.hid hI
              have HNB := Lib.hid hNB
              clear hI hNB
              go_wp2
              go_loopw [8, 9] (fun p q ws => ∃ t : Nat, t ≤ 8 ∧ q = .int .i64 (t : Int) ∧ p = .int .i64 (prt f t : Int) ∧ ws = wr) (fun _ q _ => 8 - (intOf q).toNat)
              case atStart => exact ⟨0, by omega, rfl, rfl, rfl⟩
              case round =>
                obtain ⟨t, ht8, rfl, rfl, rfl⟩ := hrel
                by_cases hlt8 : t < 8
                · obtain ⟨b', o', e, hcell⟩ := CELL.out t hlt8
                  cases e
                  have hpl := prt_le (f := f) ht8
                  have hy := Bool.toNat_le (f t)
                  have hst : Hid (prt f (t + 1) = 2 * prt f t + (f t).toNat) := rfl
                  generalize prt f t = p at *
                  generalize (f t).toNat = y at *
                  have k3 : (I : Int) + t < NB := by omega
                  have k4 : (t : Int) < 8 := by omega
                  have hq : ((I : Int) + (t : Int)).toNat = I + t := by omega
                  go_wp2
                  go_roundw
                  case rel => exact ⟨t + 1, by omega, by go_num, by rw [hst.out]; go_num, by first | rfl | trivial⟩
                  case measure => simp [intOf]; omega
                · have ht : t = 8 := by omega
                  subst ht
                  have hpk := prt_eight f
                  have hpl := packN_lt f
                  rw [hpk]
                  generalize packN f = p at *
                  have hsz := hB.size
                  have hPl2 := hP.lt
                  go_wp2_with (at_builtin; refine wpList_appendB rfl _ _ 22 rfl (w.heap.size + 1) 5 j0 (.int .u8 0) Try.underlying22 ji jz0 jz1 jz2 rfl _ (ofB l j) rfl (hob.alloc _) _ _ _ [UInt8.ofNat p] rfl (Bs.new1 _ (UInt8.ofNat p) _ _ ?ab3) ?ab1 ?ab2 ?_)
                  case ab1 => rw [hol]; omega
                  case ab2 => simp; omega
                  case ab3 => rw [UInt8.toNat_ofNat']; omega
                  intro v' w9 hob9 hg9 _ _
                  have hX9 := (hX.alloc _).grown hg9 (Ne.symm (hX.notRow hob (by decide)))
                  have hP9 := (hP.alloc _).grown hg9 (Ne.symm (hP.notRow hob (by decide)))
                  have hov9 := (hov.alloc _).grown hg9 (rows_ne hov hob (by decide))
                  have hB9 := ((hob.alloc _).mono (base' := w.heap.size) (by omega)).grew (hB.alloc hB.size _) (Nat.le_refl _) hg9
                  rw [← hMB.out] at hob9
                  obtain ⟨A3, c3, rfl, _, _⟩ := hob9.slice
                  obtain ⟨y0, y1, y2, y3⟩ := hX9.two
                  have H2 := Lib.hid (byteStep hX9 hP9 hob9 hov9 hB9 hPl)
                  clear hX hP hov hB hX9 hP9 hov9 hB9 hob hob9 x0 x1 x2 x3
                  go_wp2
                  go_roundw
                  case rel => exact ⟨j + 1, I + 8, by omega, by have := HI.out; omega, by go_num, _, H2.out.1, H2.out.2.1, by have h3 := H2.out.2.2.1; first | exact h3 | (rw [HNB.out] at h3 ⊢; exact h3) | (rw [← HNB.out]; exact h3) | (rw [HNB.out] at h3; exact h3), H2.out.2.2.2.1, H2.out.2.2.2.2⟩
                  case measure => have := HNB.out; simp [intOf]; omega
            · have hjn : j = nb := by omega
              subst hjn
              obtain ⟨x0, x1, x2, x3⟩ := hX.two
              obtain ⟨p0, p1, p2, p3⟩ := hP.two
              obtain ⟨q0, q1, _, _⟩ := (hP.put (.int .i64 U) (.slice A2 j c2)).two
              have hB5 := below_set2 (R := w.heap.size) hB hB.size (Nat.le_refl _) (.int .i64 U) (.slice A2 j c2)
              have hM5 := hbs.put hP (NoB.str 0 none 0 0) (.int .i64 U) (.slice A2 j c2)
              have hR : Hid (ofR l = (U, ofB l j)) := by unfold Hid; rw [ofR_yes hF.out]; exact Prod.ext hE.out.1 hE.out.2
              clear hX hP hB hob hov
              go_wp2
              refine bodyPost_ret (v := .tuple #[.agg #[.int .i64 U, .slice A2 j c2], .bool true]) (by simp [results, Try.results25, go_sem, q0, q1]) rfl ?_
              rw [hR.out, hF.out]
              refine ⟨A2, c2, ?_, ?_, ?_, hB5⟩
              · rw [hol]
              · rw [hol]; exact hM5
              · rw [hol]; exact hc2
        · have d1 : ¬ (M : Int) % 8 = 0 := by omega
          have hst : Hid ((indB l (M + 1)).map intV = (indB l M).map intV ++ [intV 0]) := by unfold Hid; rw [indB_more (fun z hz => by have := hall.out z hz; omega), List.map_append]; rfl
          have hil2 : ((indB l (M + 1)).map intV).length = M + 1 := by rw [List.length_map, indB_len]
          generalize (indB l M).map intV = row at *
          go_wp2_with (at_builtin; (refine wpList_appendV rfl _ _ 38 rfl (w.heap.size + 1) 3 i0 (.int .i64 0) Try.underlying38 hi hz0 hz1 (by omega) rfl _ row rfl (hov.alloc _) _ _ _ [intV _] rfl (Vs.new1 _ _ 3) ?ab0 ?ab1 ?ab2 ?_))
          case ab0 => intro u hu; simp at hu; subst hu; rfl
          case ab1 => omega
          case ab2 => simp; omega
          intro v' w9 hov9 hg9 _ _
          have hne := (hX.alloc (.cells #[intV 0] 3)).notRow (hov.alloc (.cells #[intV 0] 3)) (by decide)
          have hnp := (hP.alloc (.cells #[intV 0] 3)).notRow (hov.alloc (.cells #[intV 0] 3)) (by decide)
          have hX9 := (hX.alloc _).grown hg9 (Ne.symm hne)
          have hP9 := (hP.alloc _).grown hg9 (Ne.symm hnp)
          have hB9 := ((hov.alloc _).mono (base' := w.heap.size) (by omega)).grew (hB.alloc hB.size _) (Nat.le_refl _) hg9
          rw [← hst.out] at hov9
          obtain ⟨A2, c2, rfl, _, _⟩ := hov9.slice
          obtain ⟨x0, x1, x2, x3⟩ := hX9.two
          have H2 := Lib.hid (padStep hX9 hP9 hov9 hB9 hPl)
          clear hX hP hov hB hX9 hP9 hov9 hB9
          go_wp2
          go_roundw
          case rel => exact ⟨M + 1, by omega, by omega, H2.out.1, H2.out.2.1, H2.out.2.2.1, H2.out.2.2.2⟩
          case measure => simp [rowLen, hil2]; omega

end Go.Proofs.Ytjcddbcokiaehaa
