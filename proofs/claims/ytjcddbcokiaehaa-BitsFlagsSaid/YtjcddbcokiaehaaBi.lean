/-
  The contracts of layer 5's reference: All, Right, Bits.
-/
import Derived.Test.YtjcddbcokiaehaaBa
namespace Go.Proofs.Ytjcddbcokiaehaa
open Go.RowKit
set_option linter.unusedVariables false
set_option linter.unusedSimpArgs false
set_option maxRecDepth 4000

theorem int_info : (Try.prog.info? 3).map (fun i => (i.zero, i.size, i.bytes)) = some (some (.int .i64 0), 1, 8) := by kernel_rfl

theorem bts_take_succ {z : Int} {j : Nat} (h : j < 8) : (bts z).take (j + 1) = (bts z).take j ++ [bt8 z j] := by
  unfold bts
  rw [← List.map_take, ← List.map_take, List.take_range, List.take_range, Nat.min_eq_left (by omega), Nat.min_eq_left (by omega), List.range_succ, List.map_append]
  rfl
theorem bts_all (z : Int) : (bts z).take 8 = bts z := List.take_of_length_le (by rw [bts_len]; omega)
theorem allB_take_succ {l : List UInt8} {k : Nat} (h : k < l.length) : allB (l.take (k + 1)) = allB (l.take k) ++ bts (nth l k) := by
  rw [List.take_succ_eq_append_getElem h, allB_append]
  congr 1
  simp [allB, nth, List.getD, List.getElem?_eq_getElem h]
theorem allB_take_len (l : List UInt8) (k : Nat) : (allB (l.take k)).length ≤ 8 * l.length := by
  rw [allB_len, List.length_take]; omega

/-- k, halved j times. -/
def hv (j : Nat) : Int := if j = 8 then 0 else 2 ^ (7 - j)
/-- What a maker of ints hands back. -/
def NewZ (w : World) (l : List Int) (e : Ending) (w' : World) : Prop := ∃ v, e = .returned v ∧ Ov w' w.heap.size 3 v (l.map intV) ∧ Below w.heap.size w w'

set_option maxHeartbeats 3200000 in
theorem refAll (A : Option Addr) (n c : Nat) (l : List UInt8) (w : World) (h : Bs w A n l) (hn : n ≤ 1099511) :
    Calls Try.prog 42 #[.slice A n c] w (NewZ w (allB l)) := by
  obtain ⟨i0, hi, hz0, hz1, hz2⟩ := info_parts int_info
  have hl := Lib.hid h.len
  go_enter Try.func42, Try.ntmps42
  go_wp2
  go_loopw [3, 4] (fun v i wr => ∃ k : Nat, k ≤ n ∧ i = .int .i64 (k : Int) ∧ Ov wr w.heap.size 3 v ((allB (l.take k)).map intV) ∧ Below w.heap.size w wr) (fun _ i _ => n - (intOf i).toNat)
  case atStart => exact ⟨0, Nat.zero_le _, rfl, by simpa [allB] using Ov.nil w w.heap.size 3, Below.refl _ _⟩
  case round =>
    obtain ⟨k, hk, rfl, hov, hB⟩ := hrel
    by_cases hlt : k < n
    · obtain ⟨b, o, rfl, hc⟩ := (h.below hB).at_ hlt
      have hz := nth_bound l k
      have hst : Hid (allB (l.take (k + 1)) = allB (l.take k) ++ bts (nth l k)) := allB_take_succ (by have := hl.out; omega)
      have hpl : (allB (l.take k)).length ≤ 8 * n := by have := allB_take_len l k; have := hl.out; omega
      generalize allB (l.take k) = pre at *
      generalize nth l k = z at *
      have hlt' : (k : Int) < n := by omega
      go_wp2
      go_loopw [3, 6] (fun v i wr => ∃ j : Nat, j ≤ 8 ∧ i = .int .i64 (hv j) ∧ Ov wr w.heap.size 3 v ((pre ++ (bts z).take j).map intV) ∧ Below w.heap.size w wr) (fun _ i _ => (intOf i).toNat)
      case atStart => exact ⟨0, by omega, rfl, by simpa using hov, hB⟩
      case round =>
        clear hov hB hc
        obtain ⟨j, hj, rfl, hov, hB⟩ := hrel
        obtain ⟨A1, c1, rfl, hc1, _⟩ := hov.slice
        by_cases hj8 : j < 8
        · have hcat : Hid ((pre ++ (bts z).take j).map intV ++ [intV (bt8 z j)] = (pre ++ (bts z).take (j + 1)).map intV) := by
            unfold Hid; rw [bts_take_succ hj8, ← List.append_assoc, List.map_append (l₂ := [bt8 z j])]; rfl
          have hlen : ((pre ++ (bts z).take j).map intV).length ≤ 1099511627 := by
            rw [List.length_map, List.length_append, List.length_take, bts_len]; omega
          have hsz := hB.size
          generalize (pre ++ (bts z).take j).map intV = row at *
          rcases t8 hj8 with rfl | rfl | rfl | rfl | rfl | rfl | rfl | rfl
          all_goals
            first | rw [show hv 0 = (128 : Int) from rfl] | rw [show hv 1 = (64 : Int) from rfl] | rw [show hv 2 = (32 : Int) from rfl] | rw [show hv 3 = (16 : Int) from rfl] | rw [show hv 4 = (8 : Int) from rfl] | rw [show hv 5 = (4 : Int) from rfl] | rw [show hv 6 = (2 : Int) from rfl] | rw [show hv 7 = (1 : Int) from rfl]
            go_wp2_with (at_builtin; (refine wpList_appendV rfl _ _ 38 rfl w.heap.size 3 i0 (.int .i64 0) Try.underlying38 hi hz0 hz1 (by omega) rfl _ row rfl (hov.alloc _) _ _ _ [intV _] rfl (Vs.new1 wr _ 3) ?ab0 ?ab1 ?ab2 ?_))
            case ab0 => intro u hu; simp at hu; subst hu; rfl
            case ab1 => omega
            case ab2 => simp; omega
            intro v' w9 hov9 hg9 _ _
            have hbel1 := (hov.alloc _).grew (hB.alloc hsz _) (Nat.le_refl _) hg9
            go_wp2
            go_roundw
            case rel => first | exact ⟨0 + 1, by omega, rfl, by rw [← hcat.out]; exact hov9, hbel1⟩ | exact ⟨1 + 1, by omega, rfl, by rw [← hcat.out]; exact hov9, hbel1⟩ | exact ⟨2 + 1, by omega, rfl, by rw [← hcat.out]; exact hov9, hbel1⟩ | exact ⟨3 + 1, by omega, rfl, by rw [← hcat.out]; exact hov9, hbel1⟩ | exact ⟨4 + 1, by omega, rfl, by rw [← hcat.out]; exact hov9, hbel1⟩ | exact ⟨5 + 1, by omega, rfl, by rw [← hcat.out]; exact hov9, hbel1⟩ | exact ⟨6 + 1, by omega, rfl, by rw [← hcat.out]; exact hov9, hbel1⟩ | exact ⟨7 + 1, by omega, rfl, by rw [← hcat.out, show bt8 z 7 = z % 2 by simp [bt8]]; exact hov9, hbel1⟩
            case measure => simp [intOf]
        · have hj9 : j = 8 := by omega
          subst hj9
          rw [show hv 8 = (0 : Int) from rfl]
          rw [bts_all, ← hst.out] at hov ⊢
          go_wp2
          go_roundw
          case rel => exact ⟨k + 1, by omega, by go_num, hov, hB⟩
          case measure => simp [intOf]; omega
    · have hkn : Hid (allB (l.take k) = allB l) := by unfold Hid; rw [List.take_of_length_le (by have := hl.out; omega)]
      rw [hkn.out] at hov
      go_wp2
      go_ret
      exact ⟨_, rfl, hov, hB⟩


theorem lastOne {l : List UInt8} (h : l.length ≠ 0) : l.drop (l.length - 1) = [l.getD (l.length - 1) 0] := by
  rw [drop_cons (by omega), drop_end (by omega)]
theorem allB_last {l : List UInt8} (h : l.length ≠ 0) : allB (l.drop (l.length - 1)) = bts (lastN l : Int) := by
  rw [lastOne h, allB_cons]
  simp [allB, lastN, nthN]

/-- s[k:]. -/
theorem cutB (A : Option Addr) (n c k : Nat) (hk : k ≤ n) (hc : n ≤ c) : ∃ A', (∀ (W : World), (Instr.slice 22 (.slice A n c) (some (.int .i64 (k : Int))) none none).run Try.prog W = .ok (.slice A' (n - k) (c - k)) W) ∧
    ∀ (W : World) (l : List UInt8), Bs W A n l → Bs W A' (n - k) (l.drop k) := by
  by_cases h : k = c
  · subst h
    have : n = k := by omega
    subst this
    refine ⟨A, fun W => ?_, fun W l hb => ?_⟩
    · go_simp
      try (cases A <;> simp [sliced])
    · have := hb.len
      rw [List.drop_eq_nil_of_le (by omega), Nat.sub_self]
      exact Bs.nil _ _
  · refine ⟨Option.map (fun x => x.add k) A, fun W => ?_, fun W l hb => ?_⟩
    · go_simp
      have : ¬ c = k := fun e => h e.symm
      cases A <;> simp [sliced, h, this, Nat.sub_eq_zero_iff_le] <;> omega
    · have := hb.cut (i := k) (j := n) hk (Nat.le_refl _)
      rw [List.take_of_length_le (by have := hb.len; simp; omega)] at this
      exact this

theorem zth_bts {z : Int} {j : Nat} (h : j < 8) : zth (bts z) j = bt8 z j := by
  unfold zth bts
  rw [List.getD_eq_getElem?_getD, List.getElem?_map, List.getElem?_range h]
  rfl

set_option maxHeartbeats 3200000 in
theorem rf5Right (u : Int) (A : Option Addr) (n c : Nat) (l : List UInt8) (w : World) (h : Bs w A n l) (hc : n ≤ c) (hn : n ≤ 1099511) :
    Calls Try.prog 11 #[.agg #[.int .i64 u, .slice A n c]] w fun e w' => e = .returned (.bool (rightS u l)) ∧ Below w.heap.size w w' := by
  have hl := Lib.hid h.len
  by_cases h0 : n = 0
  · subst h0
    have hr := Lib.hid (rightS_nil (u := u) hl.out)
    go_enter Try.func11, Try.ntmps11
    go_wp2
    go_ret
    exact ⟨by rw [hr.out]; rfl, below_alloc1 _ _⟩
  · have hr := Lib.hid (rightS_cons (u := u) (l := l) (by rw [hl.out]; exact h0))
    have g0 : 0 < n := by omega
    have e0 : ((n : Int) == 0) = false := by simp; omega
    by_cases h1 : u < 0
    · have hF : Hid (rightS u l = false) := by unfold Hid; rw [hr.out]; simp; omega
      have d1 : decide (u < 0) = true := by simpa using h1
      go_enter Try.func11, Try.ntmps11
      go_wp2
      go_ret
      exact ⟨by rw [hF.out]; rfl, below_alloc1 _ _⟩
    · by_cases h2 : 7 < u
      · have hF : Hid (rightS u l = false) := by unfold Hid; rw [hr.out]; simp; omega
        have d1 : decide (u < 0) = false := by simpa using h1
        have d2 : decide (7 < u) = true := by simpa using h2
        go_enter Try.func11, Try.ntmps11
        go_wp2
        go_ret
        exact ⟨by rw [hF.out]; rfl, below_alloc1 _ _⟩
      · have d1 : decide (u < 0) = false := by simpa using h1
        have d2 : decide (7 < u) = false := by simpa using h2
        have hF : Hid (rightS u l = (lastN l % 2 ^ u.toNat == 0)) := by
          unfold Hid; rw [hr.out, decide_eq_true (show 0 ≤ u by omega), decide_eq_true (show u < 8 by omega)]; simp
        have hlz := low_zero (nthN_lt l (l.length - 1)) (u := u.toNat) (by omega)
        have HLZ : Hid (lastN l % 2 ^ u.toNat = 0 ↔ ∀ t, t < 8 → 8 - u.toNat ≤ t → bitN (lastN l) t = 0) := hlz
        obtain ⟨A', hrun, hbs⟩ := cutB A n c (n - 1) (by omega) hc
        have hcast : ((n - 1 : Nat) : Int) = (n : Int) - 1 := by omega
        rw [hcast] at hrun
        have hO := Own2.new w (.int .i64 u) (.slice A n c) 24
        have hA := refAll A' (n - (n - 1)) (c - (n - 1)) (l.drop (n - 1)) (w.alloc (.cells #[.int .i64 u, .slice A n c] 24)) ((hbs w l h).below (below_alloc1 _ _)) (by omega)
        have hlast : allB (l.drop (n - 1)) = bts (lastN l : Int) := by have := allB_last (l := l) (by rw [hl.out]; exact h0); rw [hl.out] at this; exact this
        rw [hlast] at hA
        have u0 : 0 ≤ u := by omega
        have u7 : u ≤ 7 := by omega
        clear h1 h2 hr h hbs hlz hcast hlast
        go_enter Try.func11, Try.ntmps11
        go_wp2_with fail
        refine hA.mono ?_
        rintro e w1 ⟨v, rfl, hov, hb⟩
        have hB : Below w.heap.size w w1 := (below_alloc1 _ _).trans (Below.mono hb (by simp))
        obtain ⟨o0, o1, _, _⟩ := hO.below hb
        obtain ⟨A1, c1, rfl, hc1, hvs⟩ := hov.slice
        have hzs : Zs w1 A1 8 (bts (lastN l : Int)) := by have := hvs; rw [List.length_map, bts_len] at this; exact this
        rw [List.length_map, bts_len]
        rw [List.length_map, bts_len] at hc1
        clear hO hA hb hov hvs
        go_wp2
        go_loopw [4] (fun i wr => ∃ k : Nat, 8 - u.toNat ≤ k ∧ k ≤ 8 ∧ i = .int .i64 (k : Int) ∧ wr = w1 ∧ Hid (∀ t, t < k → 8 - u.toNat ≤ t → bitN (lastN l) t = 0)) (fun i _ => 8 - (intOf i).toNat)
        case atStart => exact ⟨8 - u.toNat, Nat.le_refl _, by omega, by simp; omega, rfl, fun t h1 h2 => by omega⟩
        case round =>
          obtain ⟨k, hk0, hk8, rfl, rfl, hall⟩ := hrel
          by_cases hk : k < 8
          · obtain ⟨b, o, rfl, hcell⟩ := hzs.at_ hk
            rw [zth_bts hk, bt8_cast] at hcell
            have k1 : (k : Int) < 8 := by omega
            by_cases hz : bitN (lastN l) k = 0
            · rw [hz] at hcell
              go_wp2
              go_roundw
              case rel => exact ⟨k + 1, by omega, by omega, by go_num, by first | rfl | trivial, fun t h1 h2 => by
                by_cases e : t = k
                · rw [e]; exact hz
                · exact hall.out t (by omega) h2⟩
              case measure => simp [intOf]; omega
            · have h1 : bitN (lastN l) k = 1 := by have := bitN_le (lastN l) k; omega
              have hno : Hid ((lastN l % 2 ^ u.toNat == 0) = false) := by
                unfold Hid
                rw [beq_eq_false_iff_ne]
                exact fun e => hz (HLZ.out.1 e k hk hk0)
              rw [h1] at hcell
              go_wp2
              go_ret
              exact ⟨by rw [hF.out, hno.out]; rfl, hB⟩
          · have hk9 : k = 8 := by omega
            subst hk9
            have hyes : Hid ((lastN l % 2 ^ u.toNat == 0) = true) := by
              unfold Hid; rw [beq_iff_eq]
              exact HLZ.out.2 fun t h1 h2 => hall.out t h1 h2
            go_wp2
            go_ret
            exact ⟨by rw [hF.out, hyes.out]; rfl, hB⟩

set_option maxHeartbeats 1600000 in
theorem rf5Bits (u : Int) (A : Option Addr) (n c : Nat) (l : List UInt8) (w : World) (h : Bs w A n l) (hn : n ≤ 1099511) (hr : rightS u l = true) :
    Calls Try.prog 18 #[.agg #[.int .i64 u, .slice A n c]] w fun e w' => ∃ A' c', e = .returned (.slice A' (lenS u l) c') ∧ lenS u l ≤ c' ∧ Zs w' A' (lenS u l) (bitsS u l) ∧ Below w.heap.size w w' := by
  obtain ⟨u0, u8, hz, _⟩ := right_u hr
  have hl := Lib.hid h.len
  have hO := Own2.new w (.int .i64 u) (.slice A n c) 24
  have hA := refAll A n c l (w.alloc (.cells #[.int .i64 u, .slice A n c] 24)) (h.below (below_alloc1 _ _)) hn
  have hle : u ≤ 8 * (n : Int) := by
    have := hl.out
    by_cases hq : l.length = 0
    · have := hz hq; omega
    · omega
  have hF : Hid ((lenS u l : Int) = 8 * (n : Int) - u) := by have := hl.out; unfold Hid lenS; omega
  clear hz
  go_enter Try.func18, Try.ntmps18
  go_wp2_with fail
  refine hA.mono ?_
  rintro e w1 ⟨v, rfl, hov, hb⟩
  have hB : Below w.heap.size w w1 := (below_alloc1 _ _).trans (Below.mono hb (by simp))
  obtain ⟨o0, o1, _, _⟩ := hO.below hb
  obtain ⟨A1, c1, rfl, hc1, hvs⟩ := hov.slice
  have hzs : Zs w1 A1 (8 * n) (allB l) := by have := hvs; rw [List.length_map, allB_len, hl.out] at this; exact this
  rw [List.length_map, allB_len, hl.out]
  rw [List.length_map, allB_len, hl.out] at hc1
  have htk := hzs.take (m := lenS u l) (by have := hF.out; omega)
  have hcut : (0 : Int) ≤ 8 * (n : Int) - u := by omega
  have hcut2 : 8 * (n : Int) - u ≤ c1 := by omega
  have hnat : Hid ((8 * (n : Int) - u).toNat = lenS u l) := by have := hF.out; unfold Hid; omega
  have hm8 : ((8 * n : Nat) : Int) = 8 * (n : Int) := by omega
  clear hO hA hb hov hvs hzs
  go_wp2
  go_ret
  exact ⟨A1, c1, by rw [← hnat.out]; rfl, by have := hF.out; omega, htk, hB⟩

set_option maxHeartbeats 1600000 in
theorem rf5Contents (u : Int) (A : Option Addr) (n c : Nat) (l : List UInt8) (w : World) (h : Bs w A n l) (hn : n ≤ 1099511) (hr : rightS u l = true) :
    Calls Try.prog 19 #[.agg #[.int .i64 u, .slice A n c]] w (NewBs w (contS u l)) := by
  obtain ⟨i0, hi, hz0, hz1, hz2⟩ := info_parts u8_info
  obtain ⟨u0, u8, hz, _⟩ := right_u hr
  have hl := Lib.hid h.len
  have hu : Hid (u = ((UInt8.ofNat u.toNat).toNat : Int)) := by unfold Hid; rw [UInt8.toNat_ofNat']; omega
  have hcs : Hid (contS u l = [UInt8.ofNat u.toNat] ++ l) := rfl
  have hH := h.below (below_alloc2 w (.cells #[.int .i64 u, .slice A n c] 24) (.cells #[.int .u8 u] 5))
  have hO := (Own2.new w (.int .i64 u) (.slice A n c) 24).below (below_alloc1 _ (.cells #[.int .u8 u] 5))
  obtain ⟨o0, o1, _, _⟩ := hO
  have hob : Ob ((w.alloc (.cells #[.int .i64 u, .slice A n c] 24)).alloc (.cells #[.int .u8 u] 5)) w.heap.size 5 (.slice (some ⟨w.heap.size + 1, 0, none⟩) 1 1) [UInt8.ofNat u.toNat] := by
    have := World.ownsRow_lit (base := w.heap.size) (e := 5) (size := 1) (w.alloc (.cells #[.int .i64 u, .slice A n c] 24)) #[.int .u8 u] 1 (by simp) (by unfold maxLen; omega) (by simp)
    unfold Ob
    simp only [List.map_cons, List.map_nil, List.length_cons, List.length_nil, byteV, ← hu.out]
    simpa using this
  clear hz
  go_enter Try.func19, Try.ntmps19
  go_wp2_with (at_builtin; refine wpList_appendB rfl _ _ 22 rfl w.heap.size 5 i0 (.int .u8 0) Try.underlying22 hi hz0 hz1 hz2 rfl _ [UInt8.ofNat u.toNat] rfl hob _ _ _ l rfl hH ?ab1 ?ab2 ?_)
  case ab1 => simp; omega
  case ab2 => simp; omega
  intro v' w1 hown hgrow hnil hblk
  have hb := hob.grew (below_alloc2 w _ _) (Nat.le_refl _) hgrow
  obtain ⟨A', c', rfl, hc', hbs⟩ := Ob.slice hown
  go_wp2
  go_ret
  rw [hcs.out]
  exact ⟨A', _, c', rfl, hown, hb⟩

set_option maxHeartbeats 1600000 in
theorem rf5Same (u v : Int) (A B : Option Addr) (n m c d : Nat) (a b : List UInt8) (w : World) (ha : Bs w A n a) (hb : Bs w B m b) :
    Calls Try.prog 23 #[.agg #[.int .i64 u, .slice A n c], .agg #[.int .i64 v, .slice B m d]] w fun e w' => e = .returned (.bool (decide ((u, a) = (v, b)))) ∧ Below w.heap.size w w' := by
  have k1 := fun (W : World) (A : Option Addr) (n c : Nat) (l : List UInt8) (h : Bs W A n l) => h.convert (P := Try.prog) c 22 9 5 Try.underlying22 Try.underlying5 Try.underlying9
  have c1 := k1 ((w.alloc (.cells #[.int .i64 u, .slice A n c] 24)).alloc (.cells #[.int .i64 v, .slice B m d] 24)) A n c a (ha.below (below_alloc2 _ _ _))
  have c2 := k1 ((w.alloc (.cells #[.int .i64 u, .slice A n c] 24)).alloc (.cells #[.int .i64 v, .slice B m d] 24)) B m d b (hb.below (below_alloc2 _ _ _))
  clear k1
  by_cases he : u = v
  · subst he
    have e1 : (u == u) = true := by simp
    go_enter Try.func23, Try.ntmps23
    go_wp2
    go_ret
    refine ⟨?_, below_alloc2 _ _ _⟩
    have : (a == b) = decide ((u, a) = (u, b)) := by
      by_cases hab : a = b
      · subst hab; simp
      · simp [hab]
    rw [← this]
    rfl
  · have e1 : (u == v) = false := by simpa using he
    have hF : Hid (decide ((u, a) = (v, b)) = false) := decide_eq_false fun e => he (by cases e; rfl)
    go_enter Try.func23, Try.ntmps23
    go_wp2
    go_ret
    exact ⟨by rw [hF.out]; rfl, below_alloc2 _ _ _⟩

end Go.Proofs.Ytjcddbcokiaehaa
