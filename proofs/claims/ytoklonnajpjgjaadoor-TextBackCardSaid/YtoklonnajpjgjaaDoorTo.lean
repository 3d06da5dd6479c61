/-
  The contract of the reference's Signs.
-/
import Derived.Test.YtoklonnajpjgjaaDoorTn
import Derived.Deep.RegionLaw
namespace Go.Proofs.YtoklonnajpjgjaaDoor
open Go.RowKit Go.Shelf
set_option linter.unusedVariables false
set_option linter.unusedSimpArgs false
set_option maxRecDepth 4000

theorem runes_single (k : Int) (h12 : k ≠ 12) (h30 : k ≠ 30) (l : List UInt8) : runesT k l = l.map (fun b => (b.toNat : Int)) := by
  induction l with
  | nil => rw [runesT_nil]; rfl
  | cons b t ih =>
    have hd : decT k (b :: t) = ((b.toNat : Int), 1) := by simp [decT, h12, h30, nth]
    rw [runesT_step k _ (by simp), hd]
    simp [ih]
theorem single_snoc (l : List UInt8) {q : Nat} (h : q < l.length) : (l.take (q + 1)).map (fun b => (b.toNat : Int)) = (l.take q).map (fun b => (b.toNat : Int)) ++ [nth l q] := by
  rw [List.take_add_one, List.map_append, List.getElem?_eq_getElem h]; simp [nth, List.getD, List.getElem?_eq_getElem h]
theorem dec30 (l : List UInt8) (h : 2 ≤ l.length) : decT 30 l = (256 * nth l 0 + nth l 1, 2) := by
  have : decT 30 l = if l.length < 2 then (-1, l.length) else (256 * nth l 0 + nth l 1, 2) := by simp [decT]
  rw [this, if_neg (by omega)]
theorem runes30p (l : List UInt8) (p : Nat) (h : p + 2 ≤ l.length) : runesT 30 (l.drop p) = (256 * nth l p + nth l (p + 1)) :: runesT 30 (l.drop (p + 2)) := by
  have hne : l.drop p ≠ [] := by intro e; have := congrArg List.length e; simp at this; omega
  rw [runesT_step 30 _ hne, dec30 _ (by simp; omega), List.drop_drop, nth_drop, nth_drop, Nat.add_zero]
theorem Ov.drewA {w : World} {base : Nat} {e : TypeId} {v : Value} {l : List Value} (h : Ov w base e v l) : Ov w.drew base e v l := h
theorem odd30 : ∀ (n : Nat) (l : List UInt8), l.length = 2 * n + 1 → -1 ∈ runesT 30 l
  | 0, l, h => by
    have hne : l ≠ [] := by intro e; subst e; simp at h
    rw [runesT_step 30 _ hne]
    have : decT 30 l = (-1, l.length) := by
      have : decT 30 l = if l.length < 2 then (-1, l.length) else (256 * nth l 0 + nth l 1, 2) := by simp [decT]
      rw [this, if_pos (by omega)]
    rw [this]; simp
  | n + 1, l, h => by
    have hne : l ≠ [] := by intro e; subst e; simp at h
    rw [runesT_step 30 _ hne, dec30 l (by omega)]
    exact List.mem_cons_of_mem _ (odd30 n _ (by simp; omega))
theorem odd_not {l : List UInt8} {n : Nat} (h : l.length = 2 * n + 1) : rightT 30 l = false := by
  unfold rightT
  rw [Bool.and_eq_false_iff]; right
  rw [List.all_eq_false]
  exact ⟨-1, odd30 n l h, by rw [hasT_neg]; simp⟩
theorem right_all {k : Int} (hk : isK k = true) (l : List UInt8) : rightT k l = (runesT k l).all (hasT k) := by unfold rightT; rw [hk, Bool.true_and]

set_option maxHeartbeats 1600000 in
theorem ref6SignsNo (k : Int) (A : Option Addr) (m c : Nat) (l : List UInt8) (w : World) (hk : isK k = false) :
    Calls Tryd.prog 13 #[.agg #[.int .i64 k, .slice A m c]] w (SgR k l w) := by
  have hK := ref6Kind k (w.alloc (.cells #[.int .i64 k, .slice A m c] 24))
  rw [hk] at hK
  have hr : rightT k l = false := by unfold rightT; rw [hk]; rfl
  have hHr := Lib.hid hr
  obtain ⟨o0, o1, _, _⟩ := (Blk.new2 w (.int .i64 k) (.slice A m c) 24).two
  clear hr
  go_enter Tryd.func13, Tryd.ntmps13
  go_wp2_with fail
  refine hK.mono ?_
  rintro e w1 ⟨rfl, rfl⟩
  go_wp2
  go_ret2
  exact ⟨fun hx => tf hHr.out hx, fun _ => rfl, below_alloc1 _ _⟩

set_option maxHeartbeats 1600000 in
theorem ref6Signs12 (A : Option Addr) (m c : Nat) (l : List UInt8) (w : World) (h : Bs w A m l) (hm : m ≤ 1000000) :
    Calls Tryd.prog 13 #[.agg #[.int .i64 12, .slice A m c]] w (SgR 12 l w) := by
  have hb0 := below_alloc1 w (.cells #[.int .i64 12, .slice A m c] 24)
  have hK := ref6Kind 12 (w.alloc (.cells #[.int .i64 12, .slice A m c] 24))
  rw [show isK 12 = true from rfl] at hK
  have hW := ref6Wide A m c l _ (h.below hb0) hm
  obtain ⟨o0, o1, _, _⟩ := (Blk.new2 w (.int .i64 12) (.slice A m c) 24).two
  go_enter Tryd.func13, Tryd.ntmps13
  go_wp2_with fail
  refine hK.mono ?_
  rintro e w1 ⟨rfl, rfl⟩
  go_wp2_with fail
  refine hW.mono ?_
  rintro e w2 ⟨hy, hn, hb⟩
  have hB : Below w.heap.size w w2 := hb0.trans (Below.mono hb (by simp))
  cases hr : rightT 12 l
  · obtain rfl := hn hr
    clear hy hn
    go_wp2
    go_ret2
    exact ⟨fun hx => tf hr hx, fun _ => rfl, hB⟩
  · obtain ⟨v, rfl, hov⟩ := hy hr
    have hov2 := Ov.mono hov (base' := w.heap.size) (by simp)
    clear hy hn hov
    go_wp2
    go_ret2
    exact ⟨fun _ => ⟨_, rfl, hov2⟩, fun hx => tf hx hr, hB⟩


set_option maxHeartbeats 3200000 in
theorem ref6SignsS (k : Int) (hk : isK k = true) (h12 : k ≠ 12) (h30 : k ≠ 30) (A : Option Addr) (m c : Nat) (l : List UInt8) (w : World) (h : Bs w A m l) (hm : m ≤ 1000000) :
    Calls Tryd.prog 13 #[.agg #[.int .i64 k, .slice A m c]] w (SgR k l w) := by
  obtain ⟨i0, hi, hz0, hz1, hz2⟩ := info_parts int_info6
  have hHl := Lib.hid h.len
  have hb0 := below_alloc1 w (.cells #[.int .i64 k, .slice A m c] 24)
  have hK := ref6Kind k (w.alloc (.cells #[.int .i64 k, .slice A m c] 24))
  rw [hk] at hK
  have hMay := Lib.hid (fun n W => ref6May k n W hk)
  have hO := Blk.new2 w (.int .i64 k) (.slice A m c) 24
  obtain ⟨o0, o1, _, _⟩ := hO.two
  have b12 : (k == 12) = false := by simpa using h12
  have b30 : (k == 30) = false := by simpa using h30
  have hrs := Lib.hid (runes_single k h12 h30 l)
  clear h12 h30
  go_enter Tryd.func13, Tryd.ntmps13
  go_wp2_with fail
  refine hK.mono ?_
  rintro e w1 ⟨rfl, rfl⟩
  generalize hw1 : w.alloc (.cells #[.int .i64 k, .slice A m c] 24) = w1 at *
  clear hw1 hK
  go_wp2
  go_loopw [4, 6] (fun v i wr => ∃ q : Nat, q ≤ m ∧ i = .int .i64 (q : Int) ∧ Ov wr w.heap.size 3 v (((l.take q).map (fun b => (b.toNat : Int))).map intV) ∧ Blk wr w.heap.size 24 [.int .i64 k, .slice A m c] ∧ Below w.heap.size w wr) (fun v i _ => m - (intOf i).toNat)
  case atStart => exact ⟨0, Nat.zero_le _, rfl, World.ownsRow_nil _ _ _ _, hO, hb0⟩
  case round =>
    obtain ⟨q, hq, rfl, hov, hO1, hB⟩ := hrel
    have hsz := hB.size
    obtain ⟨p0, p1, _, _⟩ := hO1.two
    by_cases hlt : q < m
    · have i1 : (q : Int) < m := by omega
      have d1 : decide (q < m) = true := by simp; omega
      obtain ⟨b, o, rfl, c0⟩ := (h.below hB).at_ hlt
      have hql : q < l.length := by have := hHl.out; omega
      have hsn := Lib.hid (single_snoc l hql)
      have hx := nth_bound l q
      have hwr : IntKind.i64.wrap (nth l q) = nth l q := wrap_small _ (by omega) (by omega)
      have hlen : ((l.take q).map (fun b => (b.toNat : Int))).length ≤ 1000000 := by simp; omega
      generalize nth l q = x at *
      generalize (l.take q).map (fun b => (b.toNat : Int)) = L at *
      go_wp2_with (at_builtin; refine wpList_appendV rfl _ _ 28 rfl w.heap.size 3 i0 (.int .i64 0) Tryd.underlying28 hi hz0 hz1 (by omega) rfl _ (L.map intV) rfl (Ov.alloc hov _) _ _ _ [intV x] rfl (Vs.new1 wr _ 3) ?ab0 ?ab1 ?ab2 ?_)
      case ab0 => first | (intro u hu; rw [List.mem_singleton.1 hu]; rfl) | rfl | (simp [intV, Value.oneCell'])
      case ab1 => first | omega | (simp; omega)
      case ab2 => first | omega | (simp; omega)
      intro v' w2 hown hg _ _
      have hB2 : Below w.heap.size w w2 := Ov.grew (Ov.alloc hov _) (hB.alloc hsz _) (Nat.le_refl _) hg
      have hO2 : Blk w2 w.heap.size 24 [.int .i64 k, .slice (some ⟨b, o, none⟩) m c] := (hg.block _ (by have := hO1.lt; simp; omega) (fun e => (hO1.notRow hov (by decide)) e.symm)).trans (hO1.alloc _)
      clear hov c0 hg hO1 p0 p1
      go_wp2
      go_roundw
      case rel => exact ⟨q + 1, by omega, by go_num, by rw [hsn.out, List.map_append]; exact hown, hO2, hB2⟩
      case measure => simp [intOf]; omega
    · obtain rfl : q = m := by omega
      have hHL : Hid ((l.take q).map (fun b => (b.toNat : Int)) = runesT k l) := Lib.hid (by rw [hrs.out, List.take_of_length_le (by have := hHl.out; omega)])
      generalize (l.take q).map (fun b => (b.toNat : Int)) = L at *
      have i1 : ¬ (q : Int) < q := by omega
      clear hlt
      obtain ⟨A1, c1, rfl, hc1, hvs⟩ := hov.slice
      have hz : Zs wr A1 L.length L := by unfold Zs; rw [List.length_map] at hvs; exact hvs
      rw [List.length_map] at hov ⊢
      have hLm : L.length ≤ 1000000 := by have e := congrArg List.length hHL.out; have := runesT_length k l; have := hHl.out; omega
      clear hvs
      go_wp2
      go_loopw [7] (fun i wr3 => ∃ q : Nat, q ≤ L.length ∧ i = .int .i64 (q : Int) ∧ Hid (∀ z ∈ L.take q, hasT k z = true) ∧ Qt wr wr3) (fun i _ => L.length - (intOf i).toNat)
      case atStart => exact ⟨0, Nat.zero_le _, rfl, Lib.hid (by simp), Qt.refl _⟩
      case round =>
        rename World => w3
        obtain ⟨q, hq, rfl, hall, hqt⟩ := hrel
        obtain ⟨nn, rfl⟩ := hqt
        obtain ⟨o0, o1, _, _⟩ := hO1.two
        by_cases hql : q < L.length
        · have i2 : (q : Int) < L.length := by omega
          have d2 : decide (q < L.length) = true := by simp; omega
          obtain ⟨b2, o2, rfl, cz⟩ := hz.at_ hql
          have hmem : Hid (zth L q ∈ L) := Lib.hid (by simp [zth, List.getD, List.getElem?_eq_getElem hql])
          have htk : Hid (∀ z ∈ L.take (q + 1), z ∈ L.take q ∨ z = zth L q) := Lib.hid (by
            intro z hz'
            rw [List.take_add_one, List.getElem?_eq_getElem hql] at hz'
            rcases List.mem_append.1 hz' with h1 | h1
            · exact .inl h1
            · right; simp at h1; rw [h1]; simp [zth, List.getD, List.getElem?_eq_getElem hql])
          generalize zth L q = z at *
          have hM := Lib.hid (fun W => hMay.out z W)
          cases hb : hasT k z
          · have hfalse : Hid (rightT k l = false) := Lib.hid (by
              rw [right_all hk, List.all_eq_false]
              exact ⟨z, by rw [← hHL.out]; exact hmem.out, by rw [hb]; simp⟩)
            rw [hb] at hM
            clear hb
            go_wp2
            go_quiet ((go_at_call 37; exact (hM.out _).mono (fun e w2 h => ⟨h.1, _, h.2⟩)))
            go_wp2
            go_ret2
            exact ⟨fun hx => tf hfalse.out hx, fun _ => rfl, below_drewN (below_drewN hB _) _⟩
          · rw [hb] at hM
            have hHb := Lib.hid hb
            clear hb
            go_wp2
            go_quiet ((go_at_call 37; exact (hM.out _).mono (fun e w2 h => ⟨h.1, _, h.2⟩)))
            go_wp2
            go_roundw
            case rel =>
              refine ⟨q + 1, by omega, by go_num, Lib.hid fun y hy => ?_, by first | exact (Qt.of _ _).drewN _ | exact Qt.of _ _⟩
              rcases htk.out y hy with h1 | h1
              · exact hall.out y h1
              · rw [h1]; exact hHb.out
            case measure => simp [intOf]; omega
        · obtain rfl : q = L.length := by omega
          have hr : Hid (rightT k l = true) := Lib.hid (by
            rw [right_all hk, ← hHL.out, List.all_eq_true]; intro y hy; exact hall.out y (by rw [List.take_length]; exact hy))
          have hov2 : Ov (wr.drewN nn) w.heap.size 3 (.slice A1 L.length c1) (L.map intV) := hov
          clear hall hMay
          go_wp2
          go_ret2
          exact ⟨fun _ => ⟨_, rfl, by rw [← hHL.out]; exact hov2⟩, fun hx => tf hx hr.out, below_drewN hB _⟩

set_option maxHeartbeats 3200000 in
theorem ref6Signs30 (A : Option Addr) (m c : Nat) (l : List UInt8) (w : World) (h : Bs w A m l) (hm : m ≤ 1000000) :
    Calls Tryd.prog 13 #[.agg #[.int .i64 30, .slice A m c]] w (SgR 30 l w) := by
  obtain ⟨i0, hi, hz0, hz1, hz2⟩ := info_parts int_info6
  have hHl := Lib.hid h.len
  have hb0 := below_alloc1 w (.cells #[.int .i64 30, .slice A m c] 24)
  have hK := ref6Kind 30 (w.alloc (.cells #[.int .i64 30, .slice A m c] 24))
  rw [show isK 30 = true from rfl] at hK
  have hMay := Lib.hid (fun n W => ref6May 30 n W rfl)
  have hO := Blk.new2 w (.int .i64 30) (.slice A m c) 24
  obtain ⟨o0, o1, _, _⟩ := hO.two
  go_enter Tryd.func13, Tryd.ntmps13
  go_wp2_with fail
  refine hK.mono ?_
  rintro e w1 ⟨rfl, rfl⟩
  generalize hw1 : w.alloc (.cells #[.int .i64 30, .slice A m c] 24) = w1 at *
  clear hw1 hK
  by_cases hodd : m % 2 = 1
  · have hr : Hid (rightT 30 l = false) := Lib.hid (odd_not (n := m / 2) (by have := hHl.out; omega))
    have t1 : (m : Int).tmod 2 = 1 := by rw [Int.tmod_eq_emod_of_nonneg (by omega)]; omega
    clear hodd hm
    go_wp2
    go_ret2
    exact ⟨fun hx => tf hr.out hx, fun _ => rfl, hb0⟩
  have t1 : (m : Int).tmod 2 = 0 := by rw [Int.tmod_eq_emod_of_nonneg (by omega)]; omega
  have hev := Lib.hid hodd
  clear hodd
  go_wp2
  go_loopw [4, 5] (fun v i wr => ∃ (p : Nat) (L : List Int), p ≤ m ∧ Hid (p % 2 = 0) ∧ i = .int .i64 (p : Int) ∧ Hid (L ++ runesT 30 (l.drop p) = runesT 30 l) ∧ L.length ≤ p ∧ Ov wr w.heap.size 3 v (L.map intV) ∧ Blk wr w.heap.size 24 [.int .i64 30, .slice A m c] ∧ Below w.heap.size w wr) (fun v i _ => m - (intOf i).toNat)
  case atStart => exact ⟨0, [], Nat.zero_le _, Lib.hid rfl, rfl, Lib.hid (by simp), Nat.le_refl _, World.ownsRow_nil _ _ _ _, hO, hb0⟩
  case round =>
    obtain ⟨p, L, hp, hpe, rfl, hLo, hLp, hov, hO1, hB⟩ := hrel
    have hsz := hB.size
    obtain ⟨p0, p1, _, _⟩ := hO1.two
    by_cases hlt : p < m
    · have hp2 : p + 1 < m := by have := hev.out; have := hpe.out; omega
      have i1 : (p : Int) < m := by omega
      have i2 : (p : Int) + 1 < m := by omega
      have d1 : decide (p < m) = true := by simp; omega
      have d2 : decide (p + 1 < m) = true := by simp; omega
      have hw3 : IntKind.i64.wrap ((p : Int) + 1) = (p : Int) + 1 := wrap_small _ (by omega) (by omega)
      have ht3 : ((p : Int) + 1).toNat = p + 1 := by omega
      have h03 : 0 ≤ (p : Int) + 1 := by omega
      have h04 : ¬ (p : Int) + 1 < 0 := by omega
      obtain ⟨b, o, rfl, c0⟩ := (h.below hB).at_ hlt
      obtain ⟨b', o', e', c1⟩ := (h.below hB).at_ hp2
      cases e'
      have hsn := Lib.hid (runes30p l p (by have := hHl.out; omega))
      have hx := nth_bound l p
      have hy := nth_bound l (p + 1)
      have hwr : IntKind.i64.wrap (nth l p) = nth l p := wrap_small _ (by omega) (by omega)
      have hwr2 : IntKind.i64.wrap (nth l (p + 1)) = nth l (p + 1) := wrap_small _ (by omega) (by omega)
      generalize nth l p = x at *
      generalize nth l (p + 1) = y at *
      have hx0 := hx.1
      have hx1 := hx.2
      have hy0 := hy.1
      have hy1 := hy.2
      have hw5 : IntKind.i64.wrap (256 * x) = 256 * x := wrap_small _ (by omega) (by omega)
      have hw6 : IntKind.i64.wrap (256 * x + y) = 256 * x + y := wrap_small _ (by omega) (by omega)
      clear hx hy
      go_wp2
      go_region_law ((refine step_appendV (by rfl) _ _ 28 (by rfl) w.heap.size 3 i0 (.int .i64 0) Tryd.underlying28 hi hz0 hz1 (by omega) rfl _ (L.map intV) (by rfl) (Ov.drewA (Ov.alloc hov _)) _ _ _ [intV (256 * x + y)] (by rfl) (Vs.drew (Vs.new1 wr _ 3)) (by first | (intro u hu; rw [List.mem_singleton.1 hu]; rfl) | rfl | (simp [intV, Value.oneCell'])) (by first | omega | (simp; omega)) (by first | omega | (simp; omega)) ?_; intro v' w2 hown hg _ _; obtain ⟨A9, c9, rfl, _, _⟩ := hown.slice))
      all_goals
        have hB2 : Below w.heap.size w w2 := Ov.grew (Ov.drewA (Ov.alloc hov (.cells #[.int .i64 (256 * x + y)] 3))) (by have := hB.alloc hsz (.cells #[.int .i64 (256 * x + y)] 3); exact ⟨this.os, this.tape, this.output, this.size, this.block⟩) (Nat.le_refl _) hg
        have hO2 : Blk w2 w.heap.size 24 [.int .i64 30, .slice (some ⟨b, o, none⟩) m c] := (hg.block _ (by have := hO1.lt; simp; omega) (fun e => (hO1.notRow hov (by decide)) e.symm)).trans (hO1.alloc _)
        have hown6 : Ov w2 w.heap.size 3 (.slice A9 (L.length + 1) c9) ((L ++ [256 * x + y]).map intV) := by
          rw [List.map_append]
          have e : (L.map intV ++ [intV (256 * x + y)]).length = L.length + 1 := by simp
          rw [e] at hown
          exact hown
        clear hov c0 c1 hg hO1 p0 p1
        go_wp2
        go_roundw
        case rel => exact ⟨p + 2, L ++ [256 * x + y], by omega, Lib.hid (by have := hpe.out; omega), by go_num, Lib.hid (by rw [← hLo.out, hsn.out]; simp), by simp; omega, (show Ov w2 w.heap.size 3 (.slice A9 (L.length + 1) c9) ((L ++ [256 * x + y]).map intV) from hown6), hO2, hB2⟩
        case measure => simp [intOf]; omega
    · obtain rfl : p = m := by omega
      have hHL : Hid (L = runesT 30 l) := Lib.hid (by rw [← hLo.out, List.drop_eq_nil_of_le (by have := hHl.out; omega), runesT_nil, List.append_nil])
      have i1 : ¬ (p : Int) < p := by omega
      clear hlt hLo
      obtain ⟨A1, c1, rfl, hc1, hvs⟩ := hov.slice
      have hz : Zs wr A1 L.length L := by unfold Zs; rw [List.length_map] at hvs; exact hvs
      rw [List.length_map] at hov ⊢
      have hLm : L.length ≤ 1000000 := by have e := congrArg List.length hHL.out; have := runesT_length 30 l; have := hHl.out; omega
      clear hvs
      go_wp2
      go_loopw [7] (fun i wr3 => ∃ q : Nat, q ≤ L.length ∧ i = .int .i64 (q : Int) ∧ Hid (∀ z ∈ L.take q, hasT 30 z = true) ∧ Qt wr wr3) (fun i _ => L.length - (intOf i).toNat)
      case atStart => exact ⟨0, Nat.zero_le _, rfl, Lib.hid (by simp), Qt.refl _⟩
      case round =>
        rename World => w3
        obtain ⟨q, hq, rfl, hall, hqt⟩ := hrel
        obtain ⟨nn, rfl⟩ := hqt
        obtain ⟨o0, o1, _, _⟩ := hO1.two
        by_cases hql : q < L.length
        · have i2 : (q : Int) < L.length := by omega
          have d2 : decide (q < L.length) = true := by simp; omega
          obtain ⟨b2, o2, rfl, cz⟩ := hz.at_ hql
          have hmem : Hid (zth L q ∈ L) := Lib.hid (by simp [zth, List.getD, List.getElem?_eq_getElem hql])
          have htk : Hid (∀ z ∈ L.take (q + 1), z ∈ L.take q ∨ z = zth L q) := Lib.hid (by
            intro z hz'
            rw [List.take_add_one, List.getElem?_eq_getElem hql] at hz'
            rcases List.mem_append.1 hz' with h1 | h1
            · exact .inl h1
            · right; simp at h1; rw [h1]; simp [zth, List.getD, List.getElem?_eq_getElem hql])
          generalize zth L q = z at *
          have hM := Lib.hid (fun W => hMay.out z W)
          cases hb : hasT 30 z
          · have hfalse : Hid (rightT 30 l = false) := Lib.hid (by
              rw [right_all (k := 30) rfl, List.all_eq_false]
              exact ⟨z, by rw [← hHL.out]; exact hmem.out, by rw [hb]; simp⟩)
            rw [hb] at hM
            clear hb
            go_wp2
            go_quiet ((go_at_call 37; exact (hM.out _).mono (fun e w2 h => ⟨h.1, _, h.2⟩)))
            go_wp2
            go_ret2
            exact ⟨fun hx => tf hfalse.out hx, fun _ => rfl, below_drewN (below_drewN hB _) _⟩
          · rw [hb] at hM
            have hHb := Lib.hid hb
            clear hb
            go_wp2
            go_quiet ((go_at_call 37; exact (hM.out _).mono (fun e w2 h => ⟨h.1, _, h.2⟩)))
            go_wp2
            go_roundw
            case rel =>
              refine ⟨q + 1, by omega, by go_num, Lib.hid fun y hy => ?_, by first | exact (Qt.of _ _).drewN _ | exact Qt.of _ _⟩
              rcases htk.out y hy with h1 | h1
              · exact hall.out y h1
              · rw [h1]; exact hHb.out
            case measure => simp [intOf]; omega
        · obtain rfl : q = L.length := by omega
          have hr : Hid (rightT 30 l = true) := Lib.hid (by
            rw [right_all (k := 30) rfl, ← hHL.out, List.all_eq_true]; intro y hy; exact hall.out y (by rw [List.take_length]; exact hy))
          have hov2 : Ov (wr.drewN nn) w.heap.size 3 (.slice A1 L.length c1) (L.map intV) := hov
          clear hall hMay
          go_wp2
          go_ret2
          exact ⟨fun _ => ⟨_, rfl, by rw [← hHL.out]; exact hov2⟩, fun hx => tf hx hr.out, below_drewN hB _⟩

theorem ref6Signs (k : Int) (A : Option Addr) (m c : Nat) (l : List UInt8) (w : World) (h : Bs w A m l) (hm : m ≤ 1000000) :
    Calls Tryd.prog 13 #[.agg #[.int .i64 k, .slice A m c]] w (SgR k l w) := by
  cases hk : isK k
  · exact ref6SignsNo k A m c l w hk
  · by_cases h12 : k = 12
    · subst h12; exact ref6Signs12 A m c l w h hm
    · by_cases h30 : k = 30
      · subst h30; exact ref6Signs30 A m c l w h hm
      · exact ref6SignsS k hk h12 h30 A m c l w h hm
end Go.Proofs.YtoklonnajpjgjaaDoor
