/-
  The contract of layer 3's reference: Add.
-/
import Derived.Test.YtbjiknfebocepaaDoorWc
import Derived.Test.YtbjiknfebocepaaDoorR3b
import Derived.Test.YtbjiknfebocepaaDoorDig
namespace Go.Proofs.YtbjiknfebocepaaDoor
open Go.RowKit Go.Joins
set_option linter.unusedVariables false
set_option linter.unusedSimpArgs false
set_option maxRecDepth 4000

theorem blk2A {w : World} {g : Nat} {t : TypeId} {a b : Value} (h : Blk w g t [a, b]) : w.cell? ⟨g, 0, none⟩ = some a ∧ w.cell? ⟨g, 1, none⟩ = some b ∧ w.frozen? ⟨g, 0, none⟩ = false ∧ w.frozen? ⟨g, 1, none⟩ = false :=
  ⟨h.cell 0, h.cell 1, h.free 0, h.free 1⟩
theorem int_infoA : (Tryd.prog.info? 3).map (fun i => (i.zero, i.size, i.bytes)) = some (some (.int .i64 0), 1, 8) := by kernel_rfl
theorem made_ints (n : Nat) : madeCells #[.int .i64 0] n = (rowF n (fun _ => 0)).toArray := by
  rw [rowF_zero]
  apply Array.ext
  · simp [size_madeCells]
  · intro i h1 h2
    simp [madeCells, Nat.mod_one]
theorem run_makeI {P : Program} (t e : TypeId) (i : TypeInfo) (ht : P.underlying t = some (.slice e)) (hi : P.info? e = some i) (hz : i.zero = some (.int .i64 0))
    (hsize : i.size = 1) (hby : i.bytes = 8) (n : Nat) (hx : n ≤ 109951162777) (W : World) :
    (Instr.makeSlice t (.int .i64 (n : Int)) (.int .i64 (n : Int))).run P W = .ok (.slice (some ⟨W.heap.size, 0, none⟩) n n) (W.alloc (.cells (rowF n (fun _ => 0)).toArray e)) := by
  have := run_make (P := P) W t e i _ ht hi hz .i64 .i64 (n : Int) (n : Int) (by omega) (Int.le_refl _) (by rw [hby]; omega) (by omega)
  rw [hsize, Nat.mul_one] at this
  rw [← made_ints]
  have h2 : (Instr.makeSlice t (.int .i64 (n : Int)) (.int .i64 (n : Int))).run P W = .ok (.slice (some ⟨W.heap.size, 0, none⟩) n n) (W.alloc (.cells (madeCells (Value.int .i64 0).cells n) e)) := by simpa using this
  exact h2

set_option maxHeartbeats 25600000 in
theorem ref3Add (x y : Nm) (u v : Value) (w : World) (hx : NumV w x u) (hy : NumV w y v) (hn : x.size.length ≤ 900000) (hm : y.size.length ≤ 900000) :
    Calls Tryd.prog 30 #[u, v] w fun e w' => ∃ (s : Nm) (u' : Value), e = .returned u' ∧ NumV w' s u' ∧ s.ok ∧ s.z = x.z + y.z ∧ s.size.length ≤ max x.size.length y.size.length + 1 ∧ Below w.heap.size w w' := by
  obtain ⟨ui, hui, huz0, huz1, huz2⟩ := info_parts u8_info
  obtain ⟨ii, hii, hiz0, hiz1, hiz2⟩ := info_parts int_infoA
  obtain ⟨A, c, rfl, hb, hc⟩ := hx
  obtain ⟨A', c', rfl, hb', hc'⟩ := hy
  obtain ⟨xb, a⟩ := x
  obtain ⟨yb, b⟩ := y
  simp only at hb hc hn hb' hc' hm ⊢
  generalize hma : a.length = na at *
  generalize hmb : b.length = nb at *
  have HA := Lib.hid hma; clear hma
  have HB := Lib.hid hmb; clear hmb
  have hX : NumV w ⟨xb, a⟩ (.agg #[.bool xb, .slice A na c]) := NumV.mk' xb hb hc
  have hY : NumV w ⟨yb, b⟩ (.agg #[.bool yb, .slice A' nb c']) := NumV.mk' yb hb' hc'
  have hT := Three.start w 24 (.bool xb) (.slice A na c) (.bool yb) (.slice A' nb c') (.bool false) (.slice none 0 0)
  go_enter Tryd.func30, Tryd.ntmps30
  go_wp2
  generalize (((w.alloc (Obj.cells #[Value.bool xb, Value.slice A na c] 24)).alloc (Obj.cells #[Value.bool yb, Value.slice A' nb c'] 24)).alloc (Obj.cells #[Value.bool false, Value.slice none 0 0] 24)) = W0 at *
  generalize hR : w.heap.size = R at *
  have HR := Lib.hid hR; clear hR
  have KX : Hid (∀ W, Three w 24 R [.bool xb, .slice A na c] [.bool yb, .slice A' nb c'] [.bool false, .slice none 0 0] W → NumV W ⟨xb, a⟩ (.agg #[.bool xb, .slice A na c]) ∧ NumV W ⟨yb, b⟩ (.agg #[.bool yb, .slice A' nb c'])) :=
    fun W h => ⟨hX.frame h.2.2.2.1, hY.frame h.2.2.2.1⟩
  have CEL : Hid (∀ W, Three w 24 R [.bool xb, .slice A na c] [.bool yb, .slice A' nb c'] [.bool false, .slice none 0 0] W → W.cell? ⟨R, 0, none⟩ = some (.bool xb) ∧ W.cell? ⟨R, 1, none⟩ = some (.slice A na c) ∧ W.cell? ⟨R + 1, 0, none⟩ = some (.bool yb) ∧ W.cell? ⟨R + 1, 1, none⟩ = some (.slice A' nb c') ∧ W.frozen? ⟨R, 0, none⟩ = false ∧ W.frozen? ⟨R, 1, none⟩ = false ∧ W.frozen? ⟨R + 1, 0, none⟩ = false ∧ W.frozen? ⟨R + 1, 1, none⟩ = false) :=
    fun W h => ⟨h.1.cell 0, h.1.cell 1, h.2.1.cell 0, h.2.1.cell 1, h.1.free 0, h.1.free 1, h.2.1.free 0, h.2.1.free 1⟩
  obtain ⟨x0, hx0⟩ : ∃ x0, Nm.mk0 ⟨xb, a⟩ = x0 := ⟨_, rfl⟩
  obtain ⟨y0, hy0⟩ : ∃ y0, Nm.mk0 ⟨yb, b⟩ = y0 := ⟨_, rfl⟩
  have PX : Hid (∀ W, Three w 24 R [.bool xb, .slice A na c] [.bool yb, .slice A' nb c'] [.bool false, .slice none 0 0] W → Calls Tryd.prog 26 #[.agg #[.bool xb, .slice A na c]] W fun e w' => ∃ A1 c1, e = .returned (.agg #[.bool x0.below, .slice A1 x0.size.length c1]) ∧ Bs w' A1 x0.size.length x0.size ∧ x0.size.length ≤ c1 ∧ Three w 24 R [.bool xb, .slice A na c] [.bool yb, .slice A' nb c'] [.bool false, .slice none 0 0] w' ∧ Below W.heap.size W w') := by
    intro W h
    refine (ref3Made ⟨xb, a⟩ _ W (KX.out W h).1 (by have := HA.out; simp; omega)).mono ?_
    rintro e w' ⟨v1, rfl, ⟨A1, c1, rfl, hs, hc⟩, hb⟩
    rw [hx0] at hs hc ⊢
    exact ⟨A1, c1, rfl, hs, hc, h.frame hb, hb⟩
  have PY : Hid (∀ W, Three w 24 R [.bool xb, .slice A na c] [.bool yb, .slice A' nb c'] [.bool false, .slice none 0 0] W → Calls Tryd.prog 26 #[.agg #[.bool yb, .slice A' nb c']] W fun e w' => ∃ A1 c1, e = .returned (.agg #[.bool y0.below, .slice A1 y0.size.length c1]) ∧ Bs w' A1 y0.size.length y0.size ∧ y0.size.length ≤ c1 ∧ Three w 24 R [.bool xb, .slice A na c] [.bool yb, .slice A' nb c'] [.bool false, .slice none 0 0] w' ∧ Below W.heap.size W w') := by
    intro W h
    refine (ref3Made ⟨yb, b⟩ _ W (KX.out W h).2 (by have := HB.out; simp; omega)).mono ?_
    rintro e w' ⟨v1, rfl, ⟨A1, c1, rfl, hs, hc⟩, hb⟩
    rw [hy0] at hs hc ⊢
    exact ⟨A1, c1, rfl, hs, hc, h.frame hb, hb⟩
  have hT' : Three w 24 R [.bool xb, .slice A na c] [.bool yb, .slice A' nb c'] [.bool false, .slice none 0 0] W0.drew := ⟨hT.1, hT.2.1, hT.2.2.1, hT.2.2.2.1.drew, hT.2.2.2.2⟩
  obtain ⟨c00, c01, c10, c11, f00, f01, f10, f11⟩ := CEL.out _ hT
  go_cut [] from 5 (fun wc => ∃ A1 c1 A2 c2, Bs wc A1 x0.size.length x0.size ∧ x0.size.length ≤ c1 ∧ Bs wc A2 y0.size.length y0.size ∧ y0.size.length ≤ c2 ∧ Three w 24 R [.bool x0.below, .slice A1 x0.size.length c1] [.bool y0.below, .slice A2 y0.size.length c2] [.bool false, .slice none 0 0] wc)
  case first =>
    go_region_with (first
      | (go_at_call_of 26 (Value.agg #[Value.bool xb, Value.slice A na c]); refine (PX.out _ ?_).mono ?_; assumption; rintro e w1 ⟨A1, c1, rfl, hs1, hc1, hT1, hb1⟩; obtain ⟨c00, c01, c10, c11, f00, f01, f10, f11⟩ := CEL.out _ hT1)
      | (go_at_call_of 26 (Value.agg #[Value.bool yb, Value.slice A' nb c']); refine (PY.out _ ?_).mono ?_; assumption; rintro e w2 ⟨A2, c2, rfl, hs2, hc2, hT2, hb2⟩; obtain ⟨c00, c01, c10, c11, f00, f01, f10, f11⟩ := CEL.out _ hT2))

    all_goals
      go_wp2_with fail
      go_meet
      first
        | exact ⟨A1, c1, A2, c2, Three.putBs hT2 (by simp) (by simp) (by simp) (by simp) (hs1.below hb2), hc1, Three.putBs hT2 (by simp) (by simp) (by simp) (by simp) hs2, hc2, hT2.put rfl rfl⟩
        | exact ⟨A1, c1, A2, c2, Three.putBs hT1 (by simp) (by simp) (by simp) (by simp) hs1, hc1, Three.putBs hT1 (by simp) (by simp) (by simp) (by simp) (hs2.below hb1), hc2, hT1.put rfl rfl⟩
  case rest =>
  obtain ⟨A1, c1, A2, c2, hs1, hc1, hs2, hc2, hT2⟩ := hcut
  have hok1 : x0.ok := by rw [← hx0]; exact Nm.mk0_ok _
  have hok2 : y0.ok := by rw [← hy0]; exact Nm.mk0_ok _
  have hz1 : Hid (x0.z = Nm.z ⟨xb, a⟩) := by rw [← hx0]; exact Nm.mk0_z _
  have hz2 : Hid (y0.z = Nm.z ⟨yb, b⟩) := by rw [← hy0]; exact Nm.mk0_z _
  have hl1 : x0.size.length ≤ na := by rw [← hx0, ← HA.out]; exact Nm.mk0_len _
  have hl2 : y0.size.length ≤ nb := by rw [← hy0, ← HB.out]; exact Nm.mk0_len _
  have GOAL : Hid (∀ (s : Nm) (u' : Value) (w' : World), NumV w' s u' → s.ok → s.z = x0.z + y0.z → s.size.length ≤ max x0.size.length y0.size.length + 1 → Below w.heap.size w w' → ∃ (s : Nm) (u'' : Value), Ending.returned u' = .returned u'' ∧ NumV w' s u'' ∧ s.ok ∧ s.z = Nm.z ⟨xb, a⟩ + Nm.z ⟨yb, b⟩ ∧ s.size.length ≤ max na nb + 1 ∧ Below w.heap.size w w') := by
    intro s u' w' k1 k2 k3 k4 k5
    refine ⟨s, u', rfl, k1, k2, ?_, ?_, k5⟩
    · rw [k3, hz1.out, hz2.out]
    · have := Nat.max_le.2 ⟨Nat.le_trans hl1 (Nat.le_max_left na nb), Nat.le_trans hl2 (Nat.le_max_right na nb)⟩
      omega
  clear hx0 hy0 hX hY hT hT' KX CEL PX PY hz1 hz2 hb hc hb' hc' HA HB hok1 hok2 c00 c01 c10 c11 f00 f01 f10 f11
  rename World => Wc
  have hRlt : R + 2 < Wc.heap.size := hT2.2.2.1.lt
  have FR : Hid (∀ W, Below Wc.heap.size Wc W → (W.cell? ⟨R, 0, none⟩ = some (.bool x0.below) ∧ W.cell? ⟨R, 1, none⟩ = some (.slice A1 x0.size.length c1) ∧ W.cell? ⟨R + 1, 0, none⟩ = some (.bool y0.below) ∧ W.cell? ⟨R + 1, 1, none⟩ = some (.slice A2 y0.size.length c2)) ∧ Bs W A1 x0.size.length x0.size ∧ Bs W A2 y0.size.length y0.size ∧ Three w 24 R [.bool x0.below, .slice A1 x0.size.length c1] [.bool y0.below, .slice A2 y0.size.length c2] [.bool false, .slice none 0 0] W) :=
    fun W h => ⟨⟨(hT2.frame h).1.cell 0, (hT2.frame h).1.cell 1, (hT2.frame h).2.1.cell 0, (hT2.frame h).2.1.cell 1⟩, hs1.below h, hs2.below h, hT2.frame h⟩
  obtain ⟨⟨d0, d1, d2, d3⟩, _⟩ := FR.out _ (Below.refl _ _)
  have HC1 := Lib.hid hc1
  have HC2 := Lib.hid hc2
  clear hT2 hs1 hs2 hc1 hc2
  have hb1 : x0.size.length ≤ 900000 := by omega
  have hb2 : y0.size.length ≤ 900000 := by omega
  have SDX : Hid (∀ i k : Nat, i < x0.size.length → k = x0.size.length - 1 - i → pl x0.size i = nth x0.size k) := by
    intro i k h1 h2; unfold pl; rw [if_neg (by omega), h2]
  have SDY : Hid (∀ i k : Nat, i < y0.size.length → k = y0.size.length - 1 - i → pl y0.size i = nth y0.size k) := by
    intro i k h1 h2; unfold pl; rw [if_neg (by omega), h2]
  have SFX : Hid (∀ i, x0.size.length ≤ i → sd x0 i = 0) := fun i h => sd_far h
  have SFY : Hid (∀ i, y0.size.length ≤ i → sd y0 i = 0) := fun i h => sd_far h
  have SVX : Hid (∀ i, sd x0 i = if x0.below then -(pl x0.size i) else pl x0.size i) := fun i => rfl
  have SVY : Hid (∀ i, sd y0 i = if y0.below then -(pl y0.size i) else pl y0.size i) := fun i => rfl
  obtain ⟨N, hN⟩ : ∃ N, max x0.size.length y0.size.length + 1 = N := ⟨_, rfl⟩
  have HNX : Hid (x0.size.length + 1 ≤ N) := by unfold Hid; omega
  have HNY : Hid (y0.size.length + 1 ≤ N) := by unfold Hid; omega
  have hNb : N ≤ 900001 := by omega
  have HN := Lib.hid hN
  have hmk := fun W => run_makeI (P := Tryd.prog) 69 3 ii Tryd.underlying69 hii hiz0 hiz1 hiz2 N (by omega) W
  have hkd : Blk (Wc.alloc (.cells (rowF N (fun _ => 0)).toArray 3)) Wc.heap.size 3 (rowF N (fun _ => 0)) := Blk.new Wc _ _
  have hBd := below_alloc1 Wc (.cells (rowF N (fun _ => 0)).toArray 3)
  have hcs : (x0.size.length < y0.size.length ∧ (y0.size.length : Int) + 1 = (N : Int)) ∨ (¬ x0.size.length < y0.size.length ∧ (x0.size.length : Int) + 1 = (N : Int)) := by omega
  clear hN
  generalize hn1 : x0.size.length = n1 at *
  have HN1 := Lib.hid hn1
  clear hn1
  generalize hn2 : y0.size.length = n2 at *
  have HN2 := Lib.hid hn2
  clear hn2
  rcases hcs with ⟨q1, q2⟩ | ⟨q1, q2⟩
  · have q3 : (n1 : Int) < n2 := by omega
    go_upto_region 6 with (fail)
    try simp only [q2]
    clear q1 q2 q3
    go_upto_region 7 with (fail)
    generalize (Wc.alloc (Obj.cells (rowF N (fun _ => 0)).toArray 3)) = Wd at *
    clear hmk d0 d1 d2 d3
    generalize hgg : Wc.heap.size = g at *
    have HGG := Lib.hid hgg
    have HGB : Hid (∀ W, Below g Wc W → Below Wc.heap.size Wc W) := fun W hW => by rw [hgg]; exact hW
    clear hgg
    go_wp2
    go_loopw [7] (fun iv wr => ∃ (i : Nat) (f : Nat → Int), i ≤ N ∧ iv = .int .i64 (i : Int) ∧ Blk wr g 3 (rowF N f) ∧ Hid (∀ j, f j = if j < i then dd x0 y0 j else 0) ∧ Below g Wc wr ∧ g ≤ wr.heap.size) (fun iv _ => N - (intOf iv).toNat)
    case atStart => exact ⟨0, _, by omega, rfl, hkd, fun j => by simp, hBd, by have := hkd.lt; omega⟩
    case round =>
      clear hkd hBd
      obtain ⟨i, f, hi, rfl, hk, hf, hB, hg⟩ := hrel
      by_cases hiN : i < N
      · have t1 : (i : Int) < N := by omega
        obtain ⟨⟨r0, r1, r2, r3⟩, hs1, hs2, _⟩ := FR.out _ hB
        have hf0 : f i = 0 := by rw [hf.out]; exact if_neg (by omega)
        have hfc := hk.cell i
        rw [rowF_get f hiN, hf0] at hfc
        have hff := hk.free i
        by_cases h1 : i < n1
        · have t3 : (i : Int) < n1 := by omega
          obtain ⟨b1, o1, rfl, hc1'⟩ := hs1.at_ (k := n1 - 1 - i) (by omega)
          have hp1 := SDX.out i (n1 - 1 - i) h1 rfl
          have hbd1 := nth_bound x0.size (n1 - 1 - i)
          rw [← hp1] at hc1' hbd1
          have hv1 := SVX.out i
          clear hp1
          obtain ⟨X1, hX1⟩ : ∃ X1, pl x0.size i = X1 := ⟨_, rfl⟩
          rw [hX1] at hc1' hbd1 hv1
          obtain ⟨k1, hk1⟩ : ∃ k1, n1 - 1 - i = k1 := ⟨_, rfl⟩
          rw [hk1] at hc1'
          have u1 : (n1 : Int) - 1 - i = (k1 : Int) := by omega
          have u2 : k1 < n1 := by omega
          have u3 : (k1 : Int) < n1 := by omega
          clear hX1 hk1
          cases hp : x0.below with
          | false =>
            rw [hp] at r0
            have hV1 : Hid (sd x0 i = X1) := by unfold Hid; rw [hv1, hp]; simp
            have hset := hk.set i (.int .i64 (X1))
            rw [rowF_set _ _ hiN] at hset
            have hBs := Only.below ((Only.refl g wr).setCell (p := ⟨g, i, none⟩) rfl (.int .i64 (X1))) hB (Nat.le_refl _) hg
            have hgs : g ≤ (wr.setCell ⟨g, i, none⟩ (.int .i64 (X1))).heap.size := by simp [World.setCell]; exact hg
            clear hv1 hp
            go_upto_region 15 with (fail)
            generalize (wr.setCell ⟨g, i, none⟩ (.int .i64 (X1))) = wr2 at *
            clear hk hB hg r0 r1 r2 r3 hs1 hs2 hfc hff hc1' u1 u2 u3
            have hk := hset
            have hB := hBs
            have hg := hgs
            clear hset hBs hgs
            have hfx := hf
            obtain ⟨Z1, hZ1⟩ : ∃ Z1 : Int, X1 = Z1 := ⟨_, rfl⟩
            rw [hZ1] at hk hV1
            have hzb : -256 < Z1 ∧ Z1 < 256 := by omega
            clear hZ1
            obtain ⟨f2, hf2⟩ : ∃ f2 : Nat → Int, f2 = (fun j => if j = i then Z1 else f j) := ⟨_, rfl⟩
            rw [← hf2] at hk
            have hfi : Hid (f2 i = Z1) := by rw [hf2]; exact if_pos rfl
            have hfo : Hid (∀ j, j ≠ i → f2 j = f j) := fun j hj => by rw [hf2]; exact if_neg hj
            clear hf2
            obtain ⟨⟨r0, r1, r2, r3⟩, hs1, hs2, _⟩ := FR.out _ hB
            have hfc := hk.cell i
            rw [rowF_get f2 hiN, hfi.out] at hfc
            have hff := hk.free i
            by_cases h2 : i < n2
            · have t2 : (i : Int) < n2 := by omega
              obtain ⟨b2, o2, rfl, hc2'⟩ := hs2.at_ (k := n2 - 1 - i) (by omega)
              have hp2 := SDY.out i (n2 - 1 - i) h2 rfl
              have hbd2 := nth_bound y0.size (n2 - 1 - i)
              rw [← hp2] at hc2' hbd2
              have hv2 := SVY.out i
              clear hp2
              obtain ⟨X2, hX2⟩ : ∃ X2, pl y0.size i = X2 := ⟨_, rfl⟩
              rw [hX2] at hc2' hbd2 hv2
              obtain ⟨k2, hk2⟩ : ∃ k2, n2 - 1 - i = k2 := ⟨_, rfl⟩
              rw [hk2] at hc2'
              have u1 : (n2 : Int) - 1 - i = (k2 : Int) := by omega
              have u2 : k2 < n2 := by omega
              have u3 : (k2 : Int) < n2 := by omega
              clear hX2 hk2
              cases hp : y0.below with
              | false =>
                rw [hp] at r2
                have hv : sd y0 i = X2 := by rw [hv2, hp]; simp
                have hset := hk.set i (.int .i64 (Z1 + X2))
                rw [rowF_set _ _ hiN] at hset
                have hBs := Only.below ((Only.refl g wr2).setCell (p := ⟨g, i, none⟩) rfl (.int .i64 (Z1 + X2))) hB (Nat.le_refl _) hg
                have hFN : Hid (∀ j, (if j = i then (Z1 + X2) else f2 j) = if j < i + 1 then dd x0 y0 j else 0) := by
                  intro j
                  by_cases hj : j = i
                  · subst hj
                    rw [if_pos rfl, if_pos (by omega)]; unfold dd; rw [hv, hV1.out]
                  · rw [if_neg hj]
                    rw [hfo.out j hj]
                    have := hfx.out j
                    rw [this]
                    by_cases hji : j < i
                    · rw [if_pos hji, if_pos (by omega)]
                    · rw [if_neg hji, if_neg (by omega)]
                clear hv hv2 hp hfx hV1 hf hk
                go_wp2
                refine ⟨⟨i + 1, _, by omega, by go_num, hset, hFN, hBs, by show g ≤ (wr2.setCell _ _).heap.size; simp [World.setCell]; exact hg⟩, by simp [intOf]; omega⟩
              | true =>
                rw [hp] at r2
                have hv : sd y0 i = -X2 := by rw [hv2, hp]; simp
                have hset := hk.set i (.int .i64 (Z1 + -X2))
                rw [rowF_set _ _ hiN] at hset
                have hBs := Only.below ((Only.refl g wr2).setCell (p := ⟨g, i, none⟩) rfl (.int .i64 (Z1 + -X2))) hB (Nat.le_refl _) hg
                have hFN : Hid (∀ j, (if j = i then (Z1 + -X2) else f2 j) = if j < i + 1 then dd x0 y0 j else 0) := by
                  intro j
                  by_cases hj : j = i
                  · subst hj
                    rw [if_pos rfl, if_pos (by omega)]; unfold dd; rw [hv, hV1.out]
                  · rw [if_neg hj]
                    rw [hfo.out j hj]
                    have := hfx.out j
                    rw [this]
                    by_cases hji : j < i
                    · rw [if_pos hji, if_pos (by omega)]
                    · rw [if_neg hji, if_neg (by omega)]
                have wx : IntKind.i64.wrap (-X2) = -X2 := IntWalk.i64_in _ (by omega)
                clear hv hv2 hp hfx hV1 hf hk
                go_wp2
                refine ⟨⟨i + 1, _, by omega, by go_num, hset, hFN, hBs, by show g ≤ (wr2.setCell _ _).heap.size; simp [World.setCell]; exact hg⟩, by simp [intOf]; omega⟩
            · have t2 : ¬ (i : Int) < n2 := by omega
              have t2b : (n2 : Int) ≤ i := by omega
              have hv := SFY.out i (by omega)
              have hFN : Hid (∀ j, f2 j = if j < i + 1 then dd x0 y0 j else 0) := by
                intro j
                by_cases hj : j = i
                · subst hj
                  rw [hfi.out, if_pos (by omega)]; unfold dd; rw [hv, hV1.out]; omega
                · rw [hfo.out j hj, hfx.out j]
                  by_cases hji : j < i
                  · rw [if_pos hji, if_pos (by omega)]
                  · rw [if_neg hji, if_neg (by omega)]
              clear hv hfx hV1 hf
              go_wp2
              refine ⟨⟨i + 1, _, by omega, by go_num, hk, hFN, hB, hg⟩, by simp [intOf]; omega⟩
          | true =>
            rw [hp] at r0
            have hV1 : Hid (sd x0 i = -X1) := by unfold Hid; rw [hv1, hp]; simp
            have hset := hk.set i (.int .i64 (-X1))
            rw [rowF_set _ _ hiN] at hset
            have hBs := Only.below ((Only.refl g wr).setCell (p := ⟨g, i, none⟩) rfl (.int .i64 (-X1))) hB (Nat.le_refl _) hg
            have hgs : g ≤ (wr.setCell ⟨g, i, none⟩ (.int .i64 (-X1))).heap.size := by simp [World.setCell]; exact hg
            have wx : IntKind.i64.wrap (-X1) = -X1 := IntWalk.i64_in _ (by omega)
            clear hv1 hp
            go_upto_region 15 with (fail)
            generalize (wr.setCell ⟨g, i, none⟩ (.int .i64 (-X1))) = wr2 at *
            clear hk hB hg r0 r1 r2 r3 hs1 hs2 hfc hff hc1' u1 u2 u3
            clear wx
            have hk := hset
            have hB := hBs
            have hg := hgs
            clear hset hBs hgs
            have hfx := hf
            obtain ⟨Z1, hZ1⟩ : ∃ Z1 : Int, -X1 = Z1 := ⟨_, rfl⟩
            rw [hZ1] at hk hV1
            have hzb : -256 < Z1 ∧ Z1 < 256 := by omega
            clear hZ1
            obtain ⟨f2, hf2⟩ : ∃ f2 : Nat → Int, f2 = (fun j => if j = i then Z1 else f j) := ⟨_, rfl⟩
            rw [← hf2] at hk
            have hfi : Hid (f2 i = Z1) := by rw [hf2]; exact if_pos rfl
            have hfo : Hid (∀ j, j ≠ i → f2 j = f j) := fun j hj => by rw [hf2]; exact if_neg hj
            clear hf2
            obtain ⟨⟨r0, r1, r2, r3⟩, hs1, hs2, _⟩ := FR.out _ hB
            have hfc := hk.cell i
            rw [rowF_get f2 hiN, hfi.out] at hfc
            have hff := hk.free i
            by_cases h2 : i < n2
            · have t2 : (i : Int) < n2 := by omega
              obtain ⟨b2, o2, rfl, hc2'⟩ := hs2.at_ (k := n2 - 1 - i) (by omega)
              have hp2 := SDY.out i (n2 - 1 - i) h2 rfl
              have hbd2 := nth_bound y0.size (n2 - 1 - i)
              rw [← hp2] at hc2' hbd2
              have hv2 := SVY.out i
              clear hp2
              obtain ⟨X2, hX2⟩ : ∃ X2, pl y0.size i = X2 := ⟨_, rfl⟩
              rw [hX2] at hc2' hbd2 hv2
              obtain ⟨k2, hk2⟩ : ∃ k2, n2 - 1 - i = k2 := ⟨_, rfl⟩
              rw [hk2] at hc2'
              have u1 : (n2 : Int) - 1 - i = (k2 : Int) := by omega
              have u2 : k2 < n2 := by omega
              have u3 : (k2 : Int) < n2 := by omega
              clear hX2 hk2
              cases hp : y0.below with
              | false =>
                rw [hp] at r2
                have hv : sd y0 i = X2 := by rw [hv2, hp]; simp
                have hset := hk.set i (.int .i64 (Z1 + X2))
                rw [rowF_set _ _ hiN] at hset
                have hBs := Only.below ((Only.refl g wr2).setCell (p := ⟨g, i, none⟩) rfl (.int .i64 (Z1 + X2))) hB (Nat.le_refl _) hg
                have hFN : Hid (∀ j, (if j = i then (Z1 + X2) else f2 j) = if j < i + 1 then dd x0 y0 j else 0) := by
                  intro j
                  by_cases hj : j = i
                  · subst hj
                    rw [if_pos rfl, if_pos (by omega)]; unfold dd; rw [hv, hV1.out]
                  · rw [if_neg hj]
                    rw [hfo.out j hj]
                    have := hfx.out j
                    rw [this]
                    by_cases hji : j < i
                    · rw [if_pos hji, if_pos (by omega)]
                    · rw [if_neg hji, if_neg (by omega)]
                clear hv hv2 hp hfx hV1 hf hk
                go_wp2
                refine ⟨⟨i + 1, _, by omega, by go_num, hset, hFN, hBs, by show g ≤ (wr2.setCell _ _).heap.size; simp [World.setCell]; exact hg⟩, by simp [intOf]; omega⟩
              | true =>
                rw [hp] at r2
                have hv : sd y0 i = -X2 := by rw [hv2, hp]; simp
                have hset := hk.set i (.int .i64 (Z1 + -X2))
                rw [rowF_set _ _ hiN] at hset
                have hBs := Only.below ((Only.refl g wr2).setCell (p := ⟨g, i, none⟩) rfl (.int .i64 (Z1 + -X2))) hB (Nat.le_refl _) hg
                have hFN : Hid (∀ j, (if j = i then (Z1 + -X2) else f2 j) = if j < i + 1 then dd x0 y0 j else 0) := by
                  intro j
                  by_cases hj : j = i
                  · subst hj
                    rw [if_pos rfl, if_pos (by omega)]; unfold dd; rw [hv, hV1.out]
                  · rw [if_neg hj]
                    rw [hfo.out j hj]
                    have := hfx.out j
                    rw [this]
                    by_cases hji : j < i
                    · rw [if_pos hji, if_pos (by omega)]
                    · rw [if_neg hji, if_neg (by omega)]
                have wx : IntKind.i64.wrap (-X2) = -X2 := IntWalk.i64_in _ (by omega)
                clear hv hv2 hp hfx hV1 hf hk
                go_wp2
                refine ⟨⟨i + 1, _, by omega, by go_num, hset, hFN, hBs, by show g ≤ (wr2.setCell _ _).heap.size; simp [World.setCell]; exact hg⟩, by simp [intOf]; omega⟩
            · have t2 : ¬ (i : Int) < n2 := by omega
              have t2b : (n2 : Int) ≤ i := by omega
              have hv := SFY.out i (by omega)
              have hFN : Hid (∀ j, f2 j = if j < i + 1 then dd x0 y0 j else 0) := by
                intro j
                by_cases hj : j = i
                · subst hj
                  rw [hfi.out, if_pos (by omega)]; unfold dd; rw [hv, hV1.out]; omega
                · rw [hfo.out j hj, hfx.out j]
                  by_cases hji : j < i
                  · rw [if_pos hji, if_pos (by omega)]
                  · rw [if_neg hji, if_neg (by omega)]
              clear hv hfx hV1 hf
              go_wp2
              refine ⟨⟨i + 1, _, by omega, by go_num, hk, hFN, hB, hg⟩, by simp [intOf]; omega⟩
        · have t3 : ¬ (i : Int) < n1 := by omega
          have t3b : (n1 : Int) ≤ i := by omega
          have hV1 : Hid (sd x0 i = 0) := SFX.out i (by omega)
          have hfx := hf
          by_cases h2 : i < n2
          · have t2 : (i : Int) < n2 := by omega
            obtain ⟨b2, o2, rfl, hc2'⟩ := hs2.at_ (k := n2 - 1 - i) (by omega)
            have hp2 := SDY.out i (n2 - 1 - i) h2 rfl
            have hbd2 := nth_bound y0.size (n2 - 1 - i)
            rw [← hp2] at hc2' hbd2
            have hv2 := SVY.out i
            clear hp2
            obtain ⟨X2, hX2⟩ : ∃ X2, pl y0.size i = X2 := ⟨_, rfl⟩
            rw [hX2] at hc2' hbd2 hv2
            obtain ⟨k2, hk2⟩ : ∃ k2, n2 - 1 - i = k2 := ⟨_, rfl⟩
            rw [hk2] at hc2'
            have u1 : (n2 : Int) - 1 - i = (k2 : Int) := by omega
            have u2 : k2 < n2 := by omega
            have u3 : (k2 : Int) < n2 := by omega
            clear hX2 hk2
            cases hp : y0.below with
            | false =>
              rw [hp] at r2
              have hv : sd y0 i = X2 := by rw [hv2, hp]; simp
              have hset := hk.set i (.int .i64 (X2))
              rw [rowF_set _ _ hiN] at hset
              have hBs := Only.below ((Only.refl g wr).setCell (p := ⟨g, i, none⟩) rfl (.int .i64 (X2))) hB (Nat.le_refl _) hg
              have hFN : Hid (∀ j, (if j = i then (X2) else f j) = if j < i + 1 then dd x0 y0 j else 0) := by
                intro j
                by_cases hj : j = i
                · subst hj
                  rw [if_pos rfl, if_pos (by omega)]; unfold dd; rw [hv, hV1.out] <;> omega
                · rw [if_neg hj]
                  have := hfx.out j
                  rw [this]
                  by_cases hji : j < i
                  · rw [if_pos hji, if_pos (by omega)]
                  · rw [if_neg hji, if_neg (by omega)]
              clear hv hv2 hp hfx hV1 hf hk
              go_wp2
              refine ⟨⟨i + 1, _, by omega, by go_num, hset, hFN, hBs, by show g ≤ (wr.setCell _ _).heap.size; simp [World.setCell]; exact hg⟩, by simp [intOf]; omega⟩
            | true =>
              rw [hp] at r2
              have hv : sd y0 i = -X2 := by rw [hv2, hp]; simp
              have hset := hk.set i (.int .i64 (-X2))
              rw [rowF_set _ _ hiN] at hset
              have hBs := Only.below ((Only.refl g wr).setCell (p := ⟨g, i, none⟩) rfl (.int .i64 (-X2))) hB (Nat.le_refl _) hg
              have hFN : Hid (∀ j, (if j = i then (-X2) else f j) = if j < i + 1 then dd x0 y0 j else 0) := by
                intro j
                by_cases hj : j = i
                · subst hj
                  rw [if_pos rfl, if_pos (by omega)]; unfold dd; rw [hv, hV1.out] <;> omega
                · rw [if_neg hj]
                  have := hfx.out j
                  rw [this]
                  by_cases hji : j < i
                  · rw [if_pos hji, if_pos (by omega)]
                  · rw [if_neg hji, if_neg (by omega)]
              have wx : IntKind.i64.wrap (-X2) = -X2 := IntWalk.i64_in _ (by omega)
              clear hv hv2 hp hfx hV1 hf hk
              go_wp2
              refine ⟨⟨i + 1, _, by omega, by go_num, hset, hFN, hBs, by show g ≤ (wr.setCell _ _).heap.size; simp [World.setCell]; exact hg⟩, by simp [intOf]; omega⟩
          · have t2 : ¬ (i : Int) < n2 := by omega
            have t2b : (n2 : Int) ≤ i := by omega
            have hv := SFY.out i (by omega)
            have hFN : Hid (∀ j, f j = if j < i + 1 then dd x0 y0 j else 0) := by
              intro j
              rw [hfx.out j]
              by_cases hj : j = i
              · subst hj
                rw [if_neg (by omega), if_pos (by omega)]; unfold dd; rw [hv, hV1.out]; rfl
              · by_cases hji : j < i
                · rw [if_pos hji, if_pos (by omega)]
                · rw [if_neg hji, if_neg (by omega)]
            clear hv hfx hV1 hf
            go_wp2
            refine ⟨⟨i + 1, _, by omega, by go_num, hk, hFN, hB, hg⟩, by simp [intOf]; omega⟩
      · have hiN2 : N = i := by omega
        subst hiN2
        have t1 : ¬ (N : Int) < N := by omega
        have hfe : Hid (∀ j, j < N → f j = dd x0 y0 j) := fun j hj => by rw [hf.out]; exact if_pos hj
        clear hf
        rename World => wl
        have SGN : Hid (∀ t, t < N → (∀ k, t < k → k < N → f k = 0) → f t ≠ 0 → (f t < 0 → x0.z + y0.z < 0) ∧ (¬ f t < 0 → 0 ≤ x0.z + y0.z)) := by
          intro t ht hz hne
          rw [hfe.out t ht] at hne ⊢
          exact dd_sign x0 y0 (by have := HNX.out; have := HN1.out; omega) (by have := HNY.out; have := HN2.out; omega) ht (fun k h1 h2 => by rw [← hfe.out k h2]; exact hz k h1 h2) hne
        have SUM : Hid (fv f N = x0.z + y0.z) := by unfold Hid; rw [fv_congr hfe.out]; exact fv_dd x0 y0 N (by have := HNX.out; have := HN1.out; omega) (by have := HNY.out; have := HN2.out; omega)
        have FB : Hid (∀ j, j < N → -511 ≤ f j ∧ f j ≤ 511) := fun j hj => by rw [hfe.out j hj]; exact dd_bound x0 y0 j
        have SLT : Hid (-(256 ^ N) < x0.z + y0.z ∧ x0.z + y0.z < 256 ^ N) := sum_lt x0 y0 (by have := HNX.out; have := HN1.out; omega) (by have := HNY.out; have := HN2.out; omega)
        clear hfe SDX SDY SFX SFY SVX SVY
        go_wp2
        go_loop [10, 11] (fun bv iv => ∃ j : Nat, j ≤ N ∧ bv = .bool false ∧ iv = .int .i64 ((j : Int) - 1) ∧ Hid (∀ k, j ≤ k → k < N → f k = 0)) (fun _ iv => (intOf iv + 1).toNat)
        case atStart => exact ⟨N, Nat.le_refl _, rfl, by first | rfl | go_num, fun k h1 h2 => by omega⟩
        case round =>
          obtain ⟨j, hj, rfl, rfl, hz⟩ := hrel
          by_cases hj0 : j = 0
          · subst hj0
            have HS : Hid (0 ≤ x0.z + y0.z) := by unfold Hid; rw [← SUM.out, fv_zero (fun k hk => hz.out k (Nat.zero_le _) hk)]; exact Int.le_refl _
            clear hz SGN
            have hmb : ∀ W : World, (Instr.makeSlice 22 (.int .i64 (N : Int)) (.int .i64 (N : Int))).run Tryd.prog W = .ok (.slice (some ⟨W.heap.size, 0, none⟩) N N) (W.alloc (.cells (Array.replicate N (byteV 0)) 5)) := fun W => by
              have := run_makeN (P := Tryd.prog) 22 5 ui Tryd.underlying22 hui huz0 huz1 huz2 (N : Int) (by omega) (by omega) W
              rw [zeroB_list] at this
              simpa using this
            have kO : Blk (wl.alloc (.cells (Array.replicate N (byteV 0)) 5)) wl.heap.size 5 ((List.replicate N (0 : UInt8)).map byteV) := by have := Blk.new wl ((List.replicate N (0 : UInt8)).map byteV) 5; simpa using this
            have bO := below_alloc1 wl (.cells (Array.replicate N (byteV 0)) 5)
            have kS := Blk.new2 (wl.alloc (.cells (Array.replicate N (byteV 0)) 5)) (.bool false) (.slice (some ⟨wl.heap.size, 0, none⟩) N N) 24
            have bS := below_alloc1 (wl.alloc (.cells (Array.replicate N (byteV 0)) 5)) (.cells #[.bool false, .slice (some ⟨wl.heap.size, 0, none⟩) N N] 24)
            rw [World.size_alloc] at kS
            have kO := kO.below bS
            have kd := (hk.below bO).below bS
            have hBe := (hB.trans (Below.mono bO hg)).trans (Below.mono bS (by simp; omega))
            have hgh : g < wl.heap.size := hk.lt
            have hge : g ≤ ((wl.alloc (.cells (Array.replicate N (byteV 0)) 5)).alloc (.cells #[.bool false, .slice (some ⟨wl.heap.size, 0, none⟩) N N] 24)).heap.size := by simp; omega
            clear bO bS
            go_upto_region 27 with (fail)
            generalize ((wl.alloc (Obj.cells (Array.replicate N (byteV 0)) 5)).alloc (Obj.cells #[.bool false, .slice (some ⟨wl.heap.size, 0, none⟩) N N] 24)) = We at *
            generalize wl.heap.size = h at *
            clear hmb
            have SE : Hid (0 ≤ fv f N ∧ fv f N < 256 ^ N ∧ (if false = true then -(fv f N) else fv f N) = x0.z + y0.z) := by
              have h1 := SUM.out; have h2 := SLT.out; have h3 := HS.out; unfold Hid; rw [h1]; simp; omega
            clear SUM SLT HS
            go_wp2
            go_loopw [13, 14] (fun cv iv w' => ∃ (i : Nat) (c : Int) (C : List UInt8), i ≤ N ∧ -3 ≤ c ∧ c ≤ 2 ∧ cv = .int .i64 c ∧ iv = .int .i64 (i : Int) ∧ C.length = i ∧ Blk w' h 5 ((List.replicate (N - i) (0 : UInt8) ++ C).map byteV) ∧ Hid ((val C : Int) + c * 256 ^ i = fv f i) ∧ Only h We w') (fun _ iv _ => N - (intOf iv).toNat)
            case atStart => exact ⟨0, 0, [], by omega, by omega, by omega, rfl, rfl, rfl, by simpa using kO, by unfold Hid; simp [val, fv], Only.refl _ _⟩
            case round =>
              clear kO
              obtain ⟨i, c, C, hi, hc1, hc2, rfl, rfl, hC, kr, hv, hO⟩ := hrel
              have kd2 := kd.only hO (show g ≠ h by omega)
              have kS2 := kS.only hO (show h + 1 ≠ h by omega)
              have hB2 := Only.below hO hBe (show g ≤ h by omega) hge
              have hg2 : g ≤ wr.heap.size := by have := hO.size; omega
              by_cases hiN : i < N
              · have t1 : (i : Int) < N := by omega
                have hcd := kd2.cell i
                rw [rowF_get f hiN] at hcd
                have hfb := FB.out i hiN
                have hfv : Hid (fv f (i + 1) = fv f i + f i * 256 ^ i) := rfl
                obtain ⟨D, hD⟩ : ∃ D, f i = D := ⟨_, rfl⟩
                rw [hD] at hcd hfb hfv
                clear hD
                obtain ⟨X, hX⟩ : ∃ X, D + c = X := ⟨_, rfl⟩
                have hXb : -514 ≤ X ∧ X ≤ 513 := by omega
                have HX := Lib.hid hX
                have wX : IntKind.i64.wrap (D + c) = X := by rw [hX]; exact IntWalk.i64_in _ (by omega)
                have hcr := kr.free (N - 1 - i)
                obtain ⟨zz, hzz⟩ : ∃ zz, ((List.replicate (N - i) (0 : UInt8) ++ C).map byteV)[N - 1 - i]? = some zz := ⟨_, List.getElem?_eq_getElem (by simp; omega)⟩
                have hcc := kr.cell (N - 1 - i)
                rw [hzz] at hcc
                obtain ⟨s0, s1, _, _⟩ := blk2A kS2
                obtain ⟨m, hm'⟩ : ∃ m, N - 1 - i = m := ⟨_, rfl⟩
                have um1 : (N : Int) - 1 - i = (m : Int) := by omega
                have um2 : m < N := by omega
                have um3 : (m : Int) < N := by omega
                have SETR : Hid (∀ b : UInt8, Blk (wr.setCell ⟨h, m, none⟩ (byteV b)) h 5 ((List.replicate (N - (i + 1)) (0 : UInt8) ++ (b :: C)).map byteV)) := fun b => by
                  have := kr.set m (byteV b)
                  rw [← hm', row_step hC hiN, hm'] at this
                  exact this
                rw [hm'] at hcr hcc
                clear hm' hzz kr
                skip
                go_wp2
                try simp only [hX]
                go_loop [13, 15] (fun cv xv => ∃ (cc x : Int), cv = .int .i64 cc ∧ xv = .int .i64 x ∧ x + 256 * cc = X ∧ cc ≤ 0 ∧ -4 ≤ cc ∧ (cc = 0 ∨ x < 256)) (fun _ xv => (-(intOf xv)).toNat)
                case atStart => exact ⟨0, X, rfl, rfl, by omega, by omega, by omega, .inl rfl⟩
                case round =>
                  obtain ⟨cc, x, rfl, rfl, q1, q2, q3, q4⟩ := hrel
                  by_cases hx0 : x < 0
                  · have b1 : -600 ≤ x := by omega
                    have Q1 := Lib.hid q1
                    clear q1
                    go_wp2
                    go_round
                    case rel => exact ⟨cc - 1, x + 256, by go_num, by go_num, by have := Q1.out; omega, by omega, by have := Q1.out; omega, .inr (by omega)⟩
                    case measure => simp [intOf] <;> omega
                  · have b0 : 0 ≤ x := by omega
                    have b2 : x ≤ 513 := by omega
                    have Q1 := Lib.hid q1
                    clear q1 q4
                    go_wp2
                    go_loop [13, 15] (fun cv xv => ∃ (cc x : Int), cv = .int .i64 cc ∧ xv = .int .i64 x ∧ x + 256 * cc = X ∧ 0 ≤ x ∧ x ≤ 513 ∧ -4 ≤ cc ∧ cc ≤ 4) (fun _ xv => (intOf xv).toNat)
                    case atStart => exact ⟨cc, x, rfl, rfl, Q1.out, b0, b2, by omega, by omega⟩
                    case round =>
                      obtain ⟨cc, x, rfl, rfl, q1, q2, q3, q5, q6⟩ := hrel
                      have Q2 := Lib.hid q1
                      clear q1
                      by_cases hx1 : 255 < x
                      · have hcu : cc ≤ 1 := by have := Q2.out; omega
                        go_wp2
                        go_round
                        case rel => exact ⟨cc + 1, x - 256, by go_num, by go_num, by have := Q2.out; omega, by omega, by omega, by omega, by omega⟩
                        case measure => simp [intOf] <;> omega
                      · have hx2 : x ≤ 255 := by omega
                        obtain ⟨bb, hbb⟩ : ∃ bb : UInt8, (bb.toNat : Int) = x := ⟨UInt8.ofNat x.toNat, by rw [UInt8.toNat_ofNat']; omega⟩
                        have NV : Hid ((val (bb :: C) : Int) + cc * 256 ^ (i + 1) = fv f (i + 1)) := by unfold Hid; rw [hfv.out]; exact out_step (e := D) hC hv.out HX.out.symm (by rw [hbb]; exact Q2.out)
                        have hset := SETR.out bb
                        have HBV : Hid (byteV bb = .int .u8 x) := by unfold Hid byteV; rw [hbb]
                        rw [HBV.out] at hset
                        have hO2 := hO.setCell (p := ⟨h, m, none⟩) rfl (.int .u8 x)
                        have wu : IntKind.u8.wrap x = x := by simp [IntKind.wrap, IntKind.bits, IntKind.signed]; omega
                        have xm : x % 256 = x := by omega
                        have hlo : -3 ≤ cc := by have := Q2.out; omega
                        have hhi : cc ≤ 2 := by have := Q2.out; omega
                        have HCL := Lib.hid hC
                        have hx3 : ¬ 255 < x := hx1
                        clear HBV hbb SETR hfv hv hO kd2 kS2 Q1 hX wX hXb hfb hcd hC Q2 q5 q6 hB2 hg2 HX hx1 kd kS hBe hge FB SE
                        try clear wx
                        go_wp2
                        refine ⟨⟨i + 1, cc, bb :: C, by omega, hlo, hhi, rfl, by go_num, by have := HCL.out; rw [List.length_cons]; omega, hset, NV, hO2⟩, by simp [intOf]; omega⟩
              · have hiN2 : N = i := by omega
                subst hiN2
                have t1 : ¬ (N : Int) < N := by omega
                rw [Nat.sub_self, List.replicate_zero, List.nil_append] at kr
                have hbC := kr.bs
                rw [hC] at hbC
                have hVC := out_end hC hv.out SE.out.1 SE.out.2.1
                have HZC : Hid ((Nm.mk false C).z = x0.z + y0.z) := by unfold Hid Nm.z; have h1 := SE.out.2.2; rw [← hVC] at h1; exact h1
                obtain ⟨s0, s1, _, _⟩ := blk2A kS2
                have MD := ref3Made ⟨false, C⟩ _ wr (NumV.mk' false hbC (Nat.le_refl N)) (by simp only; omega)
                have hml := Nm.mk0_len ⟨false, C⟩
                have hmz := Nm.mk0_z ⟨false, C⟩
                have hmo := Nm.mk0_ok ⟨false, C⟩
                generalize Nm.mk0 ⟨false, C⟩ = S at *
                have HMZ := Lib.hid hmz
                have HMO := Lib.hid hmo
                simp only at hml
                have hTr := (FR.out _ hB2).2.2.2
                clear hmz hmo hVC kr hv hO kd2 hbC
                go_wp2_with fail
                refine MD.mono ?_
                rintro e w9 ⟨v9, rfl, ⟨A9, c9, rfl, s9, hc9⟩, b9⟩
                have hT9 := hTr.frame b9
                have kP := hT9.2.2.1
                have bW9 := hT9.2.2.2.1
                obtain ⟨p0, p1, p2, p3⟩ := blk2A kP
                obtain ⟨q0, q1, _, _⟩ := blk2A (show Blk _ (R + 2) 24 [.bool S.below, .slice A9 S.size.length c9] from (kP.set 0 _).set 1 _)
                have s10 := s9.set2 kP (.bool S.below) (.slice A9 S.size.length c9)
                have bW10 := below_set2 bW9 bW9.size (show w.heap.size ≤ R + 2 by have := HR.out; omega) (.bool S.below) (.slice A9 S.size.length c9)
                have HC9 := Lib.hid hc9
                clear MD hTr hT9 kP s9 b9 bW9 hc9 s0 s1
                go_wp2
                refine bodyPost_ret (v := .agg #[.bool S.below, .slice A9 S.size.length c9]) (by simp [results, Tryd.results30, go_sem, q0, q1]) rfl ?_
                exact GOAL.out S _ _ ⟨A9, c9, rfl, s10, HC9.out⟩ HMO.out (by rw [HMZ.out]; exact HZC.out) (by have h1 := HN.out; have h2 := HN1.out; have h3 := HN2.out; omega) bW10
          · obtain ⟨j', rfl⟩ : ∃ j', j = j' + 1 := ⟨j - 1, by omega⟩
            have te : ((j' + 1 : Nat) : Int) - 1 = (j' : Int) := by omega
            rw [te]
            have hcj := hk.cell j'
            rw [rowF_get f (by omega)] at hcj
            have hjm : j' < N := by omega
            have hjI : (j' : Int) < N := by omega
            obtain ⟨D, hD⟩ : ∃ D, f j' = D := ⟨_, rfl⟩
            rw [hD] at hcj
            by_cases hD0 : D = 0
            · subst hD0
              clear SGN
              go_wp2
              go_round
              case rel => exact ⟨j', by omega, rfl, by go_num, fun k h1 h2 => (by
                by_cases e : k = j'
                · rw [e]; exact hD
                · exact hz.out k (by omega) h2)⟩
              case measure => simp [intOf] <;> omega
            · have e1 : (D == 0) = false := by simpa using hD0
              have e2 : (D != 0) = true := by simpa using hD0
              have hs := SGN.out j' hjm (fun k h1 h2 => hz.out k (by omega) h2) (by rw [hD]; exact hD0)
              rw [hD] at hs
              by_cases hDn : D < 0
              · have HS : Hid (x0.z + y0.z < 0) := hs.1 hDn
                clear hs hz SGN hD e1
                have hmb : ∀ W : World, (Instr.makeSlice 22 (.int .i64 (N : Int)) (.int .i64 (N : Int))).run Tryd.prog W = .ok (.slice (some ⟨W.heap.size, 0, none⟩) N N) (W.alloc (.cells (Array.replicate N (byteV 0)) 5)) := fun W => by
                  have := run_makeN (P := Tryd.prog) 22 5 ui Tryd.underlying22 hui huz0 huz1 huz2 (N : Int) (by omega) (by omega) W
                  rw [zeroB_list] at this
                  simpa using this
                have kO : Blk (wl.alloc (.cells (Array.replicate N (byteV 0)) 5)) wl.heap.size 5 ((List.replicate N (0 : UInt8)).map byteV) := by have := Blk.new wl ((List.replicate N (0 : UInt8)).map byteV) 5; simpa using this
                have bO := below_alloc1 wl (.cells (Array.replicate N (byteV 0)) 5)
                have kS := Blk.new2 (wl.alloc (.cells (Array.replicate N (byteV 0)) 5)) (.bool true) (.slice (some ⟨wl.heap.size, 0, none⟩) N N) 24
                have bS := below_alloc1 (wl.alloc (.cells (Array.replicate N (byteV 0)) 5)) (.cells #[.bool true, .slice (some ⟨wl.heap.size, 0, none⟩) N N] 24)
                rw [World.size_alloc] at kS
                have kO := kO.below bS
                have kd := (hk.below bO).below bS
                have hBe := (hB.trans (Below.mono bO hg)).trans (Below.mono bS (by simp; omega))
                have hgh : g < wl.heap.size := hk.lt
                have hge : g ≤ ((wl.alloc (.cells (Array.replicate N (byteV 0)) 5)).alloc (.cells #[.bool true, .slice (some ⟨wl.heap.size, 0, none⟩) N N] 24)).heap.size := by simp; omega
                clear bO bS
                go_upto_region 27 with (fail)
                generalize ((wl.alloc (Obj.cells (Array.replicate N (byteV 0)) 5)).alloc (Obj.cells #[.bool true, .slice (some ⟨wl.heap.size, 0, none⟩) N N] 24)) = We at *
                generalize wl.heap.size = h at *
                clear hmb
                have SE : Hid (0 ≤ fv (fun j => -f j) N ∧ fv (fun j => -f j) N < 256 ^ N ∧ (if true = true then -(fv (fun j => -f j) N) else fv (fun j => -f j) N) = x0.z + y0.z) := by
                  have h1 := SUM.out; have h2 := SLT.out; have h3 := HS.out; unfold Hid; rw [fv_neg, h1]; simp; omega
                clear SUM SLT HS
                go_wp2
                go_loopw [13, 14] (fun cv iv w' => ∃ (i : Nat) (c : Int) (C : List UInt8), i ≤ N ∧ -3 ≤ c ∧ c ≤ 2 ∧ cv = .int .i64 c ∧ iv = .int .i64 (i : Int) ∧ C.length = i ∧ Blk w' h 5 ((List.replicate (N - i) (0 : UInt8) ++ C).map byteV) ∧ Hid ((val C : Int) + c * 256 ^ i = fv (fun j => -f j) i) ∧ Only h We w') (fun _ iv _ => N - (intOf iv).toNat)
                case atStart => exact ⟨0, 0, [], by omega, by omega, by omega, rfl, rfl, rfl, by simpa using kO, by unfold Hid; simp [val, fv], Only.refl _ _⟩
                case round =>
                  clear kO
                  obtain ⟨i, c, C, hi, hc1, hc2, rfl, rfl, hC, kr, hv, hO⟩ := hrel
                  have kd2 := kd.only hO (show g ≠ h by omega)
                  have kS2 := kS.only hO (show h + 1 ≠ h by omega)
                  have hB2 := Only.below hO hBe (show g ≤ h by omega) hge
                  have hg2 : g ≤ wr.heap.size := by have := hO.size; omega
                  by_cases hiN : i < N
                  · have t1 : (i : Int) < N := by omega
                    have hcd := kd2.cell i
                    rw [rowF_get f hiN] at hcd
                    have hfb := FB.out i hiN
                    have hfv : Hid (fv (fun j => -f j) (i + 1) = fv (fun j => -f j) i + (-f i) * 256 ^ i) := rfl
                    obtain ⟨D, hD⟩ : ∃ D, f i = D := ⟨_, rfl⟩
                    rw [hD] at hcd hfb hfv
                    clear hD
                    obtain ⟨X, hX⟩ : ∃ X, -D + c = X := ⟨_, rfl⟩
                    have hXb : -514 ≤ X ∧ X ≤ 513 := by omega
                    have HX := Lib.hid hX
                    have wx : IntKind.i64.wrap (-D) = -D := IntWalk.i64_in _ (by omega)
                    have wX : IntKind.i64.wrap (-D + c) = X := by rw [hX]; exact IntWalk.i64_in _ (by omega)
                    have hcr := kr.free (N - 1 - i)
                    obtain ⟨zz, hzz⟩ : ∃ zz, ((List.replicate (N - i) (0 : UInt8) ++ C).map byteV)[N - 1 - i]? = some zz := ⟨_, List.getElem?_eq_getElem (by simp; omega)⟩
                    have hcc := kr.cell (N - 1 - i)
                    rw [hzz] at hcc
                    obtain ⟨s0, s1, _, _⟩ := blk2A kS2
                    obtain ⟨m, hm'⟩ : ∃ m, N - 1 - i = m := ⟨_, rfl⟩
                    have um1 : (N : Int) - 1 - i = (m : Int) := by omega
                    have um2 : m < N := by omega
                    have um3 : (m : Int) < N := by omega
                    have SETR : Hid (∀ b : UInt8, Blk (wr.setCell ⟨h, m, none⟩ (byteV b)) h 5 ((List.replicate (N - (i + 1)) (0 : UInt8) ++ (b :: C)).map byteV)) := fun b => by
                      have := kr.set m (byteV b)
                      rw [← hm', row_step hC hiN, hm'] at this
                      exact this
                    rw [hm'] at hcr hcc
                    clear hm' hzz kr
                    skip
                    go_wp2
                    try simp only [hX]
                    go_loop [13, 15] (fun cv xv => ∃ (cc x : Int), cv = .int .i64 cc ∧ xv = .int .i64 x ∧ x + 256 * cc = X ∧ cc ≤ 0 ∧ -4 ≤ cc ∧ (cc = 0 ∨ x < 256)) (fun _ xv => (-(intOf xv)).toNat)
                    case atStart => exact ⟨0, X, rfl, rfl, by omega, by omega, by omega, .inl rfl⟩
                    case round =>
                      obtain ⟨cc, x, rfl, rfl, q1, q2, q3, q4⟩ := hrel
                      by_cases hx0 : x < 0
                      · have b1 : -600 ≤ x := by omega
                        have Q1 := Lib.hid q1
                        clear q1
                        go_wp2
                        go_round
                        case rel => exact ⟨cc - 1, x + 256, by go_num, by go_num, by have := Q1.out; omega, by omega, by have := Q1.out; omega, .inr (by omega)⟩
                        case measure => simp [intOf] <;> omega
                      · have b0 : 0 ≤ x := by omega
                        have b2 : x ≤ 513 := by omega
                        have Q1 := Lib.hid q1
                        clear q1 q4
                        go_wp2
                        go_loop [13, 15] (fun cv xv => ∃ (cc x : Int), cv = .int .i64 cc ∧ xv = .int .i64 x ∧ x + 256 * cc = X ∧ 0 ≤ x ∧ x ≤ 513 ∧ -4 ≤ cc ∧ cc ≤ 4) (fun _ xv => (intOf xv).toNat)
                        case atStart => exact ⟨cc, x, rfl, rfl, Q1.out, b0, b2, by omega, by omega⟩
                        case round =>
                          obtain ⟨cc, x, rfl, rfl, q1, q2, q3, q5, q6⟩ := hrel
                          have Q2 := Lib.hid q1
                          clear q1
                          by_cases hx1 : 255 < x
                          · have hcu : cc ≤ 1 := by have := Q2.out; omega
                            go_wp2
                            go_round
                            case rel => exact ⟨cc + 1, x - 256, by go_num, by go_num, by have := Q2.out; omega, by omega, by omega, by omega, by omega⟩
                            case measure => simp [intOf] <;> omega
                          · have hx2 : x ≤ 255 := by omega
                            obtain ⟨bb, hbb⟩ : ∃ bb : UInt8, (bb.toNat : Int) = x := ⟨UInt8.ofNat x.toNat, by rw [UInt8.toNat_ofNat']; omega⟩
                            have NV : Hid ((val (bb :: C) : Int) + cc * 256 ^ (i + 1) = fv (fun j => -f j) (i + 1)) := by unfold Hid; rw [hfv.out]; exact out_step (e := -D) hC hv.out HX.out.symm (by rw [hbb]; exact Q2.out)
                            have hset := SETR.out bb
                            have HBV : Hid (byteV bb = .int .u8 x) := by unfold Hid byteV; rw [hbb]
                            rw [HBV.out] at hset
                            have hO2 := hO.setCell (p := ⟨h, m, none⟩) rfl (.int .u8 x)
                            have wu : IntKind.u8.wrap x = x := by simp [IntKind.wrap, IntKind.bits, IntKind.signed]; omega
                            have xm : x % 256 = x := by omega
                            have hlo : -3 ≤ cc := by have := Q2.out; omega
                            have hhi : cc ≤ 2 := by have := Q2.out; omega
                            have HCL := Lib.hid hC
                            have hx3 : ¬ 255 < x := hx1
                            clear HBV hbb SETR hfv hv hO kd2 kS2 Q1 hX wX hXb hfb hcd hC Q2 q5 q6 hB2 hg2 HX hx1 kd kS hBe hge FB SE
                            try clear wx
                            go_wp2
                            refine ⟨⟨i + 1, cc, bb :: C, by omega, hlo, hhi, rfl, by go_num, by have := HCL.out; rw [List.length_cons]; omega, hset, NV, hO2⟩, by simp [intOf]; omega⟩
                  · have hiN2 : N = i := by omega
                    subst hiN2
                    have t1 : ¬ (N : Int) < N := by omega
                    rw [Nat.sub_self, List.replicate_zero, List.nil_append] at kr
                    have hbC := kr.bs
                    rw [hC] at hbC
                    have hVC := out_end hC hv.out SE.out.1 SE.out.2.1
                    have HZC : Hid ((Nm.mk true C).z = x0.z + y0.z) := by unfold Hid Nm.z; have h1 := SE.out.2.2; rw [← hVC] at h1; exact h1
                    obtain ⟨s0, s1, _, _⟩ := blk2A kS2
                    have MD := ref3Made ⟨true, C⟩ _ wr (NumV.mk' true hbC (Nat.le_refl N)) (by simp only; omega)
                    have hml := Nm.mk0_len ⟨true, C⟩
                    have hmz := Nm.mk0_z ⟨true, C⟩
                    have hmo := Nm.mk0_ok ⟨true, C⟩
                    generalize Nm.mk0 ⟨true, C⟩ = S at *
                    have HMZ := Lib.hid hmz
                    have HMO := Lib.hid hmo
                    simp only at hml
                    have hTr := (FR.out _ hB2).2.2.2
                    clear hmz hmo hVC kr hv hO kd2 hbC
                    go_wp2_with fail
                    refine MD.mono ?_
                    rintro e w9 ⟨v9, rfl, ⟨A9, c9, rfl, s9, hc9⟩, b9⟩
                    have hT9 := hTr.frame b9
                    have kP := hT9.2.2.1
                    have bW9 := hT9.2.2.2.1
                    obtain ⟨p0, p1, p2, p3⟩ := blk2A kP
                    obtain ⟨q0, q1, _, _⟩ := blk2A (show Blk _ (R + 2) 24 [.bool S.below, .slice A9 S.size.length c9] from (kP.set 0 _).set 1 _)
                    have s10 := s9.set2 kP (.bool S.below) (.slice A9 S.size.length c9)
                    have bW10 := below_set2 bW9 bW9.size (show w.heap.size ≤ R + 2 by have := HR.out; omega) (.bool S.below) (.slice A9 S.size.length c9)
                    have HC9 := Lib.hid hc9
                    clear MD hTr hT9 kP s9 b9 bW9 hc9 s0 s1
                    go_wp2
                    refine bodyPost_ret (v := .agg #[.bool S.below, .slice A9 S.size.length c9]) (by simp [results, Tryd.results30, go_sem, q0, q1]) rfl ?_
                    exact GOAL.out S _ _ ⟨A9, c9, rfl, s10, HC9.out⟩ HMO.out (by rw [HMZ.out]; exact HZC.out) (by have h1 := HN.out; have h2 := HN1.out; have h3 := HN2.out; omega) bW10
              · have HS : Hid (0 ≤ x0.z + y0.z) := hs.2 (by omega)
                have hDn2 : 0 ≤ D := by omega
                clear hs hz SGN hD e1
                have hmb : ∀ W : World, (Instr.makeSlice 22 (.int .i64 (N : Int)) (.int .i64 (N : Int))).run Tryd.prog W = .ok (.slice (some ⟨W.heap.size, 0, none⟩) N N) (W.alloc (.cells (Array.replicate N (byteV 0)) 5)) := fun W => by
                  have := run_makeN (P := Tryd.prog) 22 5 ui Tryd.underlying22 hui huz0 huz1 huz2 (N : Int) (by omega) (by omega) W
                  rw [zeroB_list] at this
                  simpa using this
                have kO : Blk (wl.alloc (.cells (Array.replicate N (byteV 0)) 5)) wl.heap.size 5 ((List.replicate N (0 : UInt8)).map byteV) := by have := Blk.new wl ((List.replicate N (0 : UInt8)).map byteV) 5; simpa using this
                have bO := below_alloc1 wl (.cells (Array.replicate N (byteV 0)) 5)
                have kS := Blk.new2 (wl.alloc (.cells (Array.replicate N (byteV 0)) 5)) (.bool false) (.slice (some ⟨wl.heap.size, 0, none⟩) N N) 24
                have bS := below_alloc1 (wl.alloc (.cells (Array.replicate N (byteV 0)) 5)) (.cells #[.bool false, .slice (some ⟨wl.heap.size, 0, none⟩) N N] 24)
                rw [World.size_alloc] at kS
                have kO := kO.below bS
                have kd := (hk.below bO).below bS
                have hBe := (hB.trans (Below.mono bO hg)).trans (Below.mono bS (by simp; omega))
                have hgh : g < wl.heap.size := hk.lt
                have hge : g ≤ ((wl.alloc (.cells (Array.replicate N (byteV 0)) 5)).alloc (.cells #[.bool false, .slice (some ⟨wl.heap.size, 0, none⟩) N N] 24)).heap.size := by simp; omega
                clear bO bS
                go_upto_region 27 with (fail)
                generalize ((wl.alloc (Obj.cells (Array.replicate N (byteV 0)) 5)).alloc (Obj.cells #[.bool false, .slice (some ⟨wl.heap.size, 0, none⟩) N N] 24)) = We at *
                generalize wl.heap.size = h at *
                clear hmb
                have SE : Hid (0 ≤ fv f N ∧ fv f N < 256 ^ N ∧ (if false = true then -(fv f N) else fv f N) = x0.z + y0.z) := by
                  have h1 := SUM.out; have h2 := SLT.out; have h3 := HS.out; unfold Hid; rw [h1]; simp; omega
                clear SUM SLT HS
                go_wp2
                go_loopw [13, 14] (fun cv iv w' => ∃ (i : Nat) (c : Int) (C : List UInt8), i ≤ N ∧ -3 ≤ c ∧ c ≤ 2 ∧ cv = .int .i64 c ∧ iv = .int .i64 (i : Int) ∧ C.length = i ∧ Blk w' h 5 ((List.replicate (N - i) (0 : UInt8) ++ C).map byteV) ∧ Hid ((val C : Int) + c * 256 ^ i = fv f i) ∧ Only h We w') (fun _ iv _ => N - (intOf iv).toNat)
                case atStart => exact ⟨0, 0, [], by omega, by omega, by omega, rfl, rfl, rfl, by simpa using kO, by unfold Hid; simp [val, fv], Only.refl _ _⟩
                case round =>
                  clear kO
                  obtain ⟨i, c, C, hi, hc1, hc2, rfl, rfl, hC, kr, hv, hO⟩ := hrel
                  have kd2 := kd.only hO (show g ≠ h by omega)
                  have kS2 := kS.only hO (show h + 1 ≠ h by omega)
                  have hB2 := Only.below hO hBe (show g ≤ h by omega) hge
                  have hg2 : g ≤ wr.heap.size := by have := hO.size; omega
                  by_cases hiN : i < N
                  · have t1 : (i : Int) < N := by omega
                    have hcd := kd2.cell i
                    rw [rowF_get f hiN] at hcd
                    have hfb := FB.out i hiN
                    have hfv : Hid (fv f (i + 1) = fv f i + f i * 256 ^ i) := rfl
                    obtain ⟨D, hD⟩ : ∃ D, f i = D := ⟨_, rfl⟩
                    rw [hD] at hcd hfb hfv
                    clear hD
                    obtain ⟨X, hX⟩ : ∃ X, D + c = X := ⟨_, rfl⟩
                    have hXb : -514 ≤ X ∧ X ≤ 513 := by omega
                    have HX := Lib.hid hX
                    have wX : IntKind.i64.wrap (D + c) = X := by rw [hX]; exact IntWalk.i64_in _ (by omega)
                    have hcr := kr.free (N - 1 - i)
                    obtain ⟨zz, hzz⟩ : ∃ zz, ((List.replicate (N - i) (0 : UInt8) ++ C).map byteV)[N - 1 - i]? = some zz := ⟨_, List.getElem?_eq_getElem (by simp; omega)⟩
                    have hcc := kr.cell (N - 1 - i)
                    rw [hzz] at hcc
                    obtain ⟨s0, s1, _, _⟩ := blk2A kS2
                    obtain ⟨m, hm'⟩ : ∃ m, N - 1 - i = m := ⟨_, rfl⟩
                    have um1 : (N : Int) - 1 - i = (m : Int) := by omega
                    have um2 : m < N := by omega
                    have um3 : (m : Int) < N := by omega
                    have SETR : Hid (∀ b : UInt8, Blk (wr.setCell ⟨h, m, none⟩ (byteV b)) h 5 ((List.replicate (N - (i + 1)) (0 : UInt8) ++ (b :: C)).map byteV)) := fun b => by
                      have := kr.set m (byteV b)
                      rw [← hm', row_step hC hiN, hm'] at this
                      exact this
                    rw [hm'] at hcr hcc
                    clear hm' hzz kr
                    skip
                    go_wp2
                    try simp only [hX]
                    go_loop [13, 15] (fun cv xv => ∃ (cc x : Int), cv = .int .i64 cc ∧ xv = .int .i64 x ∧ x + 256 * cc = X ∧ cc ≤ 0 ∧ -4 ≤ cc ∧ (cc = 0 ∨ x < 256)) (fun _ xv => (-(intOf xv)).toNat)
                    case atStart => exact ⟨0, X, rfl, rfl, by omega, by omega, by omega, .inl rfl⟩
                    case round =>
                      obtain ⟨cc, x, rfl, rfl, q1, q2, q3, q4⟩ := hrel
                      by_cases hx0 : x < 0
                      · have b1 : -600 ≤ x := by omega
                        have Q1 := Lib.hid q1
                        clear q1
                        go_wp2
                        go_round
                        case rel => exact ⟨cc - 1, x + 256, by go_num, by go_num, by have := Q1.out; omega, by omega, by have := Q1.out; omega, .inr (by omega)⟩
                        case measure => simp [intOf] <;> omega
                      · have b0 : 0 ≤ x := by omega
                        have b2 : x ≤ 513 := by omega
                        have Q1 := Lib.hid q1
                        clear q1 q4
                        go_wp2
                        go_loop [13, 15] (fun cv xv => ∃ (cc x : Int), cv = .int .i64 cc ∧ xv = .int .i64 x ∧ x + 256 * cc = X ∧ 0 ≤ x ∧ x ≤ 513 ∧ -4 ≤ cc ∧ cc ≤ 4) (fun _ xv => (intOf xv).toNat)
                        case atStart => exact ⟨cc, x, rfl, rfl, Q1.out, b0, b2, by omega, by omega⟩
                        case round =>
                          obtain ⟨cc, x, rfl, rfl, q1, q2, q3, q5, q6⟩ := hrel
                          have Q2 := Lib.hid q1
                          clear q1
                          by_cases hx1 : 255 < x
                          · have hcu : cc ≤ 1 := by have := Q2.out; omega
                            go_wp2
                            go_round
                            case rel => exact ⟨cc + 1, x - 256, by go_num, by go_num, by have := Q2.out; omega, by omega, by omega, by omega, by omega⟩
                            case measure => simp [intOf] <;> omega
                          · have hx2 : x ≤ 255 := by omega
                            obtain ⟨bb, hbb⟩ : ∃ bb : UInt8, (bb.toNat : Int) = x := ⟨UInt8.ofNat x.toNat, by rw [UInt8.toNat_ofNat']; omega⟩
                            have NV : Hid ((val (bb :: C) : Int) + cc * 256 ^ (i + 1) = fv f (i + 1)) := by unfold Hid; rw [hfv.out]; exact out_step (e := D) hC hv.out HX.out.symm (by rw [hbb]; exact Q2.out)
                            have hset := SETR.out bb
                            have HBV : Hid (byteV bb = .int .u8 x) := by unfold Hid byteV; rw [hbb]
                            rw [HBV.out] at hset
                            have hO2 := hO.setCell (p := ⟨h, m, none⟩) rfl (.int .u8 x)
                            have wu : IntKind.u8.wrap x = x := by simp [IntKind.wrap, IntKind.bits, IntKind.signed]; omega
                            have xm : x % 256 = x := by omega
                            have hlo : -3 ≤ cc := by have := Q2.out; omega
                            have hhi : cc ≤ 2 := by have := Q2.out; omega
                            have HCL := Lib.hid hC
                            have hx3 : ¬ 255 < x := hx1
                            clear HBV hbb SETR hfv hv hO kd2 kS2 Q1 hX wX hXb hfb hcd hC Q2 q5 q6 hB2 hg2 HX hx1 kd kS hBe hge FB SE
                            try clear wx
                            go_wp2
                            refine ⟨⟨i + 1, cc, bb :: C, by omega, hlo, hhi, rfl, by go_num, by have := HCL.out; rw [List.length_cons]; omega, hset, NV, hO2⟩, by simp [intOf]; omega⟩
                  · have hiN2 : N = i := by omega
                    subst hiN2
                    have t1 : ¬ (N : Int) < N := by omega
                    rw [Nat.sub_self, List.replicate_zero, List.nil_append] at kr
                    have hbC := kr.bs
                    rw [hC] at hbC
                    have hVC := out_end hC hv.out SE.out.1 SE.out.2.1
                    have HZC : Hid ((Nm.mk false C).z = x0.z + y0.z) := by unfold Hid Nm.z; have h1 := SE.out.2.2; rw [← hVC] at h1; exact h1
                    obtain ⟨s0, s1, _, _⟩ := blk2A kS2
                    have MD := ref3Made ⟨false, C⟩ _ wr (NumV.mk' false hbC (Nat.le_refl N)) (by simp only; omega)
                    have hml := Nm.mk0_len ⟨false, C⟩
                    have hmz := Nm.mk0_z ⟨false, C⟩
                    have hmo := Nm.mk0_ok ⟨false, C⟩
                    generalize Nm.mk0 ⟨false, C⟩ = S at *
                    have HMZ := Lib.hid hmz
                    have HMO := Lib.hid hmo
                    simp only at hml
                    have hTr := (FR.out _ hB2).2.2.2
                    clear hmz hmo hVC kr hv hO kd2 hbC
                    go_wp2_with fail
                    refine MD.mono ?_
                    rintro e w9 ⟨v9, rfl, ⟨A9, c9, rfl, s9, hc9⟩, b9⟩
                    have hT9 := hTr.frame b9
                    have kP := hT9.2.2.1
                    have bW9 := hT9.2.2.2.1
                    obtain ⟨p0, p1, p2, p3⟩ := blk2A kP
                    obtain ⟨q0, q1, _, _⟩ := blk2A (show Blk _ (R + 2) 24 [.bool S.below, .slice A9 S.size.length c9] from (kP.set 0 _).set 1 _)
                    have s10 := s9.set2 kP (.bool S.below) (.slice A9 S.size.length c9)
                    have bW10 := below_set2 bW9 bW9.size (show w.heap.size ≤ R + 2 by have := HR.out; omega) (.bool S.below) (.slice A9 S.size.length c9)
                    have HC9 := Lib.hid hc9
                    clear MD hTr hT9 kP s9 b9 bW9 hc9 s0 s1
                    go_wp2
                    refine bodyPost_ret (v := .agg #[.bool S.below, .slice A9 S.size.length c9]) (by simp [results, Tryd.results30, go_sem, q0, q1]) rfl ?_
                    exact GOAL.out S _ _ ⟨A9, c9, rfl, s10, HC9.out⟩ HMO.out (by rw [HMZ.out]; exact HZC.out) (by have h1 := HN.out; have h2 := HN1.out; have h3 := HN2.out; omega) bW10
  · have q3 : ¬ (n1 : Int) < n2 := by omega
    have q4 : (n2 : Int) ≤ n1 := by omega
    go_upto_region 6 with (fail)
    try simp only [q2]
    clear q1 q2 q3 q4
    go_upto_region 7 with (fail)
    generalize (Wc.alloc (Obj.cells (rowF N (fun _ => 0)).toArray 3)) = Wd at *
    clear hmk d0 d1 d2 d3
    generalize hgg : Wc.heap.size = g at *
    have HGG := Lib.hid hgg
    have HGB : Hid (∀ W, Below g Wc W → Below Wc.heap.size Wc W) := fun W hW => by rw [hgg]; exact hW
    clear hgg
    go_wp2
    go_loopw [7] (fun iv wr => ∃ (i : Nat) (f : Nat → Int), i ≤ N ∧ iv = .int .i64 (i : Int) ∧ Blk wr g 3 (rowF N f) ∧ Hid (∀ j, f j = if j < i then dd x0 y0 j else 0) ∧ Below g Wc wr ∧ g ≤ wr.heap.size) (fun iv _ => N - (intOf iv).toNat)
    case atStart => exact ⟨0, _, by omega, rfl, hkd, fun j => by simp, hBd, by have := hkd.lt; omega⟩
    case round =>
      clear hkd hBd
      obtain ⟨i, f, hi, rfl, hk, hf, hB, hg⟩ := hrel
      by_cases hiN : i < N
      · have t1 : (i : Int) < N := by omega
        obtain ⟨⟨r0, r1, r2, r3⟩, hs1, hs2, _⟩ := FR.out _ hB
        have hf0 : f i = 0 := by rw [hf.out]; exact if_neg (by omega)
        have hfc := hk.cell i
        rw [rowF_get f hiN, hf0] at hfc
        have hff := hk.free i
        by_cases h1 : i < n1
        · have t3 : (i : Int) < n1 := by omega
          obtain ⟨b1, o1, rfl, hc1'⟩ := hs1.at_ (k := n1 - 1 - i) (by omega)
          have hp1 := SDX.out i (n1 - 1 - i) h1 rfl
          have hbd1 := nth_bound x0.size (n1 - 1 - i)
          rw [← hp1] at hc1' hbd1
          have hv1 := SVX.out i
          clear hp1
          obtain ⟨X1, hX1⟩ : ∃ X1, pl x0.size i = X1 := ⟨_, rfl⟩
          rw [hX1] at hc1' hbd1 hv1
          obtain ⟨k1, hk1⟩ : ∃ k1, n1 - 1 - i = k1 := ⟨_, rfl⟩
          rw [hk1] at hc1'
          have u1 : (n1 : Int) - 1 - i = (k1 : Int) := by omega
          have u2 : k1 < n1 := by omega
          have u3 : (k1 : Int) < n1 := by omega
          clear hX1 hk1
          cases hp : x0.below with
          | false =>
            rw [hp] at r0
            have hV1 : Hid (sd x0 i = X1) := by unfold Hid; rw [hv1, hp]; simp
            have hset := hk.set i (.int .i64 (X1))
            rw [rowF_set _ _ hiN] at hset
            have hBs := Only.below ((Only.refl g wr).setCell (p := ⟨g, i, none⟩) rfl (.int .i64 (X1))) hB (Nat.le_refl _) hg
            have hgs : g ≤ (wr.setCell ⟨g, i, none⟩ (.int .i64 (X1))).heap.size := by simp [World.setCell]; exact hg
            clear hv1 hp
            go_upto_region 15 with (fail)
            generalize (wr.setCell ⟨g, i, none⟩ (.int .i64 (X1))) = wr2 at *
            clear hk hB hg r0 r1 r2 r3 hs1 hs2 hfc hff hc1' u1 u2 u3
            have hk := hset
            have hB := hBs
            have hg := hgs
            clear hset hBs hgs
            have hfx := hf
            obtain ⟨Z1, hZ1⟩ : ∃ Z1 : Int, X1 = Z1 := ⟨_, rfl⟩
            rw [hZ1] at hk hV1
            have hzb : -256 < Z1 ∧ Z1 < 256 := by omega
            clear hZ1
            obtain ⟨f2, hf2⟩ : ∃ f2 : Nat → Int, f2 = (fun j => if j = i then Z1 else f j) := ⟨_, rfl⟩
            rw [← hf2] at hk
            have hfi : Hid (f2 i = Z1) := by rw [hf2]; exact if_pos rfl
            have hfo : Hid (∀ j, j ≠ i → f2 j = f j) := fun j hj => by rw [hf2]; exact if_neg hj
            clear hf2
            obtain ⟨⟨r0, r1, r2, r3⟩, hs1, hs2, _⟩ := FR.out _ hB
            have hfc := hk.cell i
            rw [rowF_get f2 hiN, hfi.out] at hfc
            have hff := hk.free i
            by_cases h2 : i < n2
            · have t2 : (i : Int) < n2 := by omega
              obtain ⟨b2, o2, rfl, hc2'⟩ := hs2.at_ (k := n2 - 1 - i) (by omega)
              have hp2 := SDY.out i (n2 - 1 - i) h2 rfl
              have hbd2 := nth_bound y0.size (n2 - 1 - i)
              rw [← hp2] at hc2' hbd2
              have hv2 := SVY.out i
              clear hp2
              obtain ⟨X2, hX2⟩ : ∃ X2, pl y0.size i = X2 := ⟨_, rfl⟩
              rw [hX2] at hc2' hbd2 hv2
              obtain ⟨k2, hk2⟩ : ∃ k2, n2 - 1 - i = k2 := ⟨_, rfl⟩
              rw [hk2] at hc2'
              have u1 : (n2 : Int) - 1 - i = (k2 : Int) := by omega
              have u2 : k2 < n2 := by omega
              have u3 : (k2 : Int) < n2 := by omega
              clear hX2 hk2
              cases hp : y0.below with
              | false =>
                rw [hp] at r2
                have hv : sd y0 i = X2 := by rw [hv2, hp]; simp
                have hset := hk.set i (.int .i64 (Z1 + X2))
                rw [rowF_set _ _ hiN] at hset
                have hBs := Only.below ((Only.refl g wr2).setCell (p := ⟨g, i, none⟩) rfl (.int .i64 (Z1 + X2))) hB (Nat.le_refl _) hg
                have hFN : Hid (∀ j, (if j = i then (Z1 + X2) else f2 j) = if j < i + 1 then dd x0 y0 j else 0) := by
                  intro j
                  by_cases hj : j = i
                  · subst hj
                    rw [if_pos rfl, if_pos (by omega)]; unfold dd; rw [hv, hV1.out]
                  · rw [if_neg hj]
                    rw [hfo.out j hj]
                    have := hfx.out j
                    rw [this]
                    by_cases hji : j < i
                    · rw [if_pos hji, if_pos (by omega)]
                    · rw [if_neg hji, if_neg (by omega)]
                clear hv hv2 hp hfx hV1 hf hk
                go_wp2
                refine ⟨⟨i + 1, _, by omega, by go_num, hset, hFN, hBs, by show g ≤ (wr2.setCell _ _).heap.size; simp [World.setCell]; exact hg⟩, by simp [intOf]; omega⟩
              | true =>
                rw [hp] at r2
                have hv : sd y0 i = -X2 := by rw [hv2, hp]; simp
                have hset := hk.set i (.int .i64 (Z1 + -X2))
                rw [rowF_set _ _ hiN] at hset
                have hBs := Only.below ((Only.refl g wr2).setCell (p := ⟨g, i, none⟩) rfl (.int .i64 (Z1 + -X2))) hB (Nat.le_refl _) hg
                have hFN : Hid (∀ j, (if j = i then (Z1 + -X2) else f2 j) = if j < i + 1 then dd x0 y0 j else 0) := by
                  intro j
                  by_cases hj : j = i
                  · subst hj
                    rw [if_pos rfl, if_pos (by omega)]; unfold dd; rw [hv, hV1.out]
                  · rw [if_neg hj]
                    rw [hfo.out j hj]
                    have := hfx.out j
                    rw [this]
                    by_cases hji : j < i
                    · rw [if_pos hji, if_pos (by omega)]
                    · rw [if_neg hji, if_neg (by omega)]
                have wx : IntKind.i64.wrap (-X2) = -X2 := IntWalk.i64_in _ (by omega)
                clear hv hv2 hp hfx hV1 hf hk
                go_wp2
                refine ⟨⟨i + 1, _, by omega, by go_num, hset, hFN, hBs, by show g ≤ (wr2.setCell _ _).heap.size; simp [World.setCell]; exact hg⟩, by simp [intOf]; omega⟩
            · have t2 : ¬ (i : Int) < n2 := by omega
              have t2b : (n2 : Int) ≤ i := by omega
              have hv := SFY.out i (by omega)
              have hFN : Hid (∀ j, f2 j = if j < i + 1 then dd x0 y0 j else 0) := by
                intro j
                by_cases hj : j = i
                · subst hj
                  rw [hfi.out, if_pos (by omega)]; unfold dd; rw [hv, hV1.out]; omega
                · rw [hfo.out j hj, hfx.out j]
                  by_cases hji : j < i
                  · rw [if_pos hji, if_pos (by omega)]
                  · rw [if_neg hji, if_neg (by omega)]
              clear hv hfx hV1 hf
              go_wp2
              refine ⟨⟨i + 1, _, by omega, by go_num, hk, hFN, hB, hg⟩, by simp [intOf]; omega⟩
          | true =>
            rw [hp] at r0
            have hV1 : Hid (sd x0 i = -X1) := by unfold Hid; rw [hv1, hp]; simp
            have hset := hk.set i (.int .i64 (-X1))
            rw [rowF_set _ _ hiN] at hset
            have hBs := Only.below ((Only.refl g wr).setCell (p := ⟨g, i, none⟩) rfl (.int .i64 (-X1))) hB (Nat.le_refl _) hg
            have hgs : g ≤ (wr.setCell ⟨g, i, none⟩ (.int .i64 (-X1))).heap.size := by simp [World.setCell]; exact hg
            have wx : IntKind.i64.wrap (-X1) = -X1 := IntWalk.i64_in _ (by omega)
            clear hv1 hp
            go_upto_region 15 with (fail)
            generalize (wr.setCell ⟨g, i, none⟩ (.int .i64 (-X1))) = wr2 at *
            clear hk hB hg r0 r1 r2 r3 hs1 hs2 hfc hff hc1' u1 u2 u3
            clear wx
            have hk := hset
            have hB := hBs
            have hg := hgs
            clear hset hBs hgs
            have hfx := hf
            obtain ⟨Z1, hZ1⟩ : ∃ Z1 : Int, -X1 = Z1 := ⟨_, rfl⟩
            rw [hZ1] at hk hV1
            have hzb : -256 < Z1 ∧ Z1 < 256 := by omega
            clear hZ1
            obtain ⟨f2, hf2⟩ : ∃ f2 : Nat → Int, f2 = (fun j => if j = i then Z1 else f j) := ⟨_, rfl⟩
            rw [← hf2] at hk
            have hfi : Hid (f2 i = Z1) := by rw [hf2]; exact if_pos rfl
            have hfo : Hid (∀ j, j ≠ i → f2 j = f j) := fun j hj => by rw [hf2]; exact if_neg hj
            clear hf2
            obtain ⟨⟨r0, r1, r2, r3⟩, hs1, hs2, _⟩ := FR.out _ hB
            have hfc := hk.cell i
            rw [rowF_get f2 hiN, hfi.out] at hfc
            have hff := hk.free i
            by_cases h2 : i < n2
            · have t2 : (i : Int) < n2 := by omega
              obtain ⟨b2, o2, rfl, hc2'⟩ := hs2.at_ (k := n2 - 1 - i) (by omega)
              have hp2 := SDY.out i (n2 - 1 - i) h2 rfl
              have hbd2 := nth_bound y0.size (n2 - 1 - i)
              rw [← hp2] at hc2' hbd2
              have hv2 := SVY.out i
              clear hp2
              obtain ⟨X2, hX2⟩ : ∃ X2, pl y0.size i = X2 := ⟨_, rfl⟩
              rw [hX2] at hc2' hbd2 hv2
              obtain ⟨k2, hk2⟩ : ∃ k2, n2 - 1 - i = k2 := ⟨_, rfl⟩
              rw [hk2] at hc2'
              have u1 : (n2 : Int) - 1 - i = (k2 : Int) := by omega
              have u2 : k2 < n2 := by omega
              have u3 : (k2 : Int) < n2 := by omega
              clear hX2 hk2
              cases hp : y0.below with
              | false =>
                rw [hp] at r2
                have hv : sd y0 i = X2 := by rw [hv2, hp]; simp
                have hset := hk.set i (.int .i64 (Z1 + X2))
                rw [rowF_set _ _ hiN] at hset
                have hBs := Only.below ((Only.refl g wr2).setCell (p := ⟨g, i, none⟩) rfl (.int .i64 (Z1 + X2))) hB (Nat.le_refl _) hg
                have hFN : Hid (∀ j, (if j = i then (Z1 + X2) else f2 j) = if j < i + 1 then dd x0 y0 j else 0) := by
                  intro j
                  by_cases hj : j = i
                  · subst hj
                    rw [if_pos rfl, if_pos (by omega)]; unfold dd; rw [hv, hV1.out]
                  · rw [if_neg hj]
                    rw [hfo.out j hj]
                    have := hfx.out j
                    rw [this]
                    by_cases hji : j < i
                    · rw [if_pos hji, if_pos (by omega)]
                    · rw [if_neg hji, if_neg (by omega)]
                clear hv hv2 hp hfx hV1 hf hk
                go_wp2
                refine ⟨⟨i + 1, _, by omega, by go_num, hset, hFN, hBs, by show g ≤ (wr2.setCell _ _).heap.size; simp [World.setCell]; exact hg⟩, by simp [intOf]; omega⟩
              | true =>
                rw [hp] at r2
                have hv : sd y0 i = -X2 := by rw [hv2, hp]; simp
                have hset := hk.set i (.int .i64 (Z1 + -X2))
                rw [rowF_set _ _ hiN] at hset
                have hBs := Only.below ((Only.refl g wr2).setCell (p := ⟨g, i, none⟩) rfl (.int .i64 (Z1 + -X2))) hB (Nat.le_refl _) hg
                have hFN : Hid (∀ j, (if j = i then (Z1 + -X2) else f2 j) = if j < i + 1 then dd x0 y0 j else 0) := by
                  intro j
                  by_cases hj : j = i
                  · subst hj
                    rw [if_pos rfl, if_pos (by omega)]; unfold dd; rw [hv, hV1.out]
                  · rw [if_neg hj]
                    rw [hfo.out j hj]
                    have := hfx.out j
                    rw [this]
                    by_cases hji : j < i
                    · rw [if_pos hji, if_pos (by omega)]
                    · rw [if_neg hji, if_neg (by omega)]
                have wx : IntKind.i64.wrap (-X2) = -X2 := IntWalk.i64_in _ (by omega)
                clear hv hv2 hp hfx hV1 hf hk
                go_wp2
                refine ⟨⟨i + 1, _, by omega, by go_num, hset, hFN, hBs, by show g ≤ (wr2.setCell _ _).heap.size; simp [World.setCell]; exact hg⟩, by simp [intOf]; omega⟩
            · have t2 : ¬ (i : Int) < n2 := by omega
              have t2b : (n2 : Int) ≤ i := by omega
              have hv := SFY.out i (by omega)
              have hFN : Hid (∀ j, f2 j = if j < i + 1 then dd x0 y0 j else 0) := by
                intro j
                by_cases hj : j = i
                · subst hj
                  rw [hfi.out, if_pos (by omega)]; unfold dd; rw [hv, hV1.out]; omega
                · rw [hfo.out j hj, hfx.out j]
                  by_cases hji : j < i
                  · rw [if_pos hji, if_pos (by omega)]
                  · rw [if_neg hji, if_neg (by omega)]
              clear hv hfx hV1 hf
              go_wp2
              refine ⟨⟨i + 1, _, by omega, by go_num, hk, hFN, hB, hg⟩, by simp [intOf]; omega⟩
        · have t3 : ¬ (i : Int) < n1 := by omega
          have t3b : (n1 : Int) ≤ i := by omega
          have hV1 : Hid (sd x0 i = 0) := SFX.out i (by omega)
          have hfx := hf
          by_cases h2 : i < n2
          · have t2 : (i : Int) < n2 := by omega
            obtain ⟨b2, o2, rfl, hc2'⟩ := hs2.at_ (k := n2 - 1 - i) (by omega)
            have hp2 := SDY.out i (n2 - 1 - i) h2 rfl
            have hbd2 := nth_bound y0.size (n2 - 1 - i)
            rw [← hp2] at hc2' hbd2
            have hv2 := SVY.out i
            clear hp2
            obtain ⟨X2, hX2⟩ : ∃ X2, pl y0.size i = X2 := ⟨_, rfl⟩
            rw [hX2] at hc2' hbd2 hv2
            obtain ⟨k2, hk2⟩ : ∃ k2, n2 - 1 - i = k2 := ⟨_, rfl⟩
            rw [hk2] at hc2'
            have u1 : (n2 : Int) - 1 - i = (k2 : Int) := by omega
            have u2 : k2 < n2 := by omega
            have u3 : (k2 : Int) < n2 := by omega
            clear hX2 hk2
            cases hp : y0.below with
            | false =>
              rw [hp] at r2
              have hv : sd y0 i = X2 := by rw [hv2, hp]; simp
              have hset := hk.set i (.int .i64 (X2))
              rw [rowF_set _ _ hiN] at hset
              have hBs := Only.below ((Only.refl g wr).setCell (p := ⟨g, i, none⟩) rfl (.int .i64 (X2))) hB (Nat.le_refl _) hg
              have hFN : Hid (∀ j, (if j = i then (X2) else f j) = if j < i + 1 then dd x0 y0 j else 0) := by
                intro j
                by_cases hj : j = i
                · subst hj
                  rw [if_pos rfl, if_pos (by omega)]; unfold dd; rw [hv, hV1.out] <;> omega
                · rw [if_neg hj]
                  have := hfx.out j
                  rw [this]
                  by_cases hji : j < i
                  · rw [if_pos hji, if_pos (by omega)]
                  · rw [if_neg hji, if_neg (by omega)]
              clear hv hv2 hp hfx hV1 hf hk
              go_wp2
              refine ⟨⟨i + 1, _, by omega, by go_num, hset, hFN, hBs, by show g ≤ (wr.setCell _ _).heap.size; simp [World.setCell]; exact hg⟩, by simp [intOf]; omega⟩
            | true =>
              rw [hp] at r2
              have hv : sd y0 i = -X2 := by rw [hv2, hp]; simp
              have hset := hk.set i (.int .i64 (-X2))
              rw [rowF_set _ _ hiN] at hset
              have hBs := Only.below ((Only.refl g wr).setCell (p := ⟨g, i, none⟩) rfl (.int .i64 (-X2))) hB (Nat.le_refl _) hg
              have hFN : Hid (∀ j, (if j = i then (-X2) else f j) = if j < i + 1 then dd x0 y0 j else 0) := by
                intro j
                by_cases hj : j = i
                · subst hj
                  rw [if_pos rfl, if_pos (by omega)]; unfold dd; rw [hv, hV1.out] <;> omega
                · rw [if_neg hj]
                  have := hfx.out j
                  rw [this]
                  by_cases hji : j < i
                  · rw [if_pos hji, if_pos (by omega)]
                  · rw [if_neg hji, if_neg (by omega)]
              have wx : IntKind.i64.wrap (-X2) = -X2 := IntWalk.i64_in _ (by omega)
              clear hv hv2 hp hfx hV1 hf hk
              go_wp2
              refine ⟨⟨i + 1, _, by omega, by go_num, hset, hFN, hBs, by show g ≤ (wr.setCell _ _).heap.size; simp [World.setCell]; exact hg⟩, by simp [intOf]; omega⟩
          · have t2 : ¬ (i : Int) < n2 := by omega
            have t2b : (n2 : Int) ≤ i := by omega
            have hv := SFY.out i (by omega)
            have hFN : Hid (∀ j, f j = if j < i + 1 then dd x0 y0 j else 0) := by
              intro j
              rw [hfx.out j]
              by_cases hj : j = i
              · subst hj
                rw [if_neg (by omega), if_pos (by omega)]; unfold dd; rw [hv, hV1.out]; rfl
              · by_cases hji : j < i
                · rw [if_pos hji, if_pos (by omega)]
                · rw [if_neg hji, if_neg (by omega)]
            clear hv hfx hV1 hf
            go_wp2
            refine ⟨⟨i + 1, _, by omega, by go_num, hk, hFN, hB, hg⟩, by simp [intOf]; omega⟩
      · have hiN2 : N = i := by omega
        subst hiN2
        have t1 : ¬ (N : Int) < N := by omega
        have hfe : Hid (∀ j, j < N → f j = dd x0 y0 j) := fun j hj => by rw [hf.out]; exact if_pos hj
        clear hf
        rename World => wl
        have SGN : Hid (∀ t, t < N → (∀ k, t < k → k < N → f k = 0) → f t ≠ 0 → (f t < 0 → x0.z + y0.z < 0) ∧ (¬ f t < 0 → 0 ≤ x0.z + y0.z)) := by
          intro t ht hz hne
          rw [hfe.out t ht] at hne ⊢
          exact dd_sign x0 y0 (by have := HNX.out; have := HN1.out; omega) (by have := HNY.out; have := HN2.out; omega) ht (fun k h1 h2 => by rw [← hfe.out k h2]; exact hz k h1 h2) hne
        have SUM : Hid (fv f N = x0.z + y0.z) := by unfold Hid; rw [fv_congr hfe.out]; exact fv_dd x0 y0 N (by have := HNX.out; have := HN1.out; omega) (by have := HNY.out; have := HN2.out; omega)
        have FB : Hid (∀ j, j < N → -511 ≤ f j ∧ f j ≤ 511) := fun j hj => by rw [hfe.out j hj]; exact dd_bound x0 y0 j
        have SLT : Hid (-(256 ^ N) < x0.z + y0.z ∧ x0.z + y0.z < 256 ^ N) := sum_lt x0 y0 (by have := HNX.out; have := HN1.out; omega) (by have := HNY.out; have := HN2.out; omega)
        clear hfe SDX SDY SFX SFY SVX SVY
        go_wp2
        go_loop [10, 11] (fun bv iv => ∃ j : Nat, j ≤ N ∧ bv = .bool false ∧ iv = .int .i64 ((j : Int) - 1) ∧ Hid (∀ k, j ≤ k → k < N → f k = 0)) (fun _ iv => (intOf iv + 1).toNat)
        case atStart => exact ⟨N, Nat.le_refl _, rfl, by first | rfl | go_num, fun k h1 h2 => by omega⟩
        case round =>
          obtain ⟨j, hj, rfl, rfl, hz⟩ := hrel
          by_cases hj0 : j = 0
          · subst hj0
            have HS : Hid (0 ≤ x0.z + y0.z) := by unfold Hid; rw [← SUM.out, fv_zero (fun k hk => hz.out k (Nat.zero_le _) hk)]; exact Int.le_refl _
            clear hz SGN
            have hmb : ∀ W : World, (Instr.makeSlice 22 (.int .i64 (N : Int)) (.int .i64 (N : Int))).run Tryd.prog W = .ok (.slice (some ⟨W.heap.size, 0, none⟩) N N) (W.alloc (.cells (Array.replicate N (byteV 0)) 5)) := fun W => by
              have := run_makeN (P := Tryd.prog) 22 5 ui Tryd.underlying22 hui huz0 huz1 huz2 (N : Int) (by omega) (by omega) W
              rw [zeroB_list] at this
              simpa using this
            have kO : Blk (wl.alloc (.cells (Array.replicate N (byteV 0)) 5)) wl.heap.size 5 ((List.replicate N (0 : UInt8)).map byteV) := by have := Blk.new wl ((List.replicate N (0 : UInt8)).map byteV) 5; simpa using this
            have bO := below_alloc1 wl (.cells (Array.replicate N (byteV 0)) 5)
            have kS := Blk.new2 (wl.alloc (.cells (Array.replicate N (byteV 0)) 5)) (.bool false) (.slice (some ⟨wl.heap.size, 0, none⟩) N N) 24
            have bS := below_alloc1 (wl.alloc (.cells (Array.replicate N (byteV 0)) 5)) (.cells #[.bool false, .slice (some ⟨wl.heap.size, 0, none⟩) N N] 24)
            rw [World.size_alloc] at kS
            have kO := kO.below bS
            have kd := (hk.below bO).below bS
            have hBe := (hB.trans (Below.mono bO hg)).trans (Below.mono bS (by simp; omega))
            have hgh : g < wl.heap.size := hk.lt
            have hge : g ≤ ((wl.alloc (.cells (Array.replicate N (byteV 0)) 5)).alloc (.cells #[.bool false, .slice (some ⟨wl.heap.size, 0, none⟩) N N] 24)).heap.size := by simp; omega
            clear bO bS
            go_upto_region 27 with (fail)
            generalize ((wl.alloc (Obj.cells (Array.replicate N (byteV 0)) 5)).alloc (Obj.cells #[.bool false, .slice (some ⟨wl.heap.size, 0, none⟩) N N] 24)) = We at *
            generalize wl.heap.size = h at *
            clear hmb
            have SE : Hid (0 ≤ fv f N ∧ fv f N < 256 ^ N ∧ (if false = true then -(fv f N) else fv f N) = x0.z + y0.z) := by
              have h1 := SUM.out; have h2 := SLT.out; have h3 := HS.out; unfold Hid; rw [h1]; simp; omega
            clear SUM SLT HS
            go_wp2
            go_loopw [13, 14] (fun cv iv w' => ∃ (i : Nat) (c : Int) (C : List UInt8), i ≤ N ∧ -3 ≤ c ∧ c ≤ 2 ∧ cv = .int .i64 c ∧ iv = .int .i64 (i : Int) ∧ C.length = i ∧ Blk w' h 5 ((List.replicate (N - i) (0 : UInt8) ++ C).map byteV) ∧ Hid ((val C : Int) + c * 256 ^ i = fv f i) ∧ Only h We w') (fun _ iv _ => N - (intOf iv).toNat)
            case atStart => exact ⟨0, 0, [], by omega, by omega, by omega, rfl, rfl, rfl, by simpa using kO, by unfold Hid; simp [val, fv], Only.refl _ _⟩
            case round =>
              clear kO
              obtain ⟨i, c, C, hi, hc1, hc2, rfl, rfl, hC, kr, hv, hO⟩ := hrel
              have kd2 := kd.only hO (show g ≠ h by omega)
              have kS2 := kS.only hO (show h + 1 ≠ h by omega)
              have hB2 := Only.below hO hBe (show g ≤ h by omega) hge
              have hg2 : g ≤ wr.heap.size := by have := hO.size; omega
              by_cases hiN : i < N
              · have t1 : (i : Int) < N := by omega
                have hcd := kd2.cell i
                rw [rowF_get f hiN] at hcd
                have hfb := FB.out i hiN
                have hfv : Hid (fv f (i + 1) = fv f i + f i * 256 ^ i) := rfl
                obtain ⟨D, hD⟩ : ∃ D, f i = D := ⟨_, rfl⟩
                rw [hD] at hcd hfb hfv
                clear hD
                obtain ⟨X, hX⟩ : ∃ X, D + c = X := ⟨_, rfl⟩
                have hXb : -514 ≤ X ∧ X ≤ 513 := by omega
                have HX := Lib.hid hX
                have wX : IntKind.i64.wrap (D + c) = X := by rw [hX]; exact IntWalk.i64_in _ (by omega)
                have hcr := kr.free (N - 1 - i)
                obtain ⟨zz, hzz⟩ : ∃ zz, ((List.replicate (N - i) (0 : UInt8) ++ C).map byteV)[N - 1 - i]? = some zz := ⟨_, List.getElem?_eq_getElem (by simp; omega)⟩
                have hcc := kr.cell (N - 1 - i)
                rw [hzz] at hcc
                obtain ⟨s0, s1, _, _⟩ := blk2A kS2
                obtain ⟨m, hm'⟩ : ∃ m, N - 1 - i = m := ⟨_, rfl⟩
                have um1 : (N : Int) - 1 - i = (m : Int) := by omega
                have um2 : m < N := by omega
                have um3 : (m : Int) < N := by omega
                have SETR : Hid (∀ b : UInt8, Blk (wr.setCell ⟨h, m, none⟩ (byteV b)) h 5 ((List.replicate (N - (i + 1)) (0 : UInt8) ++ (b :: C)).map byteV)) := fun b => by
                  have := kr.set m (byteV b)
                  rw [← hm', row_step hC hiN, hm'] at this
                  exact this
                rw [hm'] at hcr hcc
                clear hm' hzz kr
                skip
                go_wp2
                try simp only [hX]
                go_loop [13, 15] (fun cv xv => ∃ (cc x : Int), cv = .int .i64 cc ∧ xv = .int .i64 x ∧ x + 256 * cc = X ∧ cc ≤ 0 ∧ -4 ≤ cc ∧ (cc = 0 ∨ x < 256)) (fun _ xv => (-(intOf xv)).toNat)
                case atStart => exact ⟨0, X, rfl, rfl, by omega, by omega, by omega, .inl rfl⟩
                case round =>
                  obtain ⟨cc, x, rfl, rfl, q1, q2, q3, q4⟩ := hrel
                  by_cases hx0 : x < 0
                  · have b1 : -600 ≤ x := by omega
                    have Q1 := Lib.hid q1
                    clear q1
                    go_wp2
                    go_round
                    case rel => exact ⟨cc - 1, x + 256, by go_num, by go_num, by have := Q1.out; omega, by omega, by have := Q1.out; omega, .inr (by omega)⟩
                    case measure => simp [intOf] <;> omega
                  · have b0 : 0 ≤ x := by omega
                    have b2 : x ≤ 513 := by omega
                    have Q1 := Lib.hid q1
                    clear q1 q4
                    go_wp2
                    go_loop [13, 15] (fun cv xv => ∃ (cc x : Int), cv = .int .i64 cc ∧ xv = .int .i64 x ∧ x + 256 * cc = X ∧ 0 ≤ x ∧ x ≤ 513 ∧ -4 ≤ cc ∧ cc ≤ 4) (fun _ xv => (intOf xv).toNat)
                    case atStart => exact ⟨cc, x, rfl, rfl, Q1.out, b0, b2, by omega, by omega⟩
                    case round =>
                      obtain ⟨cc, x, rfl, rfl, q1, q2, q3, q5, q6⟩ := hrel
                      have Q2 := Lib.hid q1
                      clear q1
                      by_cases hx1 : 255 < x
                      · have hcu : cc ≤ 1 := by have := Q2.out; omega
                        go_wp2
                        go_round
                        case rel => exact ⟨cc + 1, x - 256, by go_num, by go_num, by have := Q2.out; omega, by omega, by omega, by omega, by omega⟩
                        case measure => simp [intOf] <;> omega
                      · have hx2 : x ≤ 255 := by omega
                        obtain ⟨bb, hbb⟩ : ∃ bb : UInt8, (bb.toNat : Int) = x := ⟨UInt8.ofNat x.toNat, by rw [UInt8.toNat_ofNat']; omega⟩
                        have NV : Hid ((val (bb :: C) : Int) + cc * 256 ^ (i + 1) = fv f (i + 1)) := by unfold Hid; rw [hfv.out]; exact out_step (e := D) hC hv.out HX.out.symm (by rw [hbb]; exact Q2.out)
                        have hset := SETR.out bb
                        have HBV : Hid (byteV bb = .int .u8 x) := by unfold Hid byteV; rw [hbb]
                        rw [HBV.out] at hset
                        have hO2 := hO.setCell (p := ⟨h, m, none⟩) rfl (.int .u8 x)
                        have wu : IntKind.u8.wrap x = x := by simp [IntKind.wrap, IntKind.bits, IntKind.signed]; omega
                        have xm : x % 256 = x := by omega
                        have hlo : -3 ≤ cc := by have := Q2.out; omega
                        have hhi : cc ≤ 2 := by have := Q2.out; omega
                        have HCL := Lib.hid hC
                        have hx3 : ¬ 255 < x := hx1
                        clear HBV hbb SETR hfv hv hO kd2 kS2 Q1 hX wX hXb hfb hcd hC Q2 q5 q6 hB2 hg2 HX hx1 kd kS hBe hge FB SE
                        try clear wx
                        go_wp2
                        refine ⟨⟨i + 1, cc, bb :: C, by omega, hlo, hhi, rfl, by go_num, by have := HCL.out; rw [List.length_cons]; omega, hset, NV, hO2⟩, by simp [intOf]; omega⟩
              · have hiN2 : N = i := by omega
                subst hiN2
                have t1 : ¬ (N : Int) < N := by omega
                rw [Nat.sub_self, List.replicate_zero, List.nil_append] at kr
                have hbC := kr.bs
                rw [hC] at hbC
                have hVC := out_end hC hv.out SE.out.1 SE.out.2.1
                have HZC : Hid ((Nm.mk false C).z = x0.z + y0.z) := by unfold Hid Nm.z; have h1 := SE.out.2.2; rw [← hVC] at h1; exact h1
                obtain ⟨s0, s1, _, _⟩ := blk2A kS2
                have MD := ref3Made ⟨false, C⟩ _ wr (NumV.mk' false hbC (Nat.le_refl N)) (by simp only; omega)
                have hml := Nm.mk0_len ⟨false, C⟩
                have hmz := Nm.mk0_z ⟨false, C⟩
                have hmo := Nm.mk0_ok ⟨false, C⟩
                generalize Nm.mk0 ⟨false, C⟩ = S at *
                have HMZ := Lib.hid hmz
                have HMO := Lib.hid hmo
                simp only at hml
                have hTr := (FR.out _ hB2).2.2.2
                clear hmz hmo hVC kr hv hO kd2 hbC
                go_wp2_with fail
                refine MD.mono ?_
                rintro e w9 ⟨v9, rfl, ⟨A9, c9, rfl, s9, hc9⟩, b9⟩
                have hT9 := hTr.frame b9
                have kP := hT9.2.2.1
                have bW9 := hT9.2.2.2.1
                obtain ⟨p0, p1, p2, p3⟩ := blk2A kP
                obtain ⟨q0, q1, _, _⟩ := blk2A (show Blk _ (R + 2) 24 [.bool S.below, .slice A9 S.size.length c9] from (kP.set 0 _).set 1 _)
                have s10 := s9.set2 kP (.bool S.below) (.slice A9 S.size.length c9)
                have bW10 := below_set2 bW9 bW9.size (show w.heap.size ≤ R + 2 by have := HR.out; omega) (.bool S.below) (.slice A9 S.size.length c9)
                have HC9 := Lib.hid hc9
                clear MD hTr hT9 kP s9 b9 bW9 hc9 s0 s1
                go_wp2
                refine bodyPost_ret (v := .agg #[.bool S.below, .slice A9 S.size.length c9]) (by simp [results, Tryd.results30, go_sem, q0, q1]) rfl ?_
                exact GOAL.out S _ _ ⟨A9, c9, rfl, s10, HC9.out⟩ HMO.out (by rw [HMZ.out]; exact HZC.out) (by have h1 := HN.out; have h2 := HN1.out; have h3 := HN2.out; omega) bW10
          · obtain ⟨j', rfl⟩ : ∃ j', j = j' + 1 := ⟨j - 1, by omega⟩
            have te : ((j' + 1 : Nat) : Int) - 1 = (j' : Int) := by omega
            rw [te]
            have hcj := hk.cell j'
            rw [rowF_get f (by omega)] at hcj
            have hjm : j' < N := by omega
            have hjI : (j' : Int) < N := by omega
            obtain ⟨D, hD⟩ : ∃ D, f j' = D := ⟨_, rfl⟩
            rw [hD] at hcj
            by_cases hD0 : D = 0
            · subst hD0
              clear SGN
              go_wp2
              go_round
              case rel => exact ⟨j', by omega, rfl, by go_num, fun k h1 h2 => (by
                by_cases e : k = j'
                · rw [e]; exact hD
                · exact hz.out k (by omega) h2)⟩
              case measure => simp [intOf] <;> omega
            · have e1 : (D == 0) = false := by simpa using hD0
              have e2 : (D != 0) = true := by simpa using hD0
              have hs := SGN.out j' hjm (fun k h1 h2 => hz.out k (by omega) h2) (by rw [hD]; exact hD0)
              rw [hD] at hs
              by_cases hDn : D < 0
              · have HS : Hid (x0.z + y0.z < 0) := hs.1 hDn
                clear hs hz SGN hD e1
                have hmb : ∀ W : World, (Instr.makeSlice 22 (.int .i64 (N : Int)) (.int .i64 (N : Int))).run Tryd.prog W = .ok (.slice (some ⟨W.heap.size, 0, none⟩) N N) (W.alloc (.cells (Array.replicate N (byteV 0)) 5)) := fun W => by
                  have := run_makeN (P := Tryd.prog) 22 5 ui Tryd.underlying22 hui huz0 huz1 huz2 (N : Int) (by omega) (by omega) W
                  rw [zeroB_list] at this
                  simpa using this
                have kO : Blk (wl.alloc (.cells (Array.replicate N (byteV 0)) 5)) wl.heap.size 5 ((List.replicate N (0 : UInt8)).map byteV) := by have := Blk.new wl ((List.replicate N (0 : UInt8)).map byteV) 5; simpa using this
                have bO := below_alloc1 wl (.cells (Array.replicate N (byteV 0)) 5)
                have kS := Blk.new2 (wl.alloc (.cells (Array.replicate N (byteV 0)) 5)) (.bool true) (.slice (some ⟨wl.heap.size, 0, none⟩) N N) 24
                have bS := below_alloc1 (wl.alloc (.cells (Array.replicate N (byteV 0)) 5)) (.cells #[.bool true, .slice (some ⟨wl.heap.size, 0, none⟩) N N] 24)
                rw [World.size_alloc] at kS
                have kO := kO.below bS
                have kd := (hk.below bO).below bS
                have hBe := (hB.trans (Below.mono bO hg)).trans (Below.mono bS (by simp; omega))
                have hgh : g < wl.heap.size := hk.lt
                have hge : g ≤ ((wl.alloc (.cells (Array.replicate N (byteV 0)) 5)).alloc (.cells #[.bool true, .slice (some ⟨wl.heap.size, 0, none⟩) N N] 24)).heap.size := by simp; omega
                clear bO bS
                go_upto_region 27 with (fail)
                generalize ((wl.alloc (Obj.cells (Array.replicate N (byteV 0)) 5)).alloc (Obj.cells #[.bool true, .slice (some ⟨wl.heap.size, 0, none⟩) N N] 24)) = We at *
                generalize wl.heap.size = h at *
                clear hmb
                have SE : Hid (0 ≤ fv (fun j => -f j) N ∧ fv (fun j => -f j) N < 256 ^ N ∧ (if true = true then -(fv (fun j => -f j) N) else fv (fun j => -f j) N) = x0.z + y0.z) := by
                  have h1 := SUM.out; have h2 := SLT.out; have h3 := HS.out; unfold Hid; rw [fv_neg, h1]; simp; omega
                clear SUM SLT HS
                go_wp2
                go_loopw [13, 14] (fun cv iv w' => ∃ (i : Nat) (c : Int) (C : List UInt8), i ≤ N ∧ -3 ≤ c ∧ c ≤ 2 ∧ cv = .int .i64 c ∧ iv = .int .i64 (i : Int) ∧ C.length = i ∧ Blk w' h 5 ((List.replicate (N - i) (0 : UInt8) ++ C).map byteV) ∧ Hid ((val C : Int) + c * 256 ^ i = fv (fun j => -f j) i) ∧ Only h We w') (fun _ iv _ => N - (intOf iv).toNat)
                case atStart => exact ⟨0, 0, [], by omega, by omega, by omega, rfl, rfl, rfl, by simpa using kO, by unfold Hid; simp [val, fv], Only.refl _ _⟩
                case round =>
                  clear kO
                  obtain ⟨i, c, C, hi, hc1, hc2, rfl, rfl, hC, kr, hv, hO⟩ := hrel
                  have kd2 := kd.only hO (show g ≠ h by omega)
                  have kS2 := kS.only hO (show h + 1 ≠ h by omega)
                  have hB2 := Only.below hO hBe (show g ≤ h by omega) hge
                  have hg2 : g ≤ wr.heap.size := by have := hO.size; omega
                  by_cases hiN : i < N
                  · have t1 : (i : Int) < N := by omega
                    have hcd := kd2.cell i
                    rw [rowF_get f hiN] at hcd
                    have hfb := FB.out i hiN
                    have hfv : Hid (fv (fun j => -f j) (i + 1) = fv (fun j => -f j) i + (-f i) * 256 ^ i) := rfl
                    obtain ⟨D, hD⟩ : ∃ D, f i = D := ⟨_, rfl⟩
                    rw [hD] at hcd hfb hfv
                    clear hD
                    obtain ⟨X, hX⟩ : ∃ X, -D + c = X := ⟨_, rfl⟩
                    have hXb : -514 ≤ X ∧ X ≤ 513 := by omega
                    have HX := Lib.hid hX
                    have wx : IntKind.i64.wrap (-D) = -D := IntWalk.i64_in _ (by omega)
                    have wX : IntKind.i64.wrap (-D + c) = X := by rw [hX]; exact IntWalk.i64_in _ (by omega)
                    have hcr := kr.free (N - 1 - i)
                    obtain ⟨zz, hzz⟩ : ∃ zz, ((List.replicate (N - i) (0 : UInt8) ++ C).map byteV)[N - 1 - i]? = some zz := ⟨_, List.getElem?_eq_getElem (by simp; omega)⟩
                    have hcc := kr.cell (N - 1 - i)
                    rw [hzz] at hcc
                    obtain ⟨s0, s1, _, _⟩ := blk2A kS2
                    obtain ⟨m, hm'⟩ : ∃ m, N - 1 - i = m := ⟨_, rfl⟩
                    have um1 : (N : Int) - 1 - i = (m : Int) := by omega
                    have um2 : m < N := by omega
                    have um3 : (m : Int) < N := by omega
                    have SETR : Hid (∀ b : UInt8, Blk (wr.setCell ⟨h, m, none⟩ (byteV b)) h 5 ((List.replicate (N - (i + 1)) (0 : UInt8) ++ (b :: C)).map byteV)) := fun b => by
                      have := kr.set m (byteV b)
                      rw [← hm', row_step hC hiN, hm'] at this
                      exact this
                    rw [hm'] at hcr hcc
                    clear hm' hzz kr
                    skip
                    go_wp2
                    try simp only [hX]
                    go_loop [13, 15] (fun cv xv => ∃ (cc x : Int), cv = .int .i64 cc ∧ xv = .int .i64 x ∧ x + 256 * cc = X ∧ cc ≤ 0 ∧ -4 ≤ cc ∧ (cc = 0 ∨ x < 256)) (fun _ xv => (-(intOf xv)).toNat)
                    case atStart => exact ⟨0, X, rfl, rfl, by omega, by omega, by omega, .inl rfl⟩
                    case round =>
                      obtain ⟨cc, x, rfl, rfl, q1, q2, q3, q4⟩ := hrel
                      by_cases hx0 : x < 0
                      · have b1 : -600 ≤ x := by omega
                        have Q1 := Lib.hid q1
                        clear q1
                        go_wp2
                        go_round
                        case rel => exact ⟨cc - 1, x + 256, by go_num, by go_num, by have := Q1.out; omega, by omega, by have := Q1.out; omega, .inr (by omega)⟩
                        case measure => simp [intOf] <;> omega
                      · have b0 : 0 ≤ x := by omega
                        have b2 : x ≤ 513 := by omega
                        have Q1 := Lib.hid q1
                        clear q1 q4
                        go_wp2
                        go_loop [13, 15] (fun cv xv => ∃ (cc x : Int), cv = .int .i64 cc ∧ xv = .int .i64 x ∧ x + 256 * cc = X ∧ 0 ≤ x ∧ x ≤ 513 ∧ -4 ≤ cc ∧ cc ≤ 4) (fun _ xv => (intOf xv).toNat)
                        case atStart => exact ⟨cc, x, rfl, rfl, Q1.out, b0, b2, by omega, by omega⟩
                        case round =>
                          obtain ⟨cc, x, rfl, rfl, q1, q2, q3, q5, q6⟩ := hrel
                          have Q2 := Lib.hid q1
                          clear q1
                          by_cases hx1 : 255 < x
                          · have hcu : cc ≤ 1 := by have := Q2.out; omega
                            go_wp2
                            go_round
                            case rel => exact ⟨cc + 1, x - 256, by go_num, by go_num, by have := Q2.out; omega, by omega, by omega, by omega, by omega⟩
                            case measure => simp [intOf] <;> omega
                          · have hx2 : x ≤ 255 := by omega
                            obtain ⟨bb, hbb⟩ : ∃ bb : UInt8, (bb.toNat : Int) = x := ⟨UInt8.ofNat x.toNat, by rw [UInt8.toNat_ofNat']; omega⟩
                            have NV : Hid ((val (bb :: C) : Int) + cc * 256 ^ (i + 1) = fv (fun j => -f j) (i + 1)) := by unfold Hid; rw [hfv.out]; exact out_step (e := -D) hC hv.out HX.out.symm (by rw [hbb]; exact Q2.out)
                            have hset := SETR.out bb
                            have HBV : Hid (byteV bb = .int .u8 x) := by unfold Hid byteV; rw [hbb]
                            rw [HBV.out] at hset
                            have hO2 := hO.setCell (p := ⟨h, m, none⟩) rfl (.int .u8 x)
                            have wu : IntKind.u8.wrap x = x := by simp [IntKind.wrap, IntKind.bits, IntKind.signed]; omega
                            have xm : x % 256 = x := by omega
                            have hlo : -3 ≤ cc := by have := Q2.out; omega
                            have hhi : cc ≤ 2 := by have := Q2.out; omega
                            have HCL := Lib.hid hC
                            have hx3 : ¬ 255 < x := hx1
                            clear HBV hbb SETR hfv hv hO kd2 kS2 Q1 hX wX hXb hfb hcd hC Q2 q5 q6 hB2 hg2 HX hx1 kd kS hBe hge FB SE
                            try clear wx
                            go_wp2
                            refine ⟨⟨i + 1, cc, bb :: C, by omega, hlo, hhi, rfl, by go_num, by have := HCL.out; rw [List.length_cons]; omega, hset, NV, hO2⟩, by simp [intOf]; omega⟩
                  · have hiN2 : N = i := by omega
                    subst hiN2
                    have t1 : ¬ (N : Int) < N := by omega
                    rw [Nat.sub_self, List.replicate_zero, List.nil_append] at kr
                    have hbC := kr.bs
                    rw [hC] at hbC
                    have hVC := out_end hC hv.out SE.out.1 SE.out.2.1
                    have HZC : Hid ((Nm.mk true C).z = x0.z + y0.z) := by unfold Hid Nm.z; have h1 := SE.out.2.2; rw [← hVC] at h1; exact h1
                    obtain ⟨s0, s1, _, _⟩ := blk2A kS2
                    have MD := ref3Made ⟨true, C⟩ _ wr (NumV.mk' true hbC (Nat.le_refl N)) (by simp only; omega)
                    have hml := Nm.mk0_len ⟨true, C⟩
                    have hmz := Nm.mk0_z ⟨true, C⟩
                    have hmo := Nm.mk0_ok ⟨true, C⟩
                    generalize Nm.mk0 ⟨true, C⟩ = S at *
                    have HMZ := Lib.hid hmz
                    have HMO := Lib.hid hmo
                    simp only at hml
                    have hTr := (FR.out _ hB2).2.2.2
                    clear hmz hmo hVC kr hv hO kd2 hbC
                    go_wp2_with fail
                    refine MD.mono ?_
                    rintro e w9 ⟨v9, rfl, ⟨A9, c9, rfl, s9, hc9⟩, b9⟩
                    have hT9 := hTr.frame b9
                    have kP := hT9.2.2.1
                    have bW9 := hT9.2.2.2.1
                    obtain ⟨p0, p1, p2, p3⟩ := blk2A kP
                    obtain ⟨q0, q1, _, _⟩ := blk2A (show Blk _ (R + 2) 24 [.bool S.below, .slice A9 S.size.length c9] from (kP.set 0 _).set 1 _)
                    have s10 := s9.set2 kP (.bool S.below) (.slice A9 S.size.length c9)
                    have bW10 := below_set2 bW9 bW9.size (show w.heap.size ≤ R + 2 by have := HR.out; omega) (.bool S.below) (.slice A9 S.size.length c9)
                    have HC9 := Lib.hid hc9
                    clear MD hTr hT9 kP s9 b9 bW9 hc9 s0 s1
                    go_wp2
                    refine bodyPost_ret (v := .agg #[.bool S.below, .slice A9 S.size.length c9]) (by simp [results, Tryd.results30, go_sem, q0, q1]) rfl ?_
                    exact GOAL.out S _ _ ⟨A9, c9, rfl, s10, HC9.out⟩ HMO.out (by rw [HMZ.out]; exact HZC.out) (by have h1 := HN.out; have h2 := HN1.out; have h3 := HN2.out; omega) bW10
              · have HS : Hid (0 ≤ x0.z + y0.z) := hs.2 (by omega)
                have hDn2 : 0 ≤ D := by omega
                clear hs hz SGN hD e1
                have hmb : ∀ W : World, (Instr.makeSlice 22 (.int .i64 (N : Int)) (.int .i64 (N : Int))).run Tryd.prog W = .ok (.slice (some ⟨W.heap.size, 0, none⟩) N N) (W.alloc (.cells (Array.replicate N (byteV 0)) 5)) := fun W => by
                  have := run_makeN (P := Tryd.prog) 22 5 ui Tryd.underlying22 hui huz0 huz1 huz2 (N : Int) (by omega) (by omega) W
                  rw [zeroB_list] at this
                  simpa using this
                have kO : Blk (wl.alloc (.cells (Array.replicate N (byteV 0)) 5)) wl.heap.size 5 ((List.replicate N (0 : UInt8)).map byteV) := by have := Blk.new wl ((List.replicate N (0 : UInt8)).map byteV) 5; simpa using this
                have bO := below_alloc1 wl (.cells (Array.replicate N (byteV 0)) 5)
                have kS := Blk.new2 (wl.alloc (.cells (Array.replicate N (byteV 0)) 5)) (.bool false) (.slice (some ⟨wl.heap.size, 0, none⟩) N N) 24
                have bS := below_alloc1 (wl.alloc (.cells (Array.replicate N (byteV 0)) 5)) (.cells #[.bool false, .slice (some ⟨wl.heap.size, 0, none⟩) N N] 24)
                rw [World.size_alloc] at kS
                have kO := kO.below bS
                have kd := (hk.below bO).below bS
                have hBe := (hB.trans (Below.mono bO hg)).trans (Below.mono bS (by simp; omega))
                have hgh : g < wl.heap.size := hk.lt
                have hge : g ≤ ((wl.alloc (.cells (Array.replicate N (byteV 0)) 5)).alloc (.cells #[.bool false, .slice (some ⟨wl.heap.size, 0, none⟩) N N] 24)).heap.size := by simp; omega
                clear bO bS
                go_upto_region 27 with (fail)
                generalize ((wl.alloc (Obj.cells (Array.replicate N (byteV 0)) 5)).alloc (Obj.cells #[.bool false, .slice (some ⟨wl.heap.size, 0, none⟩) N N] 24)) = We at *
                generalize wl.heap.size = h at *
                clear hmb
                have SE : Hid (0 ≤ fv f N ∧ fv f N < 256 ^ N ∧ (if false = true then -(fv f N) else fv f N) = x0.z + y0.z) := by
                  have h1 := SUM.out; have h2 := SLT.out; have h3 := HS.out; unfold Hid; rw [h1]; simp; omega
                clear SUM SLT HS
                go_wp2
                go_loopw [13, 14] (fun cv iv w' => ∃ (i : Nat) (c : Int) (C : List UInt8), i ≤ N ∧ -3 ≤ c ∧ c ≤ 2 ∧ cv = .int .i64 c ∧ iv = .int .i64 (i : Int) ∧ C.length = i ∧ Blk w' h 5 ((List.replicate (N - i) (0 : UInt8) ++ C).map byteV) ∧ Hid ((val C : Int) + c * 256 ^ i = fv f i) ∧ Only h We w') (fun _ iv _ => N - (intOf iv).toNat)
                case atStart => exact ⟨0, 0, [], by omega, by omega, by omega, rfl, rfl, rfl, by simpa using kO, by unfold Hid; simp [val, fv], Only.refl _ _⟩
                case round =>
                  clear kO
                  obtain ⟨i, c, C, hi, hc1, hc2, rfl, rfl, hC, kr, hv, hO⟩ := hrel
                  have kd2 := kd.only hO (show g ≠ h by omega)
                  have kS2 := kS.only hO (show h + 1 ≠ h by omega)
                  have hB2 := Only.below hO hBe (show g ≤ h by omega) hge
                  have hg2 : g ≤ wr.heap.size := by have := hO.size; omega
                  by_cases hiN : i < N
                  · have t1 : (i : Int) < N := by omega
                    have hcd := kd2.cell i
                    rw [rowF_get f hiN] at hcd
                    have hfb := FB.out i hiN
                    have hfv : Hid (fv f (i + 1) = fv f i + f i * 256 ^ i) := rfl
                    obtain ⟨D, hD⟩ : ∃ D, f i = D := ⟨_, rfl⟩
                    rw [hD] at hcd hfb hfv
                    clear hD
                    obtain ⟨X, hX⟩ : ∃ X, D + c = X := ⟨_, rfl⟩
                    have hXb : -514 ≤ X ∧ X ≤ 513 := by omega
                    have HX := Lib.hid hX
                    have wX : IntKind.i64.wrap (D + c) = X := by rw [hX]; exact IntWalk.i64_in _ (by omega)
                    have hcr := kr.free (N - 1 - i)
                    obtain ⟨zz, hzz⟩ : ∃ zz, ((List.replicate (N - i) (0 : UInt8) ++ C).map byteV)[N - 1 - i]? = some zz := ⟨_, List.getElem?_eq_getElem (by simp; omega)⟩
                    have hcc := kr.cell (N - 1 - i)
                    rw [hzz] at hcc
                    obtain ⟨s0, s1, _, _⟩ := blk2A kS2
                    obtain ⟨m, hm'⟩ : ∃ m, N - 1 - i = m := ⟨_, rfl⟩
                    have um1 : (N : Int) - 1 - i = (m : Int) := by omega
                    have um2 : m < N := by omega
                    have um3 : (m : Int) < N := by omega
                    have SETR : Hid (∀ b : UInt8, Blk (wr.setCell ⟨h, m, none⟩ (byteV b)) h 5 ((List.replicate (N - (i + 1)) (0 : UInt8) ++ (b :: C)).map byteV)) := fun b => by
                      have := kr.set m (byteV b)
                      rw [← hm', row_step hC hiN, hm'] at this
                      exact this
                    rw [hm'] at hcr hcc
                    clear hm' hzz kr
                    skip
                    go_wp2
                    try simp only [hX]
                    go_loop [13, 15] (fun cv xv => ∃ (cc x : Int), cv = .int .i64 cc ∧ xv = .int .i64 x ∧ x + 256 * cc = X ∧ cc ≤ 0 ∧ -4 ≤ cc ∧ (cc = 0 ∨ x < 256)) (fun _ xv => (-(intOf xv)).toNat)
                    case atStart => exact ⟨0, X, rfl, rfl, by omega, by omega, by omega, .inl rfl⟩
                    case round =>
                      obtain ⟨cc, x, rfl, rfl, q1, q2, q3, q4⟩ := hrel
                      by_cases hx0 : x < 0
                      · have b1 : -600 ≤ x := by omega
                        have Q1 := Lib.hid q1
                        clear q1
                        go_wp2
                        go_round
                        case rel => exact ⟨cc - 1, x + 256, by go_num, by go_num, by have := Q1.out; omega, by omega, by have := Q1.out; omega, .inr (by omega)⟩
                        case measure => simp [intOf] <;> omega
                      · have b0 : 0 ≤ x := by omega
                        have b2 : x ≤ 513 := by omega
                        have Q1 := Lib.hid q1
                        clear q1 q4
                        go_wp2
                        go_loop [13, 15] (fun cv xv => ∃ (cc x : Int), cv = .int .i64 cc ∧ xv = .int .i64 x ∧ x + 256 * cc = X ∧ 0 ≤ x ∧ x ≤ 513 ∧ -4 ≤ cc ∧ cc ≤ 4) (fun _ xv => (intOf xv).toNat)
                        case atStart => exact ⟨cc, x, rfl, rfl, Q1.out, b0, b2, by omega, by omega⟩
                        case round =>
                          obtain ⟨cc, x, rfl, rfl, q1, q2, q3, q5, q6⟩ := hrel
                          have Q2 := Lib.hid q1
                          clear q1
                          by_cases hx1 : 255 < x
                          · have hcu : cc ≤ 1 := by have := Q2.out; omega
                            go_wp2
                            go_round
                            case rel => exact ⟨cc + 1, x - 256, by go_num, by go_num, by have := Q2.out; omega, by omega, by omega, by omega, by omega⟩
                            case measure => simp [intOf] <;> omega
                          · have hx2 : x ≤ 255 := by omega
                            obtain ⟨bb, hbb⟩ : ∃ bb : UInt8, (bb.toNat : Int) = x := ⟨UInt8.ofNat x.toNat, by rw [UInt8.toNat_ofNat']; omega⟩
                            have NV : Hid ((val (bb :: C) : Int) + cc * 256 ^ (i + 1) = fv f (i + 1)) := by unfold Hid; rw [hfv.out]; exact out_step (e := D) hC hv.out HX.out.symm (by rw [hbb]; exact Q2.out)
                            have hset := SETR.out bb
                            have HBV : Hid (byteV bb = .int .u8 x) := by unfold Hid byteV; rw [hbb]
                            rw [HBV.out] at hset
                            have hO2 := hO.setCell (p := ⟨h, m, none⟩) rfl (.int .u8 x)
                            have wu : IntKind.u8.wrap x = x := by simp [IntKind.wrap, IntKind.bits, IntKind.signed]; omega
                            have xm : x % 256 = x := by omega
                            have hlo : -3 ≤ cc := by have := Q2.out; omega
                            have hhi : cc ≤ 2 := by have := Q2.out; omega
                            have HCL := Lib.hid hC
                            have hx3 : ¬ 255 < x := hx1
                            clear HBV hbb SETR hfv hv hO kd2 kS2 Q1 hX wX hXb hfb hcd hC Q2 q5 q6 hB2 hg2 HX hx1 kd kS hBe hge FB SE
                            try clear wx
                            go_wp2
                            refine ⟨⟨i + 1, cc, bb :: C, by omega, hlo, hhi, rfl, by go_num, by have := HCL.out; rw [List.length_cons]; omega, hset, NV, hO2⟩, by simp [intOf]; omega⟩
                  · have hiN2 : N = i := by omega
                    subst hiN2
                    have t1 : ¬ (N : Int) < N := by omega
                    rw [Nat.sub_self, List.replicate_zero, List.nil_append] at kr
                    have hbC := kr.bs
                    rw [hC] at hbC
                    have hVC := out_end hC hv.out SE.out.1 SE.out.2.1
                    have HZC : Hid ((Nm.mk false C).z = x0.z + y0.z) := by unfold Hid Nm.z; have h1 := SE.out.2.2; rw [← hVC] at h1; exact h1
                    obtain ⟨s0, s1, _, _⟩ := blk2A kS2
                    have MD := ref3Made ⟨false, C⟩ _ wr (NumV.mk' false hbC (Nat.le_refl N)) (by simp only; omega)
                    have hml := Nm.mk0_len ⟨false, C⟩
                    have hmz := Nm.mk0_z ⟨false, C⟩
                    have hmo := Nm.mk0_ok ⟨false, C⟩
                    generalize Nm.mk0 ⟨false, C⟩ = S at *
                    have HMZ := Lib.hid hmz
                    have HMO := Lib.hid hmo
                    simp only at hml
                    have hTr := (FR.out _ hB2).2.2.2
                    clear hmz hmo hVC kr hv hO kd2 hbC
                    go_wp2_with fail
                    refine MD.mono ?_
                    rintro e w9 ⟨v9, rfl, ⟨A9, c9, rfl, s9, hc9⟩, b9⟩
                    have hT9 := hTr.frame b9
                    have kP := hT9.2.2.1
                    have bW9 := hT9.2.2.2.1
                    obtain ⟨p0, p1, p2, p3⟩ := blk2A kP
                    obtain ⟨q0, q1, _, _⟩ := blk2A (show Blk _ (R + 2) 24 [.bool S.below, .slice A9 S.size.length c9] from (kP.set 0 _).set 1 _)
                    have s10 := s9.set2 kP (.bool S.below) (.slice A9 S.size.length c9)
                    have bW10 := below_set2 bW9 bW9.size (show w.heap.size ≤ R + 2 by have := HR.out; omega) (.bool S.below) (.slice A9 S.size.length c9)
                    have HC9 := Lib.hid hc9
                    clear MD hTr hT9 kP s9 b9 bW9 hc9 s0 s1
                    go_wp2
                    refine bodyPost_ret (v := .agg #[.bool S.below, .slice A9 S.size.length c9]) (by simp [results, Tryd.results30, go_sem, q0, q1]) rfl ?_
                    exact GOAL.out S _ _ ⟨A9, c9, rfl, s10, HC9.out⟩ HMO.out (by rw [HMZ.out]; exact HZC.out) (by have h1 := HN.out; have h2 := HN1.out; have h3 := HN2.out; omega) bW10

end Go.Proofs.YtbjiknfebocepaaDoor
