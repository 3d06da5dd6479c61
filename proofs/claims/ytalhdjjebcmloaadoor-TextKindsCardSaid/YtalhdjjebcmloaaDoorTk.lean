/-
  The law TextKinds: kinds within kinds.
-/
import Derived.Test.YtalhdjjebcmloaaDoorTj
namespace Go.Proofs.YtalhdjjebcmloaaDoor
open Go.RowKit Go.Shelf
set_option linter.unusedVariables false
set_option linter.unusedSimpArgs false
set_option maxRecDepth 4000

/-- Where characters are single bytes, they are these. -/
theorem runes_single (k : Int) (h12 : k ≠ 12) (h30 : k ≠ 30) (l : List UInt8) : runesT k l = l.map (fun b => (b.toNat : Int)) := by
  induction l with
  | nil => rw [runesT_nil]; rfl
  | cons b t ih =>
    have hd : decT k (b :: t) = ((b.toNat : Int), 1) := by simp [decT, h12, h30, nth]
    rw [runesT_step k _ (by simp), hd]
    simp [ih]
theorem runes_ascii12 (l : List UInt8) (h : ∀ b ∈ l, b.toNat < 128) : runesT 12 l = l.map (fun b => (b.toNat : Int)) := by
  induction l with
  | nil => rw [runesT_nil]; rfl
  | cons b t ih =>
    have hb : b.toNat < 128 := h b (by simp)
    have hd : decT 12 (b :: t) = ((b.toNat : Int), 1) := by
      have : Lib.decodeL (b :: t) = (b.toNat, 1) := by
        rw [Lib.decodeL_N]; simp [Lib.decodeN, hb]
      simp only [decT, this, if_true]
      rw [if_neg (by simp; omega)]
    rw [runesT_step 12 _ (by simp), hd]
    simp only [List.drop_succ_cons, List.drop_zero, List.map_cons]
    rw [ih (fun x hx => h x (by simp [hx]))]
theorem right_single {k : Int} (hk : k = 19 ∨ k = 20 ∨ k = 22 ∨ k = 26) (l : List UInt8) : rightT k l = true ↔ ∀ b ∈ l, hasT k (b.toNat : Int) = true := by
  unfold rightT
  rw [runes_single k (by omega) (by omega)]
  have : isK k = true := by unfold isK; exact decide_eq_true (by omega)
  rw [this, Bool.true_and, List.all_eq_true]
  simp
theorem right20 (l : List UInt8) : rightT 20 l = true := by
  rw [right_single (by omega)]
  intro b _
  have := b.toNat_lt
  simp [hasT]; omega
theorem kinds_a {l : List UInt8} (h : rightT 19 l = true) : rightT 26 l = true := by
  rw [right_single (by omega)] at h ⊢
  intro b hb
  have := h b hb
  simp [hasT, plainT, markT] at this ⊢
  omega
theorem kinds_b {l : List UInt8} (h : rightT 26 l = true) : rightT 22 l = true := by
  rw [right_single (by omega)] at h ⊢
  intro b hb
  have := h b hb
  simp [hasT] at this ⊢
  omega
theorem ascii_of {l : List UInt8} (h : rightT 22 l = true) : ∀ b ∈ l, b.toNat < 128 := by
  rw [right_single (by omega)] at h
  intro b hb
  have := h b hb
  simp [hasT] at this
  omega
theorem kinds_c {l : List UInt8} (h : rightT 22 l = true) : rightT 12 l = true := by
  have ha := ascii_of h
  unfold rightT
  rw [runes_ascii12 l ha]
  have : isK 12 = true := rfl
  rw [this, Bool.true_and, List.all_eq_true]
  intro r hr
  obtain ⟨b, hb, rfl⟩ := List.mem_map.1 hr
  have := ha b hb
  rw [hasT12]
  have hv : Lib.validRune (b.toNat : Int) = decide ((0 ≤ (b.toNat : Int) ∧ (b.toNat : Int) < 55296) ∨ (57343 < (b.toNat : Int) ∧ (b.toNat : Int) ≤ 1114111)) := rfl
  rw [hv]; exact decide_eq_true (by omega)
theorem kinds_d {l : List UInt8} (h : rightT 22 l = true) : runesT 20 l = runesT 12 l := by
  rw [runes_ascii12 l (ascii_of h), runes_single 20 (by omega) (by omega)]

theorem cutTo (A : Option Addr) (n c k : Nat) (hk : k ≤ n) (hc : n ≤ c) (W : World) : (Instr.slice 22 (.slice A n c) none (some (.int .i64 (k : Int))) none).run Tryd.prog W = .ok (.slice A k c) W := by
  go_simp
  have h1 : k ≤ c := by omega
  cases A <;> simp [sliced, h1] <;> omega

theorem kindsIs (k : Int) (g : Nat) (A : Option Addr) (n c : Nat) (l : List UInt8) (w : World) (hT : Tb w) (h : Bs w A n l) (hg : Blk w g 22 [.slice A n c]) (hn : n ≤ 1099511) (hc : n ≤ c) :
    Calls Tryd.prog 32 #[.int .i64 k, .pointer (some ⟨g, 0, none⟩)] w fun e w' => e = .returned (.bool (rightT k l)) ∧ Below w.heap.size w w' := by
  have g0 := hg.cell 0
  simp only [List.getElem?_cons_zero] at g0
  go_enter Tryd.func32, Tryd.ntmps32
  go_wp2_with fail
  refine (txRight k A n c l w hT h hn hc).mono ?_
  rintro e w1 ⟨rfl, hb⟩
  go_wp2
  go_ret
  exact ⟨rfl, hb⟩
/-! The walk. -/

set_option maxHeartbeats 3200000 in
theorem kindsWalk (A : Option Addr) (n0 c : Nat) (l0 : List UInt8) (w : World) (hT : Tb w) (h : Bs w A n0 l0) (hc : n0 ≤ c) :
    Calls Tryd.prog 8 #[.slice A n0 c] w fun e w' => e = .returned (.bool true) ∧ Below w.heap.size w w' := by
  obtain ⟨n, hnn⟩ : ∃ n, min n0 500 = n := ⟨_, rfl⟩
  have hn500 : n ≤ 500 := by omega
  have hnc : n ≤ c := by omega
  have hn0 : n ≤ n0 := by omega
  have hl := h.take hn0
  generalize l0.take n = l at hl
  have hm1 : min (n0 : Int) 500 = (n : Int) := by omega
  have hm2 : (if (500 : Int) < (n0 : Int) then (500 : Int) else (n0 : Int)) = (n : Int) := by split <;> omega
  have hm3 : (if (n0 : Int) < 500 then (n0 : Int) else (500 : Int)) = (n : Int) := by split <;> omega
  have hcut : ∀ W : World, (Instr.slice 22 (.slice A n0 c) none (some (.int .i64 (n : Int))) none).run Tryd.prog W = .ok (.slice A n c) W := fun W => cutTo A n0 c n hn0 hc W
  have hb0 := below_alloc1 w (.cells #[.slice A n0 c] 22)
  have hg0 := Blk.new w [.slice A n0 c] 22
  have hl0 := hl.below hb0
  have hT0 := hT.below hb0
  have g0 := hg0.cell 0
  have g1 := hg0.free 0
  simp only [List.getElem?_cons_zero] at g0
  obtain ⟨W1, hW1⟩ : ∃ W1, (w.alloc (.cells #[.slice A n0 c] 22)).setCell ⟨w.heap.size, 0, none⟩ (.slice A n c) = W1 := ⟨_, rfl⟩
  have hB1 : Below w.heap.size w W1 := by rw [← hW1]; exact hb0.setCell (p := ⟨w.heap.size, 0, none⟩) (Nat.le_refl _) _
  have hG1 : Blk W1 w.heap.size 22 [.slice A n c] := by rw [← hW1]; exact hg0.set 0 _
  have hl1 : Bs W1 A n l := hl.below hB1
  have hT1 : Tb W1 := hT.below hB1
  have k0 := hG1.cell 0
  simp only [List.getElem?_cons_zero] at k0
  have hS20 := txSignsYes 20 A n c l W1 hT1 hl1 (by omega) hnc (right20 l)
  have hGIS := Lib.hid (fun (W : World) (hT : Tb W) (h : Bs W A n l) (hg : Blk W w.heap.size 22 [.slice A n c]) (k : Int) => kindsIs k w.heap.size A n c l W hT h hg (by omega) hnc)
  have hS12y := Lib.hid (fun (W : World) (hT : Tb W) (h : Bs W A n l) (hr : rightT 12 l = true) => txSignsYes 12 A n c l W hT h (by omega) hnc hr)
  have hS12n := Lib.hid (fun (W : World) (hT : Tb W) (h : Bs W A n l) (hr : rightT 12 l = false) => txSignsNo 12 A n c l W hT h (by omega) hnc hr)
  have hla := Lib.hid (@kinds_a l)
  have hlb := Lib.hid (@kinds_b l)
  have hlc := Lib.hid (@kinds_c l)
  have hld := Lib.hid (@kinds_d l)
  have hr20 := right20 l
  have hlen := Lib.hid hl1.len
  have hlr := Lib.hid (runesT_length 20 l)
  have hlr2 := Lib.hid (runesT_length 12 l)
  generalize hr12 : rightT 12 l = r12 at *
  generalize hr19 : rightT 19 l = r19 at *
  generalize hr22 : rightT 22 l = r22 at *
  generalize hr26 : rightT 26 l = r26 at *
  have hn500x := hn500
  have E12 := Lib.hid hr12
  have E19 := Lib.hid hr19
  have E22 := Lib.hid hr22
  have E26 := Lib.hid hr26
  have E20 := Lib.hid hr20
  clear hnn hl hl0 hT0 hb0 hg0 h hT hr12 hr19 hr22 hr26 hr20 hn500 hn0 hc
  have hHnc := Lib.hid hnc
  have hH5 := Lib.hid hn500x
  clear hnc hn500x
  go_enter Tryd.func8, Tryd.ntmps8
  go_wp2_with fail
  refine hS20.mono ?_
  rintro e w2 ⟨v1, rfl, hov1, hb2⟩
  obtain ⟨A1, c1, rfl, hc1, hvs1⟩ := hov1.slice
  have hz1 : Zs w2 A1 ((runesT 20 l).map intV).length (runesT 20 l) := hvs1
  rw [List.length_map] at hz1 ⊢
  have hB2 := hB1.trans (Below.mono hb2 hB1.size)
  have hG2 := hG1.below hb2
  have hl2 := hl1.below hb2
  have hT2 := hT1.below hb2
  clear hW1 hS20 hov1 hvs1 k0 g0 g1 hb2 hl1 hT1 hG1 hB1 hm1 hm2 hm3 hcut
  have k0 := hG2.cell 0
  simp only [List.getElem?_cons_zero] at k0
  cases r12
  · have n22 : r22 = false := Bool.eq_false_iff.2 fun hx => absurd (hlc.out hx) (by simp)
    have n26 : r26 = false := Bool.eq_false_iff.2 fun hx => absurd (hlb.out hx) (by simp [n22])
    have n19 : r19 = false := Bool.eq_false_iff.2 fun hx => absurd (hla.out hx) (by simp [n26])
    subst n22 n26 n19
    go_wp2_with fail
    refine (hS12n.out w2 hT2 hl2 (by first | exact trivial | rfl)).mono ?_
    rintro e w3 ⟨rfl, hb3⟩
    have hB3 := hB2.trans (Below.mono hb3 hB2.size)
    have hG3 := hG2.below hb3
    have hl3 := hl2.below hb3
    have hT3 := hT2.below hb3
    have IS12 : Hid (∀ (W : World), Below w3.heap.size w3 W → Calls Tryd.prog 32 #[.int .i64 12, .pointer (some ⟨w.heap.size, 0, none⟩)] W fun e w' => e = .returned (.bool false) ∧ Below W.heap.size W w') :=
      Lib.hid fun W hW => by have hx := hGIS.out W (hT3.below hW) (hl3.below hW) (hG3.below hW) 12; rw [E12.out] at hx; exact hx
    have IS19 : Hid (∀ (W : World), Below w3.heap.size w3 W → Calls Tryd.prog 32 #[.int .i64 19, .pointer (some ⟨w.heap.size, 0, none⟩)] W fun e w' => e = .returned (.bool false) ∧ Below W.heap.size W w') :=
      Lib.hid fun W hW => by have hx := hGIS.out W (hT3.below hW) (hl3.below hW) (hG3.below hW) 19; rw [E19.out] at hx; exact hx
    have IS22 : Hid (∀ (W : World), Below w3.heap.size w3 W → Calls Tryd.prog 32 #[.int .i64 22, .pointer (some ⟨w.heap.size, 0, none⟩)] W fun e w' => e = .returned (.bool false) ∧ Below W.heap.size W w') :=
      Lib.hid fun W hW => by have hx := hGIS.out W (hT3.below hW) (hl3.below hW) (hG3.below hW) 22; rw [E22.out] at hx; exact hx
    have IS26 : Hid (∀ (W : World), Below w3.heap.size w3 W → Calls Tryd.prog 32 #[.int .i64 26, .pointer (some ⟨w.heap.size, 0, none⟩)] W fun e w' => e = .returned (.bool false) ∧ Below W.heap.size W w') :=
      Lib.hid fun W hW => by have hx := hGIS.out W (hT3.below hW) (hl3.below hW) (hG3.below hW) 26; rw [E26.out] at hx; exact hx
    have IS20 : Hid (∀ (W : World), Below w3.heap.size w3 W → Calls Tryd.prog 32 #[.int .i64 20, .pointer (some ⟨w.heap.size, 0, none⟩)] W fun e w' => e = .returned (.bool true) ∧ Below W.heap.size W w') :=
      Lib.hid fun W hW => by have hx := hGIS.out W (hT3.below hW) (hl3.below hW) (hG3.below hW) 20; rw [E20.out] at hx; exact hx
    have KN : Hid (∀ (W : World), Below w3.heap.size w3 W → Calls Tryd.prog 15 #[] W fun e w' => e = .returned (.bool true) ∧ Below W.heap.size W w') :=
      Lib.hid fun W hW => known6 W (hT3.below hW)
    have hB : Below w3.heap.size w3 w3 := Below.refl _ _
    clear E12 E19 E22 E26 E20 hHnc hS12n hS12y hla hlb hlc hld hG2 hl2 hT2 hG3 hl3 hT3 hGIS k0 hb3 hz1 hc1
    go_wp2_with fail
    refine (IS19.out _ hB).mono ?_
    rintro e x0 ⟨rfl, hb⟩
    replace hB := hB.trans (Below.mono hb hB.size)
    clear hb
    go_wp2_with fail
    refine (IS26.out _ hB).mono ?_
    rintro e x1 ⟨rfl, hb⟩
    replace hB := hB.trans (Below.mono hb hB.size)
    clear hb
    go_wp2_with fail
    refine (IS22.out _ hB).mono ?_
    rintro e x2 ⟨rfl, hb⟩
    replace hB := hB.trans (Below.mono hb hB.size)
    clear hb
    go_wp2_with fail
    refine (IS20.out _ hB).mono ?_
    rintro e x3 ⟨rfl, hb⟩
    replace hB := hB.trans (Below.mono hb hB.size)
    clear hb
    go_wp2_with fail
    refine (KN.out _ hB).mono ?_
    rintro e x4 ⟨rfl, hb⟩
    replace hB := hB.trans (Below.mono hb hB.size)
    clear hb
    go_wp2_with fail
    refine (IS22.out _ hB).mono ?_
    rintro e x5 ⟨rfl, hb⟩
    replace hB := hB.trans (Below.mono hb hB.size)
    clear hb
    go_wp2
    go_ret
    exact ⟨rfl, hB3.trans (Below.mono hB hB3.size)⟩
  · go_wp2_with fail
    refine (hS12y.out w2 hT2 hl2 (by first | exact trivial | rfl)).mono ?_
    rintro e w3 ⟨v2, rfl, hov2, hb3⟩
    obtain ⟨A2, c2, rfl, hc2, hvs2⟩ := hov2.slice
    have hz2 : Zs w3 A2 ((runesT 12 l).map intV).length (runesT 12 l) := hvs2
    rw [List.length_map] at hz2 ⊢
    have hB3 := hB2.trans (Below.mono hb3 hB2.size)
    have hG3 := hG2.below hb3
    have hl3 := hl2.below hb3
    have hT3 := hT2.below hb3
    have IS12 : Hid (∀ (W : World), Below w3.heap.size w3 W → Calls Tryd.prog 32 #[.int .i64 12, .pointer (some ⟨w.heap.size, 0, none⟩)] W fun e w' => e = .returned (.bool true) ∧ Below W.heap.size W w') :=
      Lib.hid fun W hW => by have hx := hGIS.out W (hT3.below hW) (hl3.below hW) (hG3.below hW) 12; rw [E12.out] at hx; exact hx
    have IS19 : Hid (∀ (W : World), Below w3.heap.size w3 W → Calls Tryd.prog 32 #[.int .i64 19, .pointer (some ⟨w.heap.size, 0, none⟩)] W fun e w' => e = .returned (.bool r19) ∧ Below W.heap.size W w') :=
      Lib.hid fun W hW => by have hx := hGIS.out W (hT3.below hW) (hl3.below hW) (hG3.below hW) 19; rw [E19.out] at hx; exact hx
    have IS22 : Hid (∀ (W : World), Below w3.heap.size w3 W → Calls Tryd.prog 32 #[.int .i64 22, .pointer (some ⟨w.heap.size, 0, none⟩)] W fun e w' => e = .returned (.bool r22) ∧ Below W.heap.size W w') :=
      Lib.hid fun W hW => by have hx := hGIS.out W (hT3.below hW) (hl3.below hW) (hG3.below hW) 22; rw [E22.out] at hx; exact hx
    have IS26 : Hid (∀ (W : World), Below w3.heap.size w3 W → Calls Tryd.prog 32 #[.int .i64 26, .pointer (some ⟨w.heap.size, 0, none⟩)] W fun e w' => e = .returned (.bool r26) ∧ Below W.heap.size W w') :=
      Lib.hid fun W hW => by have hx := hGIS.out W (hT3.below hW) (hl3.below hW) (hG3.below hW) 26; rw [E26.out] at hx; exact hx
    have IS20 : Hid (∀ (W : World), Below w3.heap.size w3 W → Calls Tryd.prog 32 #[.int .i64 20, .pointer (some ⟨w.heap.size, 0, none⟩)] W fun e w' => e = .returned (.bool true) ∧ Below W.heap.size W w') :=
      Lib.hid fun W hW => by have hx := hGIS.out W (hT3.below hW) (hl3.below hW) (hG3.below hW) 20; rw [E20.out] at hx; exact hx
    have KN : Hid (∀ (W : World), Below w3.heap.size w3 W → Calls Tryd.prog 15 #[] W fun e w' => e = .returned (.bool true) ∧ Below W.heap.size W w') :=
      Lib.hid fun W hW => known6 W (hT3.below hW)
    have hB : Below w3.heap.size w3 w3 := Below.refl _ _
    have hz3 := hz1.below hb3
    clear E12 E19 E22 E26 E20 hHnc hS12n hS12y hG2 hl2 hT2 hG3 hl3 hT3 hGIS k0 hb3 hz1 hc1 hov2 hvs2 hc2
    cases r22
    · have n26 : r26 = false := Bool.eq_false_iff.2 fun hx => absurd (hlb.out hx) (by simp)
      have n19 : r19 = false := Bool.eq_false_iff.2 fun hx => absurd (hla.out hx) (by simp [n26])
      subst n26 n19
      clear hla hlb hlc hld hz2 hz3
      go_wp2_with fail
      refine (IS19.out _ hB).mono ?_
      rintro e x0 ⟨rfl, hb⟩
      replace hB := hB.trans (Below.mono hb hB.size)
      clear hb
      go_wp2_with fail
      refine (IS26.out _ hB).mono ?_
      rintro e x1 ⟨rfl, hb⟩
      replace hB := hB.trans (Below.mono hb hB.size)
      clear hb
      go_wp2_with fail
      refine (IS22.out _ hB).mono ?_
      rintro e x2 ⟨rfl, hb⟩
      replace hB := hB.trans (Below.mono hb hB.size)
      clear hb
      go_wp2_with fail
      refine (IS20.out _ hB).mono ?_
      rintro e x3 ⟨rfl, hb⟩
      replace hB := hB.trans (Below.mono hb hB.size)
      clear hb
      go_wp2_with fail
      refine (KN.out _ hB).mono ?_
      rintro e x4 ⟨rfl, hb⟩
      replace hB := hB.trans (Below.mono hb hB.size)
      clear hb
      go_wp2_with fail
      refine (IS22.out _ hB).mono ?_
      rintro e x5 ⟨rfl, hb⟩
      replace hB := hB.trans (Below.mono hb hB.size)
      clear hb
      go_wp2
      go_ret
      exact ⟨rfl, hB3.trans (Below.mono hB hB3.size)⟩
    · have SM : Hid (∀ (W : World), Below w3.heap.size w3 W → Calls Tryd.prog 18 #[.slice A1 (runesT 20 l).length c1, .slice A2 (runesT 12 l).length c2] W fun e w' => e = .returned (.bool true) ∧ Below w3.heap.size W w') := by
        refine Lib.hid fun W hW => ?_
        have e1 := hld.out rfl
        refine (ref4Same A1 A2 _ _ c1 c2 _ _ W (hz3.below hW) (hz2.below hW) (by have := hlr.out; have := hlen.out; have := hH5.out; omega) (by have := hlr2.out; have := hlen.out; have := hH5.out; omega)).mono ?_
        rintro e w' ⟨rfl, hq⟩
        exact ⟨by rw [decide_eq_true e1], hq.below⟩
      clear hld hlc hz2 hz3
      cases r26
      · have n19 : r19 = false := Bool.eq_false_iff.2 fun hx => absurd (hla.out hx) (by simp)
        subst n19
        clear hla hlb
        go_wp2_with fail
        refine (IS19.out _ hB).mono ?_
        rintro e x0 ⟨rfl, hb⟩
        replace hB := hB.trans (Below.mono hb hB.size)
        clear hb
        go_wp2_with fail
        refine (IS26.out _ hB).mono ?_
        rintro e x1 ⟨rfl, hb⟩
        replace hB := hB.trans (Below.mono hb hB.size)
        clear hb
        go_wp2_with fail
        refine (IS22.out _ hB).mono ?_
        rintro e x2 ⟨rfl, hb⟩
        replace hB := hB.trans (Below.mono hb hB.size)
        clear hb
        go_wp2_with fail
        refine (IS12.out _ hB).mono ?_
        rintro e x3 ⟨rfl, hb⟩
        replace hB := hB.trans (Below.mono hb hB.size)
        clear hb
        go_wp2_with fail
        refine (IS20.out _ hB).mono ?_
        rintro e x4 ⟨rfl, hb⟩
        replace hB := hB.trans (Below.mono hb hB.size)
        clear hb
        go_wp2_with fail
        refine (KN.out _ hB).mono ?_
        rintro e x5 ⟨rfl, hb⟩
        replace hB := hB.trans (Below.mono hb hB.size)
        clear hb
        go_wp2_with fail
        refine (IS22.out _ hB).mono ?_
        rintro e x6 ⟨rfl, hb⟩
        replace hB := hB.trans (Below.mono hb hB.size)
        clear hb
        go_wp2_with fail
        refine (SM.out _ hB).mono ?_
        rintro e x7 ⟨rfl, hb⟩
        replace hB := hB.trans hb
        clear hb
        go_wp2
        go_ret
        exact ⟨rfl, hB3.trans (Below.mono hB hB3.size)⟩
      · clear hlb
        cases r19
        · clear hla
          go_wp2_with fail
          refine (IS19.out _ hB).mono ?_
          rintro e x0 ⟨rfl, hb⟩
          replace hB := hB.trans (Below.mono hb hB.size)
          clear hb
          go_wp2_with fail
          refine (IS26.out _ hB).mono ?_
          rintro e x1 ⟨rfl, hb⟩
          replace hB := hB.trans (Below.mono hb hB.size)
          clear hb
          go_wp2_with fail
          refine (IS22.out _ hB).mono ?_
          rintro e x2 ⟨rfl, hb⟩
          replace hB := hB.trans (Below.mono hb hB.size)
          clear hb
          go_wp2_with fail
          refine (IS22.out _ hB).mono ?_
          rintro e x3 ⟨rfl, hb⟩
          replace hB := hB.trans (Below.mono hb hB.size)
          clear hb
          go_wp2_with fail
          refine (IS12.out _ hB).mono ?_
          rintro e x4 ⟨rfl, hb⟩
          replace hB := hB.trans (Below.mono hb hB.size)
          clear hb
          go_wp2_with fail
          refine (IS20.out _ hB).mono ?_
          rintro e x5 ⟨rfl, hb⟩
          replace hB := hB.trans (Below.mono hb hB.size)
          clear hb
          go_wp2_with fail
          refine (KN.out _ hB).mono ?_
          rintro e x6 ⟨rfl, hb⟩
          replace hB := hB.trans (Below.mono hb hB.size)
          clear hb
          go_wp2_with fail
          refine (IS22.out _ hB).mono ?_
          rintro e x7 ⟨rfl, hb⟩
          replace hB := hB.trans (Below.mono hb hB.size)
          clear hb
          go_wp2_with fail
          refine (SM.out _ hB).mono ?_
          rintro e x8 ⟨rfl, hb⟩
          replace hB := hB.trans hb
          clear hb
          go_wp2
          go_ret
          exact ⟨rfl, hB3.trans (Below.mono hB hB3.size)⟩
        · clear hla
          go_wp2_with fail
          refine (IS19.out _ hB).mono ?_
          rintro e x0 ⟨rfl, hb⟩
          replace hB := hB.trans (Below.mono hb hB.size)
          clear hb
          go_wp2_with fail
          refine (IS26.out _ hB).mono ?_
          rintro e x1 ⟨rfl, hb⟩
          replace hB := hB.trans (Below.mono hb hB.size)
          clear hb
          go_wp2_with fail
          refine (IS26.out _ hB).mono ?_
          rintro e x2 ⟨rfl, hb⟩
          replace hB := hB.trans (Below.mono hb hB.size)
          clear hb
          go_wp2_with fail
          refine (IS22.out _ hB).mono ?_
          rintro e x3 ⟨rfl, hb⟩
          replace hB := hB.trans (Below.mono hb hB.size)
          clear hb
          go_wp2_with fail
          refine (IS22.out _ hB).mono ?_
          rintro e x4 ⟨rfl, hb⟩
          replace hB := hB.trans (Below.mono hb hB.size)
          clear hb
          go_wp2_with fail
          refine (IS12.out _ hB).mono ?_
          rintro e x5 ⟨rfl, hb⟩
          replace hB := hB.trans (Below.mono hb hB.size)
          clear hb
          go_wp2_with fail
          refine (IS20.out _ hB).mono ?_
          rintro e x6 ⟨rfl, hb⟩
          replace hB := hB.trans (Below.mono hb hB.size)
          clear hb
          go_wp2_with fail
          refine (KN.out _ hB).mono ?_
          rintro e x7 ⟨rfl, hb⟩
          replace hB := hB.trans (Below.mono hb hB.size)
          clear hb
          go_wp2_with fail
          refine (IS22.out _ hB).mono ?_
          rintro e x8 ⟨rfl, hb⟩
          replace hB := hB.trans (Below.mono hb hB.size)
          clear hb
          go_wp2_with fail
          refine (SM.out _ hB).mono ?_
          rintro e x9 ⟨rfl, hb⟩
          replace hB := hB.trans hb
          clear hb
          go_wp2
          go_ret
          exact ⟨rfl, hB3.trans (Below.mono hB hB3.size)⟩
end Go.Proofs.YtalhdjjebcmloaaDoor
