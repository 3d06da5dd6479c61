/-
  The law WholeWrites, with the contracts of reading and writing below it.
-/
import Derived.Test.YtbjiknfebocepaaGreatDoorCag
import Derived.Test.YtbjiknfebocepaaGreatDoorWk
import Derived.Test.YtbjiknfebocepaaGreatDoorR3j
import Derived.Test.YtbjiknfebocepaaGreatDoorR3
import Derived.Test.YtbjiknfebocepaaGreatDoorR3b
import Derived.Test.YtbjiknfebocepaaGreatDoorHdOpen
import Derived.Test.YtbjiknfebocepaaGreatDoorHdWr
import Derived.Test.YtbjiknfebocepaaGreatDoorWj
import Derived.Test.YtbjiknfebocepaaGreatDoorKn3
import Derived.Test.YtbjiknfebocepaaGreatDoorR3d
import Derived.Test.YtbjiknfebocepaaGreatDoorR3e
import Derived.Test.YtbjiknfebocepaaGreatDoorHdWrapB
import Derived.Test.YtbjiknfebocepaaGreatDoorWf
import Derived.Test.YtbjiknfebocepaaGreatDoorBackB
namespace Go.Proofs.YtbjiknfebocepaaGreatDoor
open Go.RowKit Go.Joins
set_option linter.unusedVariables false
set_option linter.unusedSimpArgs false
set_option maxRecDepth 4000

/-! ### Par -/
theorem val_le_two {X Y P R V : Nat} (hV : V = X * (P * 256) + (Y * P + R)) (hR : R < P) : V < 128 * P ↔ X = 0 ∧ Y < 128 := by
  constructor
  · intro h
    have h0 : X = 0 := by
      rcases Nat.eq_zero_or_pos X with h0 | h0
      · exact h0
      · have := Nat.mul_le_mul_right (P * 256) (show 1 ≤ X from h0); omega
    subst h0
    refine ⟨rfl, ?_⟩
    rcases Nat.lt_or_ge Y 128 with h1 | h1
    · exact h1
    · have := Nat.mul_le_mul_right P h1; omega
  · rintro ⟨rfl, h1⟩
    have := Nat.mul_le_mul_right P (show Y ≤ 127 by omega)
    omega
theorem val_ge_two {X Y P R V : Nat} (hV : V = X * (P * 256) + (Y * P + R)) (hR : R < P) (hX : X < 256) (hY : Y < 256) : P * 256 * 256 ≤ V + 128 * P ↔ X = 255 ∧ 128 ≤ Y := by
  constructor
  · intro h
    have h0 : X = 255 := by
      rcases Nat.lt_or_ge X 255 with h0 | h0
      · have h1 := Nat.mul_le_mul_right (P * 256) (show X ≤ 254 by omega)
        have h2 := Nat.mul_le_mul_right P (show Y ≤ 255 by omega)
        omega
      · omega
    subst h0
    refine ⟨rfl, ?_⟩
    rcases Nat.lt_or_ge Y 128 with h1 | h1
    · have := Nat.mul_le_mul_right P (show Y ≤ 127 by omega); omega
    · exact h1
  · rintro ⟨rfl, h1⟩
    have := Nat.mul_le_mul_right P h1
    omega
theorem pow_step (k : Nat) : 256 ^ (k + 1) = 256 ^ k * 256 := Nat.pow_succ _ _
theorem val_map_flip (l : List UInt8) : val (l.map fun x => 255 - x) + val l + 1 = 256 ^ l.length := val_flip l
/-- The number of contents: its sign and its size. -/
theorem par_sign {l : List UInt8} {x : Nm} (hl0 : l ≠ []) (hx : x.ok) (hz : x.z = parZ l) :
    (nth l 0 < 128 ∧ x.below = false ∧ val x.size = val l ∧ val l < 128 * 256 ^ (l.length - 1)) ∨
    (¬ nth l 0 < 128 ∧ x.below = true ∧ val x.size + val l = 256 ^ l.length ∧ 128 * 256 ^ (l.length - 1) ≤ val l) := by
  have hn := Nm.neg_iff hx
  have hh := head_lt hl0
  have hf := val_map_flip l
  unfold parZ at hz
  unfold Nm.z at hz hn
  by_cases h : nth l 0 < 128
  · left
    rw [if_pos h] at hz
    cases hb : x.below
    · rw [hb] at hz; simp at hz; exact ⟨h, rfl, by omega, hh.1 h⟩
    · have := hn.1 hb
      rw [hz] at this
      omega
  · right
    rw [if_neg h] at hz
    cases hb : x.below
    · rw [hb] at hz; simp at hz; omega
    · rw [hb] at hz; simp at hz
      refine ⟨h, rfl, by omega, ?_⟩
      rcases Nat.lt_or_ge (val l) (128 * 256 ^ (l.length - 1)) with h1 | h1
      · exact absurd (hh.2 h1) h
      · exact h1
theorem par_back {l B : List UInt8} {x : Nm} {m : Nat} (hl0 : l ≠ []) (hx : x.ok) (hz : x.z = parZ l) (h1 : 1 ≤ m) (hg : Good x.below (val x.size) m)
    (hb : ∀ m', 1 ≤ m' → m' < m → ¬ Good x.below (val x.size) m') (hB : B.length = m) (hv : if x.below then val B + val x.size = 256 ^ m else val B = val x.size) : (B == l) = !(idleL l) := by
  have hs := par_sign hl0 hx hz
  have hL : 1 ≤ l.length := by cases l with
    | nil => exact absurd rfl hl0
    | cons => simp
  -- the contents themselves are enough
  have hgL : Good x.below (val x.size) l.length := by
    rcases hs with ⟨_, e1, e2, e3⟩ | ⟨_, e1, e2, e3⟩
    · rw [e1]; unfold Good; rw [if_neg (by simp), e2]; exact e3
    · rw [e1]; unfold Good; rw [if_pos rfl]
      have : 256 ^ l.length = 256 * 256 ^ (l.length - 1) := by conv => lhs; rw [show l.length = (l.length - 1) + 1 by omega, pow_step, Nat.mul_comm]
      omega
  have hmL : m ≤ l.length := by
    rcases Nat.lt_or_ge l.length m with h | h
    · exact absurd hgL (hb _ hL h)
    · exact h
  have same : m = l.length → (B == l) = true := by
    intro e
    subst e
    have : B = l := by
      refine val_inj hB ?_
      rcases hs with ⟨_, e1, e2, e3⟩ | ⟨_, e1, e2, e3⟩
      · rw [e1] at hv; simp at hv; omega
      · rw [e1] at hv; simp at hv; omega
    rw [this]; simp
  have other : m ≠ l.length → (B == l) = false := by
    intro e
    rw [Bool.eq_false_iff]
    intro h
    have : B = l := eq_of_beq h
    rw [this] at hB
    exact e hB.symm
  rcases l with _ | ⟨X, _ | ⟨Y, r⟩⟩
  · exact absurd rfl hl0
  · rw [same (by simp at hmL ⊢; omega)]; rfl
  · clear hl0 hgL hL
    have hX := UInt8.toNat_lt X
    have hY := UInt8.toNat_lt Y
    have hR := val_lt r
    have hV : val (X :: Y :: r) = X.toNat * (256 ^ r.length * 256) + (Y.toNat * 256 ^ r.length + val r) := by rw [val_cons, val_cons, List.length_cons, pow_step]
    have hlen : (X :: Y :: r).length = r.length + 2 := rfl
    have hpw : 256 ^ (X :: Y :: r).length = 256 ^ r.length * 256 * 256 := by rw [hlen, pow_step, pow_step]
    have n0 : nth (X :: Y :: r) 0 = (X.toNat : Int) := rfl
    have hi : idleL (X :: Y :: r) = ((X.toNat == 0 && decide (Y.toNat < 128)) || (X.toNat == 255 && decide (128 ≤ Y.toNat))) := rfl
    have hmono : m < r.length + 2 → 256 ^ (m - 1) ≤ 256 ^ r.length := fun h => Nat.pow_le_pow_right (by omega) (by omega)
    rw [hlen] at hmL same other
    rw [n0] at hs
    -- the least is shorter just when the first nine bits are the same
    have key : (m < r.length + 2) ↔ idleL (X :: Y :: r) = true := by
      rw [hi]
      rcases hs with ⟨e0, e1, e2, e3⟩ | ⟨e0, e1, e2, e3⟩
      · have hk := val_le_two hV hR
        constructor
        · intro h
          have hm := hmono h
          rw [e1] at hg; unfold Good at hg; rw [if_neg (by simp), e2] at hg
          have := hk.1 (by omega)
          simp [this.1, this.2]
        · intro h
          have h2 : X.toNat = 0 ∧ Y.toNat < 128 := by
            simp at h
            rcases h with h | h
            · exact h
            · omega
          have h3 := hk.2 h2
          rcases Nat.lt_or_ge (r.length + 1) m with h4 | h4
          · exact absurd (show Good x.below (val x.size) (r.length + 1) by rw [e1]; unfold Good; rw [if_neg (by simp), e2]; exact h3) (hb _ (by omega) h4)
          · omega
      · have hk := val_ge_two hV hR hX hY
        rw [hpw] at e2
        constructor
        · intro h
          have hm := hmono h
          rw [e1] at hg; unfold Good at hg; rw [if_pos rfl] at hg
          have := hk.1 (by omega)
          simp [this.1, this.2]
        · intro h
          have h2 : X.toNat = 255 ∧ 128 ≤ Y.toNat := by
            simp at h
            rcases h with h | h
            · omega
            · exact h
          have h3 := hk.2 h2
          rcases Nat.lt_or_ge (r.length + 1) m with h4 | h4
          · exact absurd (show Good x.below (val x.size) (r.length + 1) by rw [e1]; unfold Good; rw [if_pos rfl]; show _ ≤ 128 * 256 ^ r.length; omega) (hb _ (by omega) h4)
          · omega
    cases hid : idleL (X :: Y :: r)
    · have : ¬ (m < r.length + 2) := fun h => by rw [key.1 h] at hid; cases hid
      rw [same (by omega)]; rfl
    · have := key.2 hid
      rw [other (by omega)]; rfl

/-! ### R3k -/
theorem blk2 {w : World} {g : Nat} {t : TypeId} {a b : Value} (h : Blk w g t [a, b]) : w.cell? ⟨g, 0, none⟩ = some a ∧ w.cell? ⟨g, 1, none⟩ = some b ∧ w.frozen? ⟨g, 0, none⟩ = false ∧ w.frozen? ⟨g, 1, none⟩ = false :=
  ⟨h.cell 0, h.cell 1, h.free 0, h.free 1⟩
theorem blkPut {w : World} {g : Nat} {t : TypeId} {a b : Value} (h : Blk w g t [a, b]) (x y : Value) : Blk ((w.setCell ⟨g, 0, none⟩ x).setCell ⟨g, 1, none⟩ y) g t [x, y] := (h.set 0 x).set 1 y
theorem blkPutO {w : World} {g r : Nat} {t : TypeId} {cs : List Value} (h : Blk w g t cs) (hne : g ≠ r) (x y : Value) : Blk ((w.setCell ⟨r, 0, none⟩ x).setCell ⟨r, 1, none⟩ y) g t cs := (h.setOther hne 0 x).setOther hne 1 y
theorem below_st3 {w W W' : World} (h : Below w.heap.size w W) (k : Below W.heap.size W W') : Below w.heap.size w W' := h.trans (Below.mono k h.size)
theorem bs_rest {w : World} {g : Nat} {l : List UInt8} {rest : List Value} {t : TypeId} (h : Blk w g t (l.map byteV ++ rest)) : Bs w (some ⟨g, 0, none⟩) l.length l :=
  ⟨rfl, fun i x hx => ⟨_, _, rfl, by
    obtain ⟨hk, rfl⟩ := List.getElem?_eq_some_iff.1 hx
    rw [Nat.zero_add, h.cell, List.getElem?_append_left (by simp; omega), List.getElem?_map, hx]; rfl⟩⟩
theorem bs_set1 {W : World} {t : TypeId} {R i : Nat} {a b : Value} {A : Option Addr} {n : Nat} {l : List UInt8} (hb : Bs W A n l) (h : Blk W R t [a, b]) (ha : ∀ x : UInt8, a ≠ .int .u8 (x.toNat : Int)) (hb2 : ∀ x : UInt8, b ≠ .int .u8 (x.toNat : Int)) (v : Value) :
    Bs (W.setCell ⟨R, i, none⟩ v) A n l :=
  hb.only ((Only.refl R W).setCell (p := ⟨R, i, none⟩) rfl v) (by
    intro o x hx
    rw [h.cell o] at hx
    rcases o with _ | _ | o <;> simp at hx
    · exact ha x hx
    · exact hb2 x hx)

set_option maxHeartbeats 12800000 in
theorem ref3Parse (A : Option Addr) (n c : Nat) (l : List UInt8) (w : World) (h : Bs w A n l) (hc : n ≤ c) (hn : n ≤ 1000000) :
    Calls Tryz.prog 27 #[.slice A n c] w (ParP l w) := by
  obtain ⟨i0, hi, hz0, hz1, hz2⟩ := info_parts u8_info
  have hT := One.start w 30 (.bool false) (.slice none 0 0)
  have HL := Lib.hid h.len
  go_enter Tryz.func27, Tryz.ntmps27
  go_upto_region 1 with (fail)
  generalize (w.alloc (Obj.cells #[Value.bool false, Value.slice none 0 0] 30)) = W0 at *
  have h0 := h.below hT.2.1
  obtain ⟨r0, r1, g0, g1⟩ := blk2 hT.1
  have hlt := hT.1.lt
  by_cases hn0 : n = 0
  · subst hn0
    have hF : Hid (parE l = 6) := by
      unfold Hid parE
      rw [if_pos (List.eq_nil_of_length_eq_zero HL.out)]
    go_wp2
    refine bodyPost_ret (v := .tuple #[.agg #[.bool false, .slice none 0 0], .int .i64 6]) (by simp [results, Tryz.results27, go_sem, r0, r1]) rfl ?_
    exact ParP.err hF.out (by decide) (below_set2 hT.2.1 hT.2.1.size (Nat.le_refl _) _ _)
  · have hne : Hid (l ≠ []) := by unfold Hid; intro e; subst e; exact hn0 HL.out.symm
    have z0 : ((n : Int) == 0) = false := by simp; omega
    by_cases h64 : 64 < n
    · have z1 : (64 : Int) < n := by omega
      have hF : Hid (parE l = 2) := by
        unfold Hid parE
        rw [if_neg hne.out, if_pos (by rw [HL.out]; exact h64)]
      go_wp2
      refine bodyPost_ret (v := .tuple #[.agg #[.bool false, .slice none 0 0], .int .i64 2]) (by simp [results, Tryz.results27, go_sem, r0, r1]) rfl ?_
      exact ParP.err hF.out (by decide) (below_set2 hT.2.1 hT.2.1.size (Nat.le_refl _) _ _)
    · have z1 : ¬ (64 : Int) < n := by omega
      have z2 : (n : Int) ≤ 64 := by omega
      have hbc := h0.below (below_alloc1 W0 (Obj.cells #[] 5))
      have ho0 : Ob (W0.alloc (.cells #[] 5)) W0.heap.size 5 (.slice (some ⟨W0.heap.size, 0, none⟩) 0 0) [] := World.ownsRow_made W0 #[] 0 (Nat.le_refl _) (Nat.zero_le _) rfl
      go_wp2_with (at_builtin; refine wpList_appendB rfl _ _ 22 rfl W0.heap.size 5 i0 (.int .u8 0) Tryz.underlying22 hi hz0 hz1 hz2 rfl _ [] rfl ho0 _ _ _ l rfl hbc (by first | omega | (simp; omega)) (by simp) ?_)
      intro v1 w1 hob1 hg1 _ _
      have hB1 : Below W0.heap.size W0 w1 := ho0.grew (below_alloc1 W0 _) (Nat.le_refl _) hg1
      try rw [List.nil_append] at hob1
      obtain ⟨A2, c2, rfl, hc2, hbs2⟩ := hob1.slice
      rw [HL.out] at hob1 hc2 hbs2 ⊢
      obtain ⟨g, og, rfl, _⟩ := hbs2.at_ (k := 0) (by omega)
      obtain rfl := hob1.zero
      obtain ⟨rest, kg1, lg, _⟩ := hob1.blk
      have lg1 := kg1.lt
      have kR1 := hT.1.below hB1
      have hA1 := h0.below hB1
      have bW1 := below_st3 hT.2.1 hB1
      have HC2 := Lib.hid hc2
      have kN := Blk.new2 w1 (.bool false) (.slice (some ⟨g, 0, none⟩) n c2) 30
      have bx := below_alloc1 w1 (.cells #[.bool false, .slice (some ⟨g, 0, none⟩) n c2] 30)
      have kR := kR1.below bx
      have hA := hA1.below bx
      have kg := kg1.below bx
      have bW := below_st3 bW1 bx
      have lRG : Hid (w.heap.size < w1.heap.size) := kR1.lt
      have lRg : Hid (w.heap.size < g) := by unfold Hid; omega
      have lgG : Hid (g < w1.heap.size) := lg1
      have HB : Hid (∀ W, Below w.heap.size w W → Bs W A n l) := fun W hW => h.below hW
      clear ho0 hg1 hbc hB1 hob1 hbs2 kg1 kR1 hA1 bW1 bx r0 r1 g0 g1 hT h0 h lg lg1 hlt
      go_upto_region 6 with (fail)
      generalize (w1.alloc (Obj.cells #[.bool false, .slice (some ⟨g, 0, none⟩) n c2] 30)) = W2 at *
      generalize w1.heap.size = G at *
      obtain ⟨q, hq⟩ : ∃ q, idleL l = q := ⟨_, rfl⟩
      have HQ := Lib.hid hq
      clear hq
      obtain ⟨ba, oa, rfl, ca⟩ := hA.at_ (k := 0) (by omega)
      rw [Nat.add_zero] at ca
      generalize hAA : (some (⟨ba, oa, none⟩ : Addr)) = A at *
      have hp : 0 < n := by omega
      have hpI : (0 : Int) < n := by omega
      by_cases hx : nth l 0 < 128
      · have HZ : Hid ((Nm.mk false l).z = parZ l) := by unfold Hid parZ Nm.z; rw [if_pos hx]; simp
        have hx2 : ¬ 128 ≤ nth l 0 := by omega
        have hrow : Bs W2 (some ⟨g, 0, none⟩) n l := by have := bs_rest kg; rw [HL.out] at this; exact this
        generalize nth l 0 = X at *
        subst hAA
        clear kg
        go_upto_region 17 with (fail)
        generalize hAA : (some (⟨ba, oa, none⟩ : Addr)) = A at *
        clear hAA ca
        obtain ⟨x0, hx0⟩ : ∃ x0, Nm.mk0 ⟨false, l⟩ = x0 := ⟨_, rfl⟩
        have hok : x0.ok := by rw [← hx0]; exact Nm.mk0_ok _
        have hxz : Hid (x0.z = parZ l) := by unfold Hid; rw [← hx0, Nm.mk0_z]; exact HZ.out
        have hxl : x0.size.length ≤ 64 := by have h1 := Nm.mk0_len ⟨false, l⟩; have h2 := hrow.len; rw [hx0] at h1; simp only at h1; omega
        have MD := ref3Made ⟨false, l⟩ _ _ (NumV.mk' false hrow hc2) (by have h2 := hrow.len; simp only; omega)
        rw [hx0] at MD
        have HX0 := Lib.hid hok
        clear hx0 hok
        obtain ⟨n0, n1, _, _⟩ := blk2 kN
        go_wp2_with fail
        refine MD.mono ?_
        rintro e w4 ⟨v4, rfl, ⟨A4, c4, rfl, hs4, hc4⟩, b4⟩
        have kR4 := kR.below b4
        have kN4 := kN.below b4
        have hA4 := hA.below b4
        have bW4 := below_st3 bW b4
        clear MD n0 n1 kR kN hA hrow b4 bW
        obtain ⟨n0, n1, n2, n3⟩ := blk2 kN4
        have HC4 := Lib.hid hc4; clear hc4
        have hs5 := hs4.set2 kN4 (.bool x0.below) (.slice A4 x0.size.length c4)
        have hA5 := hA4.set2 kN4 (.bool x0.below) (.slice A4 x0.size.length c4)
        have kR5 := blkPutO kR4 (show w.heap.size ≠ G by have := lRG.out; omega) (.bool x0.below) (.slice A4 x0.size.length c4)
        have kN5 := blkPut kN4 (.bool x0.below) (.slice A4 x0.size.length c4)
        have bW5 := below_set2 bW4 bW4.size (show w.heap.size ≤ G by have := lRG.out; omega) (.bool x0.below) (.slice A4 x0.size.length c4)
        go_upto_region 18 with (fail)
        generalize ((w4.setCell ⟨G, 0, none⟩ (.bool x0.below)).setCell ⟨G, 1, none⟩ (.slice A4 x0.size.length c4)) = W5 at *
        clear n0 n1 n2 n3 kR4 kN4 hA4 bW4 hs4
        have cA5 := hA5.convert (P := Tryz.prog) c 22 9 5 Tryz.underlying22 Tryz.underlying5 Tryz.underlying9
        have ST : Hid (∀ W, Below W5.heap.size W5 W → (W.cell? ⟨G, 0, none⟩ = some (.bool x0.below) ∧ W.cell? ⟨G, 1, none⟩ = some (.slice A4 x0.size.length c4) ∧ (convert 22 9 (.slice A n c)).run Tryz.prog W = .ok (.string ⟨l.toArray⟩) W) ∧ Bs W A4 x0.size.length x0.size ∧ Blk W w.heap.size 30 [.bool false, .slice none 0 0] ∧ Blk W G 30 [.bool x0.below, .slice A4 x0.size.length c4] ∧ Below w.heap.size w W) :=
          fun W hW => ⟨⟨(kN5.below hW).cell 0, (kN5.below hW).cell 1, (hA5.below hW).convert (P := Tryz.prog) c 22 9 5 Tryz.underlying22 Tryz.underlying5 Tryz.underlying9⟩, hs5.below hW, kR5.below hW, kN5.below hW, below_st3 bW5 hW⟩
        clear cA5 hs5 hA5 kR5 kN5 bW5
        refine wp_region_held_drew (S := fun w' => w'.cell? ⟨G, 0, none⟩ = some (.bool x0.below) ∧ w'.cell? ⟨G, 1, none⟩ = some (.slice A4 x0.size.length c4) ∧ (convert 22 9 (.slice A n c)).run Tryz.prog w' = .ok (.string ⟨l.toArray⟩) w') (by kernel_rfl) ?_ (fun hHeld => ?_)
        · (try dsimp only); exact (ST.out _ (Below.drew (Below.refl _ _))).1
        refine wpAnyH_take (i := 0) (v := ?_) rfl (by kernel_rfl) (by kernel_rfl) (by kernel_rfl) (fun _ _ _ h => h) (Or.inl ⟨by kernel_rfl, ?_⟩) (by assumption) ?_
        rotate_left 1
        · (intro w hSw; (try dsimp only at hSw); go_simp) <;> (try with_reducible rfl)
        try simp only [Act.put, List.setIfInBounds_toArray, List.set_cons_zero, List.set_cons_succ, List.getElem_toArray, List.getElem_cons_succ, List.getElem_cons_zero]
        refine wpAnyH_take (i := 3) (v := ?_) rfl (by kernel_rfl) (by kernel_rfl) (by kernel_rfl) (fun _ _ _ h => h) (Or.inl ⟨by kernel_rfl, ?_⟩) (by assumption) ?_
        rotate_left 1
        · (intro w hSw; (try dsimp only at hSw); go_simp) <;> (try with_reducible rfl)
        try simp only [Act.put, List.setIfInBounds_toArray, List.set_cons_zero, List.set_cons_succ, List.getElem_toArray, List.getElem_cons_succ, List.getElem_cons_zero]
        refine wpAnyH_take (i := 4) (v := ?_) rfl (by kernel_rfl) (by kernel_rfl) (by kernel_rfl) (fun _ _ _ h => h) (Or.inl ⟨by kernel_rfl, ?_⟩) (by assumption) ?_
        rotate_left 1
        · (intro w hSw; (try dsimp only at hSw); go_simp) <;> (try with_reducible rfl)
        try simp only [Act.put, List.setIfInBounds_toArray, List.set_cons_zero, List.set_cons_succ, List.getElem_toArray, List.getElem_cons_succ, List.getElem_cons_zero]
        refine wpAnyH_ready (rs := [1]) (by kernel_rfl) (by simp) ?_
        refine AllReadyH.cons rfl (fun K hK => ?_) AllReadyH.nil
        go_simp
        refine (ref3Contents x0 _ _ ⟨A4, c4, rfl, (ST.out _ (Below.drew (Below.refl _ _))).2.1, HC4.out⟩ (by omega)).mono ?_
        rw [Nm.mk0_of_ok HX0.out]
        rintro e w6 ⟨m6, A6, c6, B6, rfl, hs6, hc6, h1, h2, hg, hb, hv, b6⟩
        have hEq : Hid ((B6 == l) = !q) := by unfold Hid; rw [← HQ.out]; exact par_back hne.out HX0.out hxz.out h1 hg hb hs6.len hv
        have b6 := Below.trans (Below.drew (Below.refl _ _)) b6
        have k6 := ST.out _ b6
        have c6' := hs6.convert (P := Tryz.prog) c6 22 9 5 Tryz.underlying22 Tryz.underlying5 Tryz.underlying9
        clear hg hb hv h1 h2
        go_wp2_with fail
        refine hK.out _ _ ?_ (fun hHeld => ?_)
        · (try dsimp only); exact k6.1
        clear hK K
        try simp only [Act.put, List.setIfInBounds_toArray, List.set_cons_zero, List.set_cons_succ, List.getElem_toArray, List.getElem_cons_succ, List.getElem_cons_zero]
        refine wpAnyH_ready (rs := [2]) (by kernel_rfl) (by simp) ?_
        refine AllReadyH.cons rfl (fun K hK => ?_) AllReadyH.nil
        go_simp
        refine hK.out _ _ ?_ (fun hHeld => ?_)
        · (try dsimp only); exact k6.1
        clear hK K
        try simp only [Act.put, List.setIfInBounds_toArray, List.set_cons_zero, List.set_cons_succ, List.getElem_toArray, List.getElem_cons_succ, List.getElem_cons_zero]
        refine wpAnyH_take (i := 5) (v := ?_) rfl (by kernel_rfl) (by kernel_rfl) (by kernel_rfl) (fun _ _ _ h => h) (Or.inl ⟨by kernel_rfl, ?_⟩) (by assumption) ?_
        rotate_left 1
        · (intro w hSw; (try dsimp only at hSw); go_simp) <;> (try with_reducible rfl)
        try simp only [Act.put, List.setIfInBounds_toArray, List.set_cons_zero, List.set_cons_succ, List.getElem_toArray, List.getElem_cons_succ, List.getElem_cons_zero]
        refine wpAnyH_done (by kernel_rfl) ?_ _
        simp only [hEq.out, Bool.not_not]
        have hEq1 : (B6 == l) = !q := hEq.out
        obtain ⟨_, hx6, kR6, kN6, bW6⟩ := k6
        obtain ⟨r0, r1, f0, f1⟩ := blk2 kR6
        obtain ⟨n0, n1, _, _⟩ := blk2 kN6
        have HEQ : Hid (parE l = if q = true then 6 else 0) := by unfold Hid parE; rw [if_neg hne.out, if_neg (by rw [HL.out]; omega), HQ.out]
        cases q
        · clear hEq hEq1
          go_wp2
          refine bodyPost_ret (v := .tuple #[.agg #[.bool x0.below, .slice A4 x0.size.length c4], .int .i64 0]) (by simp [results, Tryz.results27, go_sem, r0, r1]) rfl ?_
          exact ParP.fine HEQ.out ⟨A4, c4, rfl, hx6.set2 kR6 _ _, HC4.out⟩ HX0.out hxz.out (by omega) (below_set2 bW6 bW6.size (Nat.le_refl _) _ _)
        · clear hEq hEq1
          go_wp2
          refine bodyPost_ret (v := .tuple #[.agg #[.bool false, .slice none 0 0], .int .i64 6]) (by simp [results, Tryz.results27, go_sem, r0, r1]) rfl ?_
          exact ParP.err HEQ.out (by decide) (below_set2 bW6 bW6.size (Nat.le_refl _) _ _)
      · have hx2 : 128 ≤ nth l 0 := by omega
        have hx3 : ¬ nth l 0 < 128 := hx
        have HZ0 : Hid (parZ l = (val l : Int) - 256 ^ n) := by
          have := val_map_flip l
          rw [HL.out] at this
          unfold Hid parZ; rw [if_neg hx]
          have e : ((256 ^ n : Nat) : Int) = 256 ^ n := by push_cast; rfl
          omega
        have hlv : Hid (0 < val l) := by
          have h1 := head_lt hne.out
          unfold Hid
          rcases Nat.eq_zero_or_pos (val l) with h2 | h2
          · exact absurd (h1.2 (by rw [h2]; exact Nat.mul_pos (by decide) (Nat.pow_pos (by decide)))) hx
          · exact h2
        obtain ⟨n0, n1, n2, n3⟩ := blk2 kN
        have kN2 : Blk (W2.setCell ⟨G, 0, none⟩ (.bool true)) G 30 [.bool true, .slice (some ⟨g, 0, none⟩) n c2] := kN.set 0 (.bool true)
        have kR2 := kR.setOther (show w.heap.size ≠ G by have := lRG.out; omega) 0 (.bool true)
        have kg2 := kg.setOther (show g ≠ G by have := lgG.out; omega) 0 (.bool true)
        have hA2 := bs_set1 (i := 0) hA kN (by simp) (by simp) (.bool true)
        have bW2 : Below w.heap.size w (W2.setCell ⟨G, 0, none⟩ (.bool true)) := Only.below ((Only.refl G W2).setCell rfl (.bool true)) bW (by have := lRG.out; omega) bW.size
        generalize nth l 0 = X at *
        subst hAA
        go_upto_region 10 with (fail)
        generalize hAA : (some (⟨ba, oa, none⟩ : Addr)) = A at *
        clear hAA ca n0 n1 n2 n3 kN kR kg hA bW
        generalize (W2.setCell ⟨G, 0, none⟩ (.bool true)) = W3 at *
        have hAof : Hid (∀ W, Only g W3 W → Bs W A n l) := fun W hW => HB.out W (Only.below hW bW2 (show w.heap.size ≤ g by have := lRg.out; omega) bW2.size)
        go_loopw [5, 6] (fun cv iv w' => ∃ (j kc : Nat) (C : List UInt8), j ≤ n ∧ kc ≤ 1 ∧ cv = .int .i64 (kc : Int) ∧ iv = .int .i64 ((j : Int) - 1) ∧ C.length = n - j ∧ Blk w' g 5 ((l.take j ++ C).map byteV ++ rest) ∧ Hid (val C + kc * 256 ^ (n - j) + val (l.drop j) = 256 ^ (n - j)) ∧ Only g W3 w') (fun _ iv _ => (intOf iv + 1).toNat)
        case atStart =>
          refine ⟨n, 1, [], by omega, by omega, rfl, by first | rfl | go_num, by simp, ?_, ?_, Only.refl _ _⟩
          · rw [List.take_of_length_le (by rw [HL.out]; exact Nat.le_refl _), List.append_nil]; exact kg2
          · unfold Hid; rw [List.drop_eq_nil_of_le (by rw [HL.out]; exact Nat.le_refl _), Nat.sub_self]; simp [val]
        case round =>
          obtain ⟨j, kc, C, hj, hkc, rfl, rfl, hCl, hkC, hCv, hO⟩ := hrel
          have kR3 := kR2.only hO (show w.heap.size ≠ g by have := lRg.out; omega)
          have kN3 := kN2.only hO (show G ≠ g by have := lgG.out; omega)
          have bW3 := Only.below hO bW2 (show w.heap.size ≤ g by have := lRg.out; omega) bW2.size
          by_cases hj0 : j = 0
          · subst hj0
            rw [List.take_zero, List.nil_append] at hkC
            rw [List.drop_zero, Nat.sub_zero] at hCv
            rw [Nat.sub_zero] at hCl
            obtain rfl : kc = 0 := by
              rcases Nat.lt_or_ge kc 1 with h2 | h2
              · omega
              · have e : kc = 1 := by omega
                have h1 := hCv.out
                have := hlv.out
                rw [e] at h1
                omega
            have HZ : Hid ((Nm.mk true C).z = parZ l) := by
              have h1 := hCv.out
              unfold Hid Nm.z
              rw [HZ0.out, if_pos rfl]
              have e : ((256 ^ n : Nat) : Int) = 256 ^ n := by push_cast; rfl
              simp only
              omega
            have hrow : Bs wr (some ⟨g, 0, none⟩) n C := by have := bs_rest hkC; rw [hCl] at this; exact this
            have hA3 : Bs wr A n l := hAof.out _ hO
            clear hCv hkC HZ0 hlv
            rename World => WN
            have kR := kR3
            have kN := kN3
            have hA := hA3
            have bW := bW3
            clear kR2 kN2 kg2 hA2 bW2 kR3 kN3 hA3 bW3 hO
            go_upto_region 17 with (fail)
            obtain ⟨x0, hx0⟩ : ∃ x0, Nm.mk0 ⟨true, C⟩ = x0 := ⟨_, rfl⟩
            have hok : x0.ok := by rw [← hx0]; exact Nm.mk0_ok _
            have hxz : Hid (x0.z = parZ l) := by unfold Hid; rw [← hx0, Nm.mk0_z]; exact HZ.out
            have hxl : x0.size.length ≤ 64 := by have h1 := Nm.mk0_len ⟨true, C⟩; have h2 := hrow.len; rw [hx0] at h1; simp only at h1; omega
            have MD := ref3Made ⟨true, C⟩ _ _ (NumV.mk' true hrow hc2) (by have h2 := hrow.len; simp only; omega)
            rw [hx0] at MD
            have HX0 := Lib.hid hok
            clear hx0 hok
            obtain ⟨n0, n1, _, _⟩ := blk2 kN
            go_wp2_with fail
            refine MD.mono ?_
            rintro e w4 ⟨v4, rfl, ⟨A4, c4, rfl, hs4, hc4⟩, b4⟩
            have kR4 := kR.below b4
            have kN4 := kN.below b4
            have hA4 := hA.below b4
            have bW4 := below_st3 bW b4
            clear MD n0 n1 kR kN hA hrow b4 bW
            obtain ⟨n0, n1, n2, n3⟩ := blk2 kN4
            have HC4 := Lib.hid hc4; clear hc4
            have hs5 := hs4.set2 kN4 (.bool x0.below) (.slice A4 x0.size.length c4)
            have hA5 := hA4.set2 kN4 (.bool x0.below) (.slice A4 x0.size.length c4)
            have kR5 := blkPutO kR4 (show w.heap.size ≠ G by have := lRG.out; omega) (.bool x0.below) (.slice A4 x0.size.length c4)
            have kN5 := blkPut kN4 (.bool x0.below) (.slice A4 x0.size.length c4)
            have bW5 := below_set2 bW4 bW4.size (show w.heap.size ≤ G by have := lRG.out; omega) (.bool x0.below) (.slice A4 x0.size.length c4)
            go_upto_region 18 with (fail)
            generalize ((w4.setCell ⟨G, 0, none⟩ (.bool x0.below)).setCell ⟨G, 1, none⟩ (.slice A4 x0.size.length c4)) = W5 at *
            clear n0 n1 n2 n3 kR4 kN4 hA4 bW4 hs4
            have cA5 := hA5.convert (P := Tryz.prog) c 22 9 5 Tryz.underlying22 Tryz.underlying5 Tryz.underlying9
            have ST : Hid (∀ W, Below W5.heap.size W5 W → (W.cell? ⟨G, 0, none⟩ = some (.bool x0.below) ∧ W.cell? ⟨G, 1, none⟩ = some (.slice A4 x0.size.length c4) ∧ (convert 22 9 (.slice A n c)).run Tryz.prog W = .ok (.string ⟨l.toArray⟩) W) ∧ Bs W A4 x0.size.length x0.size ∧ Blk W w.heap.size 30 [.bool false, .slice none 0 0] ∧ Blk W G 30 [.bool x0.below, .slice A4 x0.size.length c4] ∧ Below w.heap.size w W) :=
              fun W hW => ⟨⟨(kN5.below hW).cell 0, (kN5.below hW).cell 1, (hA5.below hW).convert (P := Tryz.prog) c 22 9 5 Tryz.underlying22 Tryz.underlying5 Tryz.underlying9⟩, hs5.below hW, kR5.below hW, kN5.below hW, below_st3 bW5 hW⟩
            clear cA5 hs5 hA5 kR5 kN5 bW5
            refine wp_region_held_drew (S := fun w' => w'.cell? ⟨G, 0, none⟩ = some (.bool x0.below) ∧ w'.cell? ⟨G, 1, none⟩ = some (.slice A4 x0.size.length c4) ∧ (convert 22 9 (.slice A n c)).run Tryz.prog w' = .ok (.string ⟨l.toArray⟩) w') (by kernel_rfl) ?_ (fun hHeld => ?_)
            · (try dsimp only); exact (ST.out _ (Below.drew (Below.refl _ _))).1
            refine wpAnyH_take (i := 0) (v := ?_) rfl (by kernel_rfl) (by kernel_rfl) (by kernel_rfl) (fun _ _ _ h => h) (Or.inl ⟨by kernel_rfl, ?_⟩) (by assumption) ?_
            rotate_left 1
            · (intro w hSw; (try dsimp only at hSw); go_simp) <;> (try with_reducible rfl)
            try simp only [Act.put, List.setIfInBounds_toArray, List.set_cons_zero, List.set_cons_succ, List.getElem_toArray, List.getElem_cons_succ, List.getElem_cons_zero]
            refine wpAnyH_take (i := 3) (v := ?_) rfl (by kernel_rfl) (by kernel_rfl) (by kernel_rfl) (fun _ _ _ h => h) (Or.inl ⟨by kernel_rfl, ?_⟩) (by assumption) ?_
            rotate_left 1
            · (intro w hSw; (try dsimp only at hSw); go_simp) <;> (try with_reducible rfl)
            try simp only [Act.put, List.setIfInBounds_toArray, List.set_cons_zero, List.set_cons_succ, List.getElem_toArray, List.getElem_cons_succ, List.getElem_cons_zero]
            refine wpAnyH_take (i := 4) (v := ?_) rfl (by kernel_rfl) (by kernel_rfl) (by kernel_rfl) (fun _ _ _ h => h) (Or.inl ⟨by kernel_rfl, ?_⟩) (by assumption) ?_
            rotate_left 1
            · (intro w hSw; (try dsimp only at hSw); go_simp) <;> (try with_reducible rfl)
            try simp only [Act.put, List.setIfInBounds_toArray, List.set_cons_zero, List.set_cons_succ, List.getElem_toArray, List.getElem_cons_succ, List.getElem_cons_zero]
            refine wpAnyH_ready (rs := [1]) (by kernel_rfl) (by simp) ?_
            refine AllReadyH.cons rfl (fun K hK => ?_) AllReadyH.nil
            go_simp
            refine (ref3Contents x0 _ _ ⟨A4, c4, rfl, (ST.out _ (Below.drew (Below.refl _ _))).2.1, HC4.out⟩ (by omega)).mono ?_
            rw [Nm.mk0_of_ok HX0.out]
            rintro e w6 ⟨m6, A6, c6, B6, rfl, hs6, hc6, h1, h2, hg, hb, hv, b6⟩
            have hEq : Hid ((B6 == l) = !q) := by unfold Hid; rw [← HQ.out]; exact par_back hne.out HX0.out hxz.out h1 hg hb hs6.len hv
            have b6 := Below.trans (Below.drew (Below.refl _ _)) b6
            have k6 := ST.out _ b6
            have c6' := hs6.convert (P := Tryz.prog) c6 22 9 5 Tryz.underlying22 Tryz.underlying5 Tryz.underlying9
            clear hg hb hv h1 h2
            go_wp2_with fail
            refine hK.out _ _ ?_ (fun hHeld => ?_)
            · (try dsimp only); exact k6.1
            clear hK K
            try simp only [Act.put, List.setIfInBounds_toArray, List.set_cons_zero, List.set_cons_succ, List.getElem_toArray, List.getElem_cons_succ, List.getElem_cons_zero]
            refine wpAnyH_ready (rs := [2]) (by kernel_rfl) (by simp) ?_
            refine AllReadyH.cons rfl (fun K hK => ?_) AllReadyH.nil
            go_simp
            refine hK.out _ _ ?_ (fun hHeld => ?_)
            · (try dsimp only); exact k6.1
            clear hK K
            try simp only [Act.put, List.setIfInBounds_toArray, List.set_cons_zero, List.set_cons_succ, List.getElem_toArray, List.getElem_cons_succ, List.getElem_cons_zero]
            refine wpAnyH_take (i := 5) (v := ?_) rfl (by kernel_rfl) (by kernel_rfl) (by kernel_rfl) (fun _ _ _ h => h) (Or.inl ⟨by kernel_rfl, ?_⟩) (by assumption) ?_
            rotate_left 1
            · (intro w hSw; (try dsimp only at hSw); go_simp) <;> (try with_reducible rfl)
            try simp only [Act.put, List.setIfInBounds_toArray, List.set_cons_zero, List.set_cons_succ, List.getElem_toArray, List.getElem_cons_succ, List.getElem_cons_zero]
            refine wpAnyH_done (by kernel_rfl) ?_ _
            simp only [hEq.out, Bool.not_not]
            have hEq1 : (B6 == l) = !q := hEq.out
            obtain ⟨_, hx6, kR6, kN6, bW6⟩ := k6
            obtain ⟨r0, r1, f0, f1⟩ := blk2 kR6
            obtain ⟨n0, n1, _, _⟩ := blk2 kN6
            have HEQ : Hid (parE l = if q = true then 6 else 0) := by unfold Hid parE; rw [if_neg hne.out, if_neg (by rw [HL.out]; omega), HQ.out]
            cases q
            · clear hEq hEq1
              go_wp2
              refine bodyPost_ret (v := .tuple #[.agg #[.bool x0.below, .slice A4 x0.size.length c4], .int .i64 0]) (by simp [results, Tryz.results27, go_sem, r0, r1]) rfl ?_
              exact ParP.fine HEQ.out ⟨A4, c4, rfl, hx6.set2 kR6 _ _, HC4.out⟩ HX0.out hxz.out (by omega) (below_set2 bW6 bW6.size (Nat.le_refl _) _ _)
            · clear hEq hEq1
              go_wp2
              refine bodyPost_ret (v := .tuple #[.agg #[.bool false, .slice none 0 0], .int .i64 6]) (by simp [results, Tryz.results27, go_sem, r0, r1]) rfl ?_
              exact ParP.err HEQ.out (by decide) (below_set2 bW6 bW6.size (Nat.le_refl _) _ _)
          · obtain ⟨j', rfl⟩ : ∃ j', j = j' + 1 := ⟨j - 1, by omega⟩
            have te : ((j' + 1 : Nat) : Int) - 1 = (j' : Int) := by omega
            rw [te]
            have hjB : j' < l.length := by rw [HL.out]; omega
            obtain ⟨x, hx⟩ : ∃ x, l[j']? = some x := ⟨l[j'], List.getElem?_eq_getElem hjB⟩
            have hxb : x.toNat < 256 := UInt8.toNat_lt x
            obtain ⟨ba', oa', hAe, hca⟩ := (hAof.out _ hO).at_ (k := j') (by omega)
            have hnx : nth l j' = (x.toNat : Int) := by simp [nth, List.getD, hx]
            rw [hnx] at hca
            clear hnx
            have hc7 := hkC.cell j'
            have hgt : ∃ z, ((l.take (j' + 1) ++ C).map byteV ++ rest)[j']? = some z := ⟨_, List.getElem?_eq_getElem (by simp; omega)⟩
            obtain ⟨z7, hz7⟩ := hgt
            rw [hz7] at hc7
            clear hz7
            have hf7 := hkC.free j'
            obtain ⟨X', hX⟩ : ∃ X, x.toNat = X := ⟨_, rfl⟩
            rw [hX] at hca hxb
            obtain ⟨S, hS⟩ : ∃ S, 255 - X' + kc = S := ⟨_, rfl⟩
            obtain ⟨Y, hY⟩ : ∃ Y, S % 256 = Y := ⟨_, rfl⟩
            obtain ⟨k', hk'⟩ : ∃ k', S / 256 = k' := ⟨_, rfl⟩
            have tS : (255 : Int) - X' + kc = (S : Int) := by omega
            have tY : (S : Int) % 256 = (Y : Int) := by omega
            have tYt : (S : Int).tmod 256 = (Y : Int) := by rw [Int.tmod_eq_emod_of_nonneg (by omega)]; omega
            have tk : (S : Int) / 256 = (k' : Int) := by omega
            have tkt : (S : Int).tdiv 256 = (k' : Int) := by rw [Int.tdiv_eq_ediv_of_nonneg (by omega)]; omega
            obtain ⟨y, hy⟩ : ∃ y : UInt8, y.toNat = Y := ⟨UInt8.ofNat Y, by rw [UInt8.toNat_ofNat']; omega⟩
            have hSb : S ≤ 256 := by omega
            have hYb : Y < 256 := by omega
            have hk1 : k' ≤ 1 := by omega
            have HSV : Hid (val (y :: C) + k' * 256 ^ (n - j') + val (l.drop j') = 256 ^ (n - j')) := comp_val HL.out (by omega) hx hX hy hCl (by omega) hCv.out
            have hset := hkC.set j' (byteV y)
            rw [List.set_append_left _ _ (by simp; omega), comp_step hjB] at hset
            have hO8 := hO.setCell (p := ⟨g, j', none⟩) rfl (byteV y)
            have HBV : Hid (byteV y = .int .u8 (Y : Int)) := by unfold Hid byteV; rw [hy]
            rw [HBV.out] at hset hO8
            have hjm : j' < n := by omega
            have hjI : (j' : Int) < n := by omega
            obtain ⟨m0, m1, _, _⟩ := blk2 kN3
            subst hAe
            clear hS hY hk' hX hx hCv kR3 bW3 kR2 kN2 kg2 hA2 bW2 kN3
            go_wp2
            refine ⟨⟨j', k', y :: C, by omega, hk1, by go_num, by go_num, by rw [List.length_cons]; omega, hset, HSV, hO8⟩, by simp [intOf] <;> omega⟩

/-! ### Za -/
theorem rOpen_ge (l : List UInt8) (k : Nat) (t : Tg) : k ≤ (rOpen l k t).2.1 := by
  have h := rHead_ge l k
  unfold rOpen
  split
  · split
    · split
      · exact Nat.le_refl _
      · show k ≤ (rHead l k).2.2.1 + _; omega
    · exact Nat.le_refl _
  · exact Nat.le_refl _
theorem rOpen_len (l : List UInt8) (k : Nat) (t : Tg) : (rOpen l k t).1.length ≤ l.length := by
  unfold rOpen
  split
  · split
    · split
      · simp
      · simp; omega
    · simp
  · simp

/-- Parse's answer, an error or not. -/
def ParA (l : List UInt8) (w : World) (e : Ending) (w' : World) : Prop :=
  ∃ s A c, e = .returned (.tuple #[.agg #[.bool (Nm.below s), .slice A s.size.length c], .int .i64 (parE l)]) ∧ Bs w' A s.size.length s.size ∧ s.size.length ≤ c ∧ s.ok ∧ s.z = (if parE l = 0 then parZ l else 0) ∧ s.size.length ≤ 80 ∧ Below w.heap.size w w'
theorem ParP.all {l : List UInt8} {w w' : World} {e : Ending} (h : ParP l w e w') : ParA l w e w' := by
  obtain ⟨h1, h2, h3⟩ := h
  by_cases h0 : parE l = 0
  · obtain ⟨s, u, rfl, ⟨A, c, rfl, hs, hc⟩, ho, hz, hl⟩ := h2 h0
    exact ⟨s, A, c, by rw [h0], hs, hc, ho, by rw [if_pos h0]; exact hz, hl, h3⟩
  · exact ⟨⟨false, []⟩, none, 0, h1 h0, Bs.nil _ _, Nat.le_refl _, ⟨Nz.nil, fun _ => rfl⟩, by rw [if_neg h0]; rfl, by simp, h3⟩

/-- What reading gives: the error, the number, the place. -/
def rdE (T : List UInt8 × Nat × Int) : Int := if T.2.2 = 0 then parE T.1 else T.2.2
def rdZ (T : List UInt8 × Nat × Int) : Int := if rdE T = 0 then parZ T.1 else 0
def rdK (k : Nat) (T : List UInt8 × Nat × Int) : Nat := if rdE T = 0 then T.2.1 else k
/-- A number handed back beside an error. -/
def NumQ (x : Nm) (q : Int) (e : Ending) (w' : World) : Prop :=
  ∃ A c, e = .returned (.tuple #[.agg #[.bool x.below, .slice A x.size.length c], .int .i64 q]) ∧ Bs w' A x.size.length x.size ∧ x.size.length ≤ c
def RdP (w : World) (g : Nat) (s : Value) (l : List UInt8) (k : Nat) (T : List UInt8 × Nat × Int) (e : Ending) (w' : World) : Prop :=
  Only g w w' ∧ Cur w' g s l (rdK k T) ∧ ∃ x, NumQ x (rdE T) e w' ∧ x.ok ∧ x.z = rdZ T ∧ x.size.length ≤ 80
theorem noB2 {w : World} {g : Nat} {t : TypeId} {a b : Value} (h : Blk w g t [a, b]) (ha : ∀ x : UInt8, a ≠ .int .u8 (x.toNat : Int)) (hb : ∀ x : UInt8, b ≠ .int .u8 (x.toNat : Int)) : ∀ o (x : UInt8), w.cell? ⟨g, o, none⟩ ≠ some (.int .u8 (x.toNat : Int)) := by
  intro o x hx
  rw [h.cell o] at hx
  rcases o with _ | _ | o <;> simp at hx
  · exact ha x hx
  · exact hb x hx

set_option maxHeartbeats 6400000 in
theorem whRead (g k : Nat) (l : List UInt8) (t : Tg) (w : World) {s : Value} (h : Cur w g s l k) (hl : l.length ≤ 1000000) :
    Calls Tryz.prog 24 #[.pointer (some ⟨g, 0, none⟩), t.v] w (RdP w g s l k (rOpen l k t)) := by
  have hg := h.lt
  have hlen := rOpen_len l k t
  have hge := rOpen_ge l k t
  have hno := rOpen_no l k t
  have HO0 := fun W (hW : Cur W g s l k) => hdOpen g k l t W hW
  unfold OpenOk at HO0
  have HO := Lib.hid HO0
  clear HO0
  generalize rOpen l k t = T at *
  obtain ⟨tc, tn, tm⟩ := t
  have kT : Blk ((w.alloc (.cells #[.int .i64 tc, .int .i64 tn, .bool tm] 60)).alloc (.cells #[.bool false, .slice none 0 0] 26)) w.heap.size 60 [.int .i64 tc, .int .i64 tn, .bool tm] :=
    (Blk.new w [.int .i64 tc, .int .i64 tn, .bool tm] 60).below (below_alloc1 _ _)
  have hP := Blk.new2 (w.alloc (.cells #[.int .i64 tc, .int .i64 tn, .bool tm] 60)) (.bool false) (.slice none 0 0) 26
  rw [World.size_alloc] at hP
  have b0 := below_alloc2 w (.cells #[.int .i64 tc, .int .i64 tn, .bool tm] 60) (.cells #[.bool false, .slice none 0 0] 26)
  have h0 := h.below b0
  have o0 : Only g w _ := Only.of_below b0
  have hs0 : w.heap.size + 2 ≤ ((w.alloc (.cells #[.int .i64 tc, .int .i64 tn, .bool tm] 60)).alloc (.cells #[.bool false, .slice none 0 0] 26)).heap.size := by simp
  unfold Tg.v at HO ⊢
  go_enter Tryz.func24, Tryz.ntmps24
  go_upto_region 1 with (fail)
  generalize ((w.alloc (Obj.cells #[.int .i64 tc, .int .i64 tn, .bool tm] 60)).alloc (Obj.cells #[.bool false, .slice none 0 0] 26)) = W0 at *
  generalize hR0 : w.heap.size = R at *
  have HR := Lib.hid hR0
  clear hR0
  have t0 := kT.cell 0
  have t1 := kT.cell 1
  have t2 := kT.cell 2
  simp at t0 t1 t2
  go_wp2_with fail
  refine (curAt g k l W0 h0).mono ?_
  rintro e w1 ⟨rfl, hw1⟩
  obtain rfl : W0 = w1 := hw1
  go_wp2_with fail
  refine (HO.out _ h0).mono ?_
  rintro e w3 ⟨p, rfl, hc3, o3, hp3, hp4⟩
  obtain ⟨ct, k', E⟩ := T
  simp only at hc3 hp3 hp4 hlen hge hno ⊢
  have hP3 := hP.only o3 (by omega)
  have o3' := o0.trans o3
  have hs3 : R + 2 ≤ w3.heap.size := by have := o3.size; omega
  clear HO t0 t1 t2 kT hP h0 o0 b0 h
  by_cases q : E = 0
  · subst q
    obtain ⟨g2, s2, rfl, hg2, hcur⟩ := hp3 rfl
    have hg2R : R + 2 ≤ g2 := by omega
    clear hp3 hno hp4
    go_wp2_with fail
    refine (curRest g2 0 ct w3 hcur).mono ?_
    rintro e w4 ⟨A4, n4, c4, rfl, ho4, hc4, o4⟩
    simp only [List.drop_zero] at ho4
    have hP4 := hP3.only o4 (by omega)
    have hcn := hcur.noByte
    have hc4' : Cur w4 g s l k' := hc3.only o4 (by omega) hcn
    have o4' : Only g w w4 := Only.grown o3' o4 (by intro x hx; cases hx; have := HR.out; omega)
    have hs4 : R + 2 ≤ w4.heap.size := by have := o4.size; omega
    have hn4 := ho4.bs.1.len
    clear hP3 hcur hc3 o3' o3 hcn hc4
    go_wp2_with fail
    refine (whParse A4 n4 c4 ct w4 ho4.bs.1 (by omega)).mono ?_
    intro e w5 hPa
    obtain ⟨y, AY, cY, rfl, sY, hcY, oY, zY, lY, b5⟩ := hPa.all
    have hP5 := hP4.below b5
    have hc5 := hc4'.below b5
    have o5 := o4'.trans (Only.of_below b5)
    have hs5 : R + 2 ≤ w5.heap.size := by have := b5.size; omega
    have HZ := Lib.hid zY
    have HOK := Lib.hid oY
    have HCY := Lib.hid hcY
    clear hPa hP4 hc4' o4' ho4 hn4 b5 zY oY hcY
    have bx := below_alloc1 w5 (.cells #[.bool y.below, .slice AY y.size.length cY] 26)
    have hN := Blk.new2 w5 (.bool y.below) (.slice AY y.size.length cY) 26
    have hP6 := hP5.below bx
    have hc6 := hc5.below bx
    have o6 := o5.trans (Only.of_below bx)
    have sY := sY.below bx
    have hs6 : R + 2 ≤ (w5.alloc (.cells #[.bool y.below, .slice AY y.size.length cY] 26)).heap.size := by simp; omega
    have hNR : R + 2 ≤ w5.heap.size := hs5
    have hgN : g < w5.heap.size := hc5.lt
    clear hP5 hc5 o5 bx
    go_upto_region 6 with (fail)
    generalize (w5.alloc (Obj.cells #[.bool y.below, .slice AY y.size.length cY] 26)) = W6 at *
    generalize w5.heap.size = N at *
    have FIN : Hid (∀ W', Only g w W' → Cur W' g s l (if parE ct = 0 then k' else k) → Bs W' AY y.size.length y.size → RdP w g s l k (ct, k', 0) (.returned (.tuple #[.agg #[.bool y.below, .slice AY y.size.length cY], .int .i64 (parE ct)])) W') := by
      intro W' a1 a2 a3
      refine ⟨a1, a2, y, ⟨AY, cY, rfl, a3, HCY.out⟩, HOK.out, HZ.out, lY⟩
    obtain ⟨f, hf⟩ : ∃ f, parE ct = f := ⟨_, rfl⟩
    rw [hf] at FIN ⊢
    clear hf
    have HZ0 := HZ
    clear HZ0
    by_cases qf : f = 0
    · subst qf
      obtain ⟨n0, n1, _, _⟩ := blk2 hN
      have s9 := sY.set2 hP6 (.bool y.below) (.slice AY y.size.length cY)
      obtain ⟨p0, p1, p2, p3⟩ := blk2 hP6
      obtain ⟨q0, q1, _, _⟩ := blk2 (blkPut hP6 (.bool y.below) (.slice AY y.size.length cY))
      have oR := ((Only.refl (R + 1) W6).setCell (p := ⟨R + 1, 0, none⟩) rfl (.bool y.below)).setCell (p := ⟨R + 1, 1, none⟩) rfl (.slice AY y.size.length cY)
      have hc9 := hc6.only oR (by omega) (noB2 hP6 (by simp) (by simp))
      have o9 : Only g w _ := Only.grown o6 oR (by intro x hx; cases hx; first | omega | (have := HR.out; omega))
      clear hP6 hN
      go_wp2
      refine bodyPost_ret (v := .tuple #[.agg #[.bool y.below, .slice AY y.size.length cY], .int .i64 0]) (by simp [results, Tryz.results24, go_sem, q0, q1]) rfl ?_
      exact FIN.out _ o9 hc9 s9
    · have e1 : (f != 0) = true := by simpa using qf
      have e2 : (f == 0) = false := by simpa using qf
      go_wp2_with fail
      refine (curBack g k' k _ l _ hc6 hge rfl).mono ?_
      rintro e w7 ⟨rfl, hc7, o7⟩
      have hP7 := hP6.only o7 (by omega)
      have hN7 := hN.only o7 (by omega)
      have sY7 : Bs w7 AY y.size.length y.size := sY.only o7 hc6.noByte
      have o7' := o6.trans o7
      clear hP6 hN hc6 o6 sY
      obtain ⟨n0, n1, _, _⟩ := blk2 hN7
      have s9 := sY7.set2 hP7 (.bool y.below) (.slice AY y.size.length cY)
      rw [if_neg qf] at FIN
      obtain ⟨p0, p1, p2, p3⟩ := blk2 hP7
      obtain ⟨q0, q1, _, _⟩ := blk2 (blkPut hP7 (.bool y.below) (.slice AY y.size.length cY))
      have oR := ((Only.refl (R + 1) w7).setCell (p := ⟨R + 1, 0, none⟩) rfl (.bool y.below)).setCell (p := ⟨R + 1, 1, none⟩) rfl (.slice AY y.size.length cY)
      have hc9 := hc7.only oR (by omega) (noB2 hP7 (by simp) (by simp))
      have o9 : Only g w _ := Only.grown o7' oR (by intro x hx; cases hx; first | omega | (have := HR.out; omega))
      clear hP7 hN7
      go_wp2
      refine bodyPost_ret (v := .tuple #[.agg #[.bool y.below, .slice AY y.size.length cY], .int .i64 f]) (by simp [results, Tryz.results24, go_sem, q0, q1]) rfl ?_
      exact FIN.out _ o9 hc9 s9
  · have hT := hno q
    obtain ⟨rfl, rfl⟩ : ct = [] ∧ k' = k := by simpa using hT
    clear hno hp3 hp4 hT
    have e1 : (E != 0) = true := by simpa using q
    have e2 : (E == 0) = false := by simpa using q
    have rE : rdE ([], k', E) = E := if_neg q
    have FIN : Hid (∀ W', Only g w W' → Cur W' g s l k' → RdP w g s l k' ([], k', E) (.returned (.tuple #[.agg #[.bool false, .slice none 0 0], .int .i64 E])) W') := by
      intro W' a1 a2
      refine ⟨a1, by unfold rdK; rw [rE, if_neg q]; exact a2, ⟨false, []⟩, ⟨none, 0, by rw [rE]; rfl, Bs.nil _ _, Nat.le_refl _⟩, ⟨Nz.nil, fun _ => rfl⟩, by unfold rdZ; rw [rE, if_neg q]; rfl, by simp⟩
    clear rE
    obtain ⟨p0, p1, p2, p3⟩ := blk2 hP3
    obtain ⟨q0, q1, _, _⟩ := blk2 (blkPut hP3 (.bool false) (.slice none 0 0))
    have oR := ((Only.refl (R + 1) w3).setCell (p := ⟨R + 1, 0, none⟩) rfl (.bool false)).setCell (p := ⟨R + 1, 1, none⟩) rfl (.slice none 0 0)
    have hc9 := hc3.only oR (by omega) (noB2 hP3 (by simp) (by simp))
    have o9 : Only g w _ := Only.grown o3' oR (by intro x hx; cases hx; first | omega | (have := HR.out; omega))
    clear hP3
    go_wp2
    refine bodyPost_ret (v := .tuple #[.agg #[.bool false, .slice none 0 0], .int .i64 E]) (by simp [results, Tryz.results24, go_sem, q0, q1]) rfl ?_
    exact FIN.out _ o9 hc9

def tgW (n : Int) : Tg := ⟨0, n, n == 16 || n == 17⟩
set_option maxHeartbeats 3200000 in
theorem whReadT (g k : Nat) (l : List UInt8) (w : World) {s : Value} (h : Cur w g s l k) (hl : l.length ≤ 1000000) :
    Calls Tryz.prog 6 #[.pointer (some ⟨g, 0, none⟩)] w (RdP w g s l k (rOpen l k (tgW 2))) := by
  have hg := h.lt
  have hP := Blk.new2 w (.bool false) (.slice none 0 0) 26
  have b0 := below_alloc1 w (.cells #[.bool false, .slice none 0 0] 26)
  have h0 := h.below b0
  have o0 : Only g w _ := Only.of_below b0
  have HO := Lib.hid (fun W (hW : Cur W g s l k) => whRead g k l (tgW 2) W hW hl)
  have HF := Lib.hid (fun W => hdOf 2 W)
  have e16 : ((2 : Int) == 16 || (2 : Int) == 17) = false := rfl
  go_enter Tryz.func6, Tryz.ntmps6
  go_upto_region 1 with (fail)
  generalize (w.alloc (Obj.cells #[.bool false, .slice none 0 0] 26)) = W0 at *
  go_wp2_with fail
  refine (HF.out W0).mono ?_
  rintro e w2 ⟨rfl, b2⟩
  have hP2 := hP.below b2
  have h2 := h0.below b2
  have o2 := o0.trans (Only.of_below b2)
  clear hP h0 o0 b0 b2 HF
  go_wp2_with fail
  refine (HO.out _ h2).mono ?_
  rintro e w3 ⟨o3, hc3, x, ⟨A3, c3, rfl, s3, hc3'⟩, ok3, z3, l3⟩
  have hP3 := hP2.only o3 (by omega)
  have o3' := o2.trans o3
  have FIN : Hid (∀ W', Only g w W' → Cur W' g s l (rdK k (rOpen l k (tgW 2))) → Bs W' A3 x.size.length x.size → RdP w g s l k (rOpen l k (tgW 2)) (.returned (.tuple #[.agg #[.bool x.below, .slice A3 x.size.length c3], .int .i64 (rdE (rOpen l k (tgW 2)))])) W') :=
    fun W' a1 a2 a3 => ⟨a1, a2, x, ⟨A3, c3, rfl, a3, hc3'⟩, ok3, z3, l3⟩
  clear HO h2 o2 hP2 ok3 z3 hc3' o3
  generalize rdE (rOpen l k (tgW 2)) = q at *
  generalize rdK k (rOpen l k (tgW 2)) = kk at *
  have s9 := s3.set2 hP3 (.bool x.below) (.slice A3 x.size.length c3)
  obtain ⟨p0, p1, p2, p3⟩ := blk2 hP3
  obtain ⟨q0, q1, _, _⟩ := blk2 (blkPut hP3 (.bool x.below) (.slice A3 x.size.length c3))
  have oR := ((Only.refl (w.heap.size) w3).setCell (p := ⟨w.heap.size, 0, none⟩) rfl (.bool x.below)).setCell (p := ⟨w.heap.size, 1, none⟩) rfl (.slice A3 x.size.length c3)
  have hc9 := hc3.only oR (by omega) (noB2 hP3 (by simp) (by simp))
  have o9 : Only g w _ := Only.grown o3' oR (by intro x hx; cases hx; first | omega | (have := HR.out; omega))
  clear hP3
  go_wp2
  refine bodyPost_ret (v := .tuple #[.agg #[.bool x.below, .slice A3 x.size.length c3], .int .i64 q]) (by simp [results, Tryz.results6, go_sem, q0, q1]) rfl ?_
  exact FIN.out _ o9 hc9 s9

/-- What the reference's Read hands back. -/
def RdR (w : World) (k : Nat) (T : List UInt8 × Nat × Int) (e : Ending) (w' : World) : Prop :=
  ∃ x A c, e = .returned (.tuple #[.agg #[.bool (Nm.below x), .slice A x.size.length c], .int .i64 (rdK k T : Int), .int .i64 (rdE T)]) ∧ Bs w' A x.size.length x.size ∧ x.size.length ≤ c ∧ x.ok ∧ x.z = rdZ T ∧ x.size.length ≤ 80 ∧ Below w.heap.size w w'
set_option maxHeartbeats 6400000 in
theorem ref3Read (A : Option Addr) (n c : Nat) (l : List UInt8) (t : Tg) (w : World) (h : Bs w A n l) (hc : n ≤ c) (hn : n ≤ 1000000) :
    Calls Tryz.prog 7 #[.slice A n c, .int .i64 0, t.v] w (RdR w 0 (rOpen l 0 t)) := by
  have hlen := rOpen_len l 0 t
  rw [h.len] at hlen
  have hno := rOpen_no l 0 t
  have HO := Lib.hid (fun W (hW : Bs W A n l) => refOpen A n c 0 0 l t W hW (by omega) hc (Nat.zero_le _) rfl)
  generalize rOpen l 0 t = T at *
  obtain ⟨tc, tn, tm⟩ := t
  have kT : Blk ((w.alloc (.cells #[.int .i64 tc, .int .i64 tn, .bool tm] 34)).alloc (.cells #[.bool false, .slice none 0 0] 30)) w.heap.size 34 [.int .i64 tc, .int .i64 tn, .bool tm] :=
    (Blk.new w [.int .i64 tc, .int .i64 tn, .bool tm] 34).below (below_alloc1 _ _)
  have hP := Blk.new2 (w.alloc (.cells #[.int .i64 tc, .int .i64 tn, .bool tm] 34)) (.bool false) (.slice none 0 0) 30
  rw [World.size_alloc] at hP
  have b0 := below_alloc2 w (.cells #[.int .i64 tc, .int .i64 tn, .bool tm] 34) (.cells #[.bool false, .slice none 0 0] 30)
  have h0 := h.below b0
  unfold Tg.v at HO ⊢
  go_enter Tryz.func7, Tryz.ntmps7
  go_upto_region 1 with (fail)
  generalize ((w.alloc (Obj.cells #[.int .i64 tc, .int .i64 tn, .bool tm] 34)).alloc (Obj.cells #[.bool false, .slice none 0 0] 30)) = W0 at *
  have t0 := kT.cell 0
  have t1 := kT.cell 1
  have t2 := kT.cell 2
  simp at t0 t1 t2
  go_wp2_with fail
  refine (HO.out _ h0).mono ?_
  rintro e w3 ⟨A3, n3, c3, rfl, s3, hc3, b3⟩
  obtain ⟨ct, k', E⟩ := T
  simp only at s3 hlen hno ⊢
  obtain rfl : ct.length = n3 := s3.len
  have hP3 := hP.below b3
  have bW3 := below_st3 b0 b3
  clear HO t0 t1 t2 kT hP h0 b0 h b3
  by_cases q : E = 0
  · subst q
    go_wp2_with fail
    refine (ref3Parse A3 ct.length c3 ct w3 s3 hc3 (by omega)).mono ?_
    intro e w5 hPa
    obtain ⟨y, AY, cY, rfl, sY, hcY, oY, zY, lY, b5⟩ := hPa.all
    have hP5 := hP3.below b5
    have bW5 := below_st3 bW3 b5
    have HZ := Lib.hid zY
    have HOK := Lib.hid oY
    have HCY := Lib.hid hcY
    clear hPa hP3 bW3 zY oY hcY s3 b5
    have bx := below_alloc1 w5 (.cells #[.bool y.below, .slice AY y.size.length cY] 30)
    have hN := Blk.new2 w5 (.bool y.below) (.slice AY y.size.length cY) 30
    have hP6 := hP5.below bx
    have bW6 := below_st3 bW5 bx
    have sY := sY.below bx
    clear hP5 bW5 bx
    go_upto_region 5 with (fail)
    generalize (w5.alloc (Obj.cells #[.bool y.below, .slice AY y.size.length cY] 30)) = W6 at *
    generalize w5.heap.size = N at *
    have FIN : Hid (∀ W', Below w.heap.size w W' → Bs W' AY y.size.length y.size → RdR w 0 (ct, k', 0) (.returned (.tuple #[.agg #[.bool y.below, .slice AY y.size.length cY], .int .i64 ((if parE ct = 0 then k' else 0 : Nat) : Int), .int .i64 (parE ct)])) W') := by
      intro W' a1 a3
      exact ⟨y, AY, cY, rfl, a3, HCY.out, HOK.out, HZ.out, lY, a1⟩
    have FIN0 : Hid (parE ct ≠ 0 → ∀ W', Below w.heap.size w W' → RdR w 0 (ct, k', 0) (.returned (.tuple #[.agg #[.bool false, .slice none 0 0], .int .i64 0, .int .i64 (parE ct)])) W') := by
      intro hq W' a1
      refine ⟨⟨false, []⟩, none, 0, ?_, Bs.nil _ _, Nat.le_refl _, ⟨Nz.nil, fun _ => rfl⟩, ?_, by simp, a1⟩
      · have : rdK 0 (ct, k', 0) = 0 := if_neg hq
        rw [this]; rfl
      · unfold rdZ; rw [if_neg (show ¬ rdE (ct, k', 0) = 0 from hq)]; rfl
    obtain ⟨f, hf⟩ : ∃ f, parE ct = f := ⟨_, rfl⟩
    rw [hf] at FIN FIN0 ⊢
    clear hf
    obtain ⟨p0, p1, p2, p3⟩ := blk2 hP6
    by_cases qf : f = 0
    · subst qf
      obtain ⟨n0, n1, _, _⟩ := blk2 hN
      have s9 := sY.set2 hP6 (.bool y.below) (.slice AY y.size.length cY)
      obtain ⟨q0, q1, _, _⟩ := blk2 (blkPut hP6 (.bool y.below) (.slice AY y.size.length cY))
      have b9 := below_set2 bW6 bW6.size (show w.heap.size ≤ w.heap.size + 1 by omega) (.bool y.below) (.slice AY y.size.length cY)
      clear hP6 hN FIN0
      go_wp2
      refine bodyPost_ret (v := .tuple #[.agg #[.bool y.below, .slice AY y.size.length cY], .int .i64 (k' : Int), .int .i64 0]) (by simp [results, Tryz.results7, go_sem, q0, q1]) rfl ?_
      exact FIN.out _ b9 s9
    · have e1 : (f != 0) = true := by simpa using qf
      have e2 : (f == 0) = false := by simpa using qf
      obtain ⟨q0, q1, _, _⟩ := blk2 (blkPut hP6 (.bool false) (.slice none 0 0))
      have b9 := below_set2 bW6 bW6.size (show w.heap.size ≤ w.heap.size + 1 by omega) (.bool false) (.slice none 0 0)
      clear hP6 hN FIN sY
      go_wp2
      refine bodyPost_ret (v := .tuple #[.agg #[.bool false, .slice none 0 0], .int .i64 0, .int .i64 f]) (by simp [results, Tryz.results7, go_sem, q0, q1]) rfl ?_
      exact FIN0.out qf _ b9
  · have hT := hno q
    obtain ⟨rfl, rfl⟩ : ct = [] ∧ k' = 0 := by simpa using hT
    clear hno hT
    have e1 : (E != 0) = true := by simpa using q
    have e2 : (E == 0) = false := by simpa using q
    have rE : rdE ([], 0, E) = E := if_neg q
    have FIN : Hid (∀ W', Below w.heap.size w W' → RdR w 0 ([], 0, E) (.returned (.tuple #[.agg #[.bool false, .slice none 0 0], .int .i64 0, .int .i64 E])) W') := by
      intro W' a1
      refine ⟨⟨false, []⟩, none, 0, by unfold rdK; rw [rE, if_neg q]; rfl, Bs.nil _ _, Nat.le_refl _, ⟨Nz.nil, fun _ => rfl⟩, by unfold rdZ; rw [rE, if_neg q]; rfl, by simp, a1⟩
    clear rE
    obtain ⟨p0, p1, p2, p3⟩ := blk2 hP3
    obtain ⟨q0, q1, _, _⟩ := blk2 (blkPut hP3 (.bool false) (.slice none 0 0))
    have b9 := below_set2 bW3 bW3.size (show w.heap.size ≤ w.heap.size + 1 by omega) (.bool false) (.slice none 0 0)
    clear hP3
    go_wp2
    refine bodyPost_ret (v := .tuple #[.agg #[.bool false, .slice none 0 0], .int .i64 0, .int .i64 E]) (by simp [results, Tryz.results7, go_sem, q0, q1]) rfl ?_
    exact FIN.out _ b9

/-! ### Zb -/
def InI (z : Int) : Prop := -9223372036854775808 ≤ z ∧ z ≤ 9223372036854775807
instance (z : Int) : Decidable (InI z) := inferInstanceAs (Decidable (_ ∧ _))
/-- What ReadInt gives: the error, the int, the place. -/
def riE (rb : Bool) (T : List UInt8 × Nat × Int) : Int := if rb = false then 1 else if rdE T = 0 then (if InI (rdZ T) then 0 else 2) else rdE T
def riZ (rb : Bool) (T : List UInt8 × Nat × Int) : Int := if riE rb T = 0 then rdZ T else 0
def riK (rb : Bool) (k : Nat) (T : List UInt8 × Nat × Int) : Nat := if riE rb T = 0 then rdK k T else k
def RiP (w : World) (g : Nat) (s : Value) (l : List UInt8) (k : Nat) (rb : Bool) (T : List UInt8 × Nat × Int) (e : Ending) (w' : World) : Prop :=
  e = .returned (.tuple #[.int .i64 (riZ rb T), .int .i64 (riE rb T)]) ∧ Cur w' g s l (riK rb k T) ∧ Only g w w'
theorem RiP.err {w w' : World} {g k : Nat} {s : Value} {l : List UInt8} {rb : Bool} {T : List UInt8 × Nat × Int} {q : Int} (h : riE rb T = q) (hq : q ≠ 0) (hc : Cur w' g s l k) (ho : Only g w w') : RiP w g s l k rb T (.returned (.tuple #[.int .i64 0, .int .i64 q])) w' := by
  refine ⟨?_, ?_, ho⟩
  · unfold riZ; rw [h, if_neg hq]
  · unfold riK; rw [h, if_neg hq]; exact hc
theorem RiP.fine {w w' : World} {g k : Nat} {s : Value} {l : List UInt8} {rb : Bool} {T : List UInt8 × Nat × Int} (h : riE rb T = 0) (hc : Cur w' g s l (rdK k T)) (ho : Only g w w') : RiP w g s l k rb T (.returned (.tuple #[.int .i64 (rdZ T), .int .i64 0])) w' := by
  refine ⟨?_, ?_, ho⟩
  · unfold riZ; rw [h, if_pos rfl]
  · unfold riK; rw [h, if_pos rfl]; exact hc

set_option maxHeartbeats 6400000 in
theorem whReadInt (g k : Nat) (number : Int) (l : List UInt8) (w : World) {s : Value} (h : Cur w g s l k) (hl : l.length ≤ 1000000) :
    Calls Tryz.prog 13 #[.pointer (some ⟨g, 0, none⟩), .int .i64 number] w (RiP w g s l k (tgW number).rightB (rOpen l k (tgW number))) := by
  have hg := h.lt
  have hge : k ≤ rdK k (rOpen l k (tgW number)) := by unfold rdK; split; exact rOpen_ge _ _ _; exact Nat.le_refl _
  have HF : Hid (∀ W, Calls Tryz.prog 25 #[.int .i64 number] W fun e w' => e = .returned (tgW number).v ∧ Below W.heap.size W w') := fun W => hdOf number W
  have HRt := Lib.hid (fun W => hdRight (tgW number) W)
  have HRd := Lib.hid (fun W (hW : Cur W g s l k) => whRead g k l (tgW number) W hW hl)
  generalize rOpen l k (tgW number) = T at *
  generalize (tgW number).rightB = rb at *
  generalize tgW number = t at *
  obtain ⟨tc, tn, tm⟩ := t
  unfold Tg.v at *
  go_enter Tryz.func13, Tryz.ntmps13
  go_wp2_with fail
  refine (HF.out w).mono ?_
  rintro e w1 ⟨rfl, b1⟩
  have kT : Blk (w1.alloc (.cells #[.int .i64 tc, .int .i64 tn, .bool tm] 60)) w1.heap.size 60 [.int .i64 tc, .int .i64 tn, .bool tm] := Blk.new w1 [.int .i64 tc, .int .i64 tn, .bool tm] 60
  have bx := below_alloc1 w1 (.cells #[.int .i64 tc, .int .i64 tn, .bool tm] 60)
  have h1 := (h.below b1).below bx
  have o1 : Only g w _ := (Only.of_below b1).trans (Only.of_below bx)
  have hgX : g < w1.heap.size := (h.below b1).lt
  have hw1 : w.heap.size ≤ w1.heap.size := b1.size
  clear bx b1 h HF
  go_upto_region 2 with (fail)
  generalize (w1.alloc (Obj.cells #[.int .i64 tc, .int .i64 tn, .bool tm] 60)) = W1 at *
  generalize w1.heap.size = X at *
  have t0 := kT.cell 0
  have t1 := kT.cell 1
  have t2 := kT.cell 2
  simp at t0 t1 t2
  go_wp2_with fail
  refine (HRt.out W1).mono ?_
  rintro e w2 ⟨rfl, b2⟩
  have kT2 := kT.below b2
  have h2 := h1.below b2
  have o2 := o1.trans (Only.of_below b2)
  clear kT h1 o1 b2 t0 t1 t2 HRt
  cases rb with
  | false =>
    have FIN : Hid (riE false T = 1) := if_pos rfl
    clear HRd kT2
    go_wp2
    go_ret2
    exact RiP.err FIN.out (by decide) h2 o2
  | true =>
    have t0 := kT2.cell 0
    have t1 := kT2.cell 1
    have t2 := kT2.cell 2
    simp at t0 t1 t2
    go_wp2_with fail
    refine (curAt g k l w2 h2).mono ?_
    rintro e w3 ⟨rfl, hw3⟩
    obtain rfl : w2 = w3 := hw3
    go_wp2_with fail
    refine (HRd.out _ h2).mono ?_
    rintro e w4 ⟨o4, hc4, x, ⟨A4, c4, rfl, s4, hcc⟩, ok4, z4, l4⟩
    have o4' := o2.trans o4
    have HZ := Lib.hid z4
    have HC := Lib.hid hcc
    have FE : Hid (riE true T = if rdE T = 0 then (if InI (rdZ T) then 0 else 2) else rdE T) := if_neg (by simp)
    have FK : Hid (rdE T ≠ 0 → rdK k T = k) := fun hq => if_neg hq
    have FF : Hid (riE true T = 0 → ∀ W', Cur W' g s l (rdK k T) → Only g w W' → RiP w g s l k true T (.returned (.tuple #[.int .i64 (rdZ T), .int .i64 0])) W') := fun h0 W' a1 a2 => RiP.fine h0 a1 a2
    have FR : Hid (∀ q, riE true T = q → q ≠ 0 → ∀ W', Cur W' g s l k → Only g w W' → RiP w g s l k true T (.returned (.tuple #[.int .i64 0, .int .i64 q])) W') := fun q h0 hq W' a1 a2 => RiP.err h0 hq a1 a2
    clear HRd kT2 h2 o2 t0 t1 t2 z4 hcc o4 ok4
    have bx := below_alloc1 w4 (.cells #[.bool x.below, .slice A4 x.size.length c4] 26)
    have hN := Blk.new2 w4 (.bool x.below) (.slice A4 x.size.length c4) 26
    have s5 := s4.below bx
    have h5 := hc4.below bx
    have o5 := o4'.trans (Only.of_below bx)
    have hgN : g < w4.heap.size := hc4.lt
    clear bx s4 hc4 o4'
    obtain ⟨E, hE⟩ : ∃ E, rdE T = E := ⟨_, rfl⟩
    rw [hE] at FE FK ⊢
    obtain ⟨kk, hkk⟩ : ∃ kk, rdK k T = kk := ⟨_, rfl⟩
    rw [hkk] at hge h5 FK FF
    clear hkk hE
    go_upto_region 6 with (fail)
    generalize (w4.alloc (Obj.cells #[.bool x.below, .slice A4 x.size.length c4] 26)) = W5 at *
    generalize w4.heap.size = N at *
    by_cases q : E = 0
    · subst q
      rw [if_pos rfl] at FE
      obtain ⟨n0, n1, _, _⟩ := blk2 hN
      go_wp2_with fail
      refine (whInt x _ W5 ⟨A4, c4, rfl, s5, HC.out⟩ (by omega)).mono ?_
      rw [HZ.out]
      rintro e w6 ⟨hy, hn, b6⟩
      have h6 := h5.below b6
      have o6 := o5.trans (Only.of_below b6)
      clear hN h5 o5 b6 s5 n0 n1
      by_cases hin : InI (rdZ T)
      · obtain rfl := hy hin
        rw [if_pos hin] at FE
        clear hy hn
        go_wp2
        go_ret2
        exact FF.out FE.out _ h6 o6
      · obtain rfl := hn hin
        rw [if_neg hin] at FE
        clear hy hn
        go_wp2_with fail
        refine (curBack g kk k _ l _ h6 hge rfl).mono ?_
        rintro e w7 ⟨rfl, hc7, o7⟩
        have o7' := o6.trans o7
        clear h6 o6 o7
        go_wp2
        go_ret2
        exact FR.out _ FE.out (by decide) _ hc7 o7'
    · have e1 : (E != 0) = true := by simpa using q
      have e2 : (E == 0) = false := by simpa using q
      rw [if_neg q] at FE
      have hkk := FK.out q
      subst hkk
      clear hN s5
      go_wp2
      go_ret2
      exact FR.out _ FE.out q _ h5 o5

/-! ### R3f -/
set_option maxHeartbeats 1600000 in
theorem ref3Of1 (S : Nat) (w : World) (h0 : 0 < S) (h2 : S ≤ 9223372036854775808) :
    Calls Tryz.prog 22 #[.int .i64 (-(S : Int))] w fun e w' => ∃ (s : Nm) (u' : Value), e = .returned u' ∧ NumV w' s u' ∧ s.z = -(S : Int) ∧ s.below = true ∧ s.size.length ≤ 8 ∧ Below w.heap.size w w' := by
  obtain ⟨i0, hi, hz0, hz1, hz2⟩ := info_parts u8_info
  have hneg : decide (-(S : Int) < 0) = true := by simp; omega
  have hneg2 : -(S : Int) < 0 := by omega
  have hT := One.start w 30 (.bool false) (.slice none 0 0)
  go_enter Tryz.func22, Tryz.ntmps22
  go_wp2
  generalize (w.alloc (Obj.cells #[Value.bool false, Value.slice none 0 0] 30)) = W0 at *
  generalize hR : w.heap.size = R at *
  have HR := Lib.hid hR; clear hR
  have hB0 := hT.2.1
  have hK0 := hT.1
  have hs0 : Hid (R + 1 ≤ W0.heap.size) := hK0.lt
  clear hT
  go_loopw [0, 3] (fun kv v wr => ∃ (z : Nat) (sz : List UInt8), kv = .int .i64 (-(z : Int)) ∧ Ob wr (R + 1) 5 v sz ∧ Blk wr R 30 [.bool false, .slice none 0 0] ∧ Below w.heap.size w wr ∧ Hid (R + 1 ≤ wr.heap.size) ∧ Hid (S = z * 256 ^ sz.length + val sz) ∧ sz.length ≤ 8 ∧ Hid (z < 256 ^ (8 - sz.length)) ∧ z ≤ 9223372036854775808) (fun kv _ _ => (-(intOf kv)).toNat)
  case atStart => exact ⟨S, [], rfl, Ob.nil _ _ _, hK0, hB0, hs0, by simp [Hid, val], by simp, by simp [Hid]; omega, h2⟩
  case round =>
    obtain ⟨z, sz, rfl, hob, hK, hB, hs, hv, hl8, hzb, hz63⟩ := hrel
    clear hB0 hK0 hs0
    by_cases hz0' : z = 0
    · subst hz0'
      have hF : Hid (Nm.z ⟨true, sz⟩ = -(S : Int)) := by
        have := hv.out
        unfold Hid Nm.z; simp only [if_true]; rw [this]; simp
      obtain ⟨A1, c1, rfl, hc1, hbs⟩ := hob.slice
      have r0 := hK.cell 0
      have r1 := hK.cell 1
      have g0 := hK.free 0
      have g1 := hK.free 1
      simp at r0 r1
      have hlt := hK.lt
      generalize hL : sz.length = L at *
      have HL := Lib.hid hL; clear hL
      go_wp2
      refine bodyPost_ret (v := .agg #[.bool true, .slice A1 L c1]) (by simp [results, Tryz.results22, go_sem, r0, r1]) rfl ?_
      refine ⟨⟨true, sz⟩, _, rfl, NumV.mk' _ (hbs.set2 hK _ _) hc1, hF.out, rfl, by simp only [HL.out]; exact hl8, ?_⟩
      exact below_set2 hB (by rw [HR.out]; omega) (by rw [HR.out]; omega) _ _
    · have e1 : (-(z : Int) != 0) = true := by simp; omega
      have tm0 : (-(z : Int)).tmod 256 = -((z : Int) % 256) := by rw [Int.neg_tmod, Int.tmod_eq_emod_of_nonneg (by omega)]
      have tq0 : (-(z : Int)).tdiv 256 = -((z : Int) / 256) := by rw [Int.neg_tdiv, Int.tdiv_eq_ediv_of_nonneg (by omega)]
      obtain ⟨qz, hqz⟩ : ∃ qz : Nat, z / 256 = qz := ⟨_, rfl⟩
      have tq : (-(z : Int)).tdiv 256 = -(qz : Int) := by rw [tq0]; omega
      clear tq0
      have hlt8 : sz.length < 8 := by
        have := hzb.out
        by_cases h8 : sz.length = 8
        · rw [h8] at this; simp at this; omega
        · omega
      obtain ⟨x, hx⟩ : ∃ x : UInt8, (z : Int) % 256 = (x.toNat : Int) := ⟨UInt8.ofNat (z % 256), by rw [UInt8.toNat_ofNat']; omega⟩
      have hxb := UInt8.toNat_lt x
      have hF : Hid (S = (z / 256) * 256 ^ (sz.length + 1) + val (x :: sz)) := by
        unfold Hid
        rw [val_cons, hv.out]
        have h3 : z = z / 256 * 256 + x.toNat := by omega
        have h4 : z * 256 ^ sz.length = z / 256 * 256 ^ (sz.length + 1) + x.toNat * 256 ^ sz.length := by
          conv => lhs; rw [h3]
          rw [Nat.add_mul, Nat.pow_succ, Nat.mul_assoc, Nat.mul_comm 256]
        omega
      have hzb2 : Hid (z / 256 < 256 ^ (8 - (sz.length + 1))) := by
        have := hzb.out
        unfold Hid
        rw [show 8 - sz.length = (8 - (sz.length + 1)) + 1 by omega, Nat.pow_succ] at this
        omega
      by_cases hd : z % 256 = 0
      · have HX := Lib.hid hx
        have tm : (-(z : Int)).tmod 256 = 0 := by rw [tm0]; omega
        have HX0 : Hid ((0 : Int) = (x.toNat : Int)) := by unfold Hid; omega
        have HQZ := Lib.hid hqz
        have hqb : qz ≤ 9223372036854775808 := by omega
        have hqlt : Hid (qz < z) := by unfold Hid; omega
        clear hx hv hzb HX tm0 hd hqz
        obtain ⟨A1, c1, rfl, hc1, hbs⟩ := hob.slice
        have ho1 := Ob.one wr (R + 1) 5 x 0 hs.out HX0.out
        have hbs1 := hbs.below (below_alloc1 wr (Obj.cells #[.int .u8 0] 5))
        generalize hL : sz.length = L at *
        have HL := Lib.hid hL; clear hL
        go_wp2_with (at_builtin; refine wpList_appendB rfl _ _ 22 rfl (R + 1) 5 i0 (.int .u8 0) Tryz.underlying22 hi hz0 hz1 hz2 rfl _ [x] rfl ho1 _ _ _ sz rfl hbs1 (by simp; omega) (by have := hs.out; simp; omega) ?_)
        intro v1 w1 hob1 hg1 _ _
        have hB1 : Below w.heap.size w w1 := (hB.alloc hB.size _).grown hg1 (by have := hB.size; simp; omega) (by
          intro k hk
          simp [Value.ownBlock] at hk
          have := hB.size
          omega)
        have hK1 := (hK.below (below_alloc1 wr (Obj.cells #[.int .u8 0] 5))).grown hg1 (by
          have := hK.lt
          simp [Value.ownBlock]; omega)
        have hs1 : Hid (R + 1 ≤ w1.heap.size) := hK1.lt
        go_wp2
        refine ⟨⟨qz, x :: sz, rfl, hob1, hK1, hB1, hs1, ?_, ?_, ?_, hqb⟩, ?_⟩
        · have := HL.out; rw [List.length_cons, this, ← HQZ.out]; exact hF
        · have := HL.out; simp; omega
        · have := HL.out; rw [List.length_cons, this, ← HQZ.out]; exact hzb2
        · have := hqlt.out
          simp [intOf]; omega
      · have HX := Lib.hid hx
        obtain ⟨r, hr⟩ : ∃ r : Nat, z % 256 = r := ⟨_, rfl⟩
        have tm : (-(z : Int)).tmod 256 = -(r : Int) := by rw [tm0]; omega
        have r0 : 0 < r := by omega
        have r1 : r < 256 := by omega
        have n1 : -(r : Int) < 0 := by omega
        have n2 : (0 : Int) < r := by omega
        have HX0 : Hid ((r : Int) = (x.toNat : Int)) := by unfold Hid; omega
        have HQZ := Lib.hid hqz
        have hqb : qz ≤ 9223372036854775808 := by omega
        have hqlt : Hid (qz < z) := by unfold Hid; omega
        clear hx hv hzb HX tm0 hd hr hqz
        obtain ⟨A1, c1, rfl, hc1, hbs⟩ := hob.slice
        have ho1 := Ob.one wr (R + 1) 5 x (r : Int) hs.out HX0.out
        have hbs1 := hbs.below (below_alloc1 wr (Obj.cells #[.int .u8 (r : Int)] 5))
        generalize hL : sz.length = L at *
        have HL := Lib.hid hL; clear hL
        go_wp2_with (at_builtin; refine wpList_appendB rfl _ _ 22 rfl (R + 1) 5 i0 (.int .u8 0) Tryz.underlying22 hi hz0 hz1 hz2 rfl _ [x] rfl ho1 _ _ _ sz rfl hbs1 (by simp; omega) (by have := hs.out; simp; omega) ?_)
        intro v1 w1 hob1 hg1 _ _
        have hB1 : Below w.heap.size w w1 := (hB.alloc hB.size _).grown hg1 (by have := hB.size; simp; omega) (by
          intro k hk
          simp [Value.ownBlock] at hk
          have := hB.size
          omega)
        have hK1 := (hK.below (below_alloc1 wr (Obj.cells #[.int .u8 (r : Int)] 5))).grown hg1 (by
          have := hK.lt
          simp [Value.ownBlock]; omega)
        have hs1 : Hid (R + 1 ≤ w1.heap.size) := hK1.lt
        go_wp2
        refine ⟨⟨qz, x :: sz, rfl, hob1, hK1, hB1, hs1, ?_, ?_, ?_, hqb⟩, ?_⟩
        · have := HL.out; rw [List.length_cons, this, ← HQZ.out]; exact hF
        · have := HL.out; simp; omega
        · have := HL.out; rw [List.length_cons, this, ← HQZ.out]; exact hzb2
        · have := hqlt.out
          simp [intOf]; omega

/-! ### R3o -/
theorem ref3Of (k : Int) (w : World) (h1 : -9223372036854775808 ≤ k) (h2 : k ≤ 9223372036854775807) :
    Calls Tryz.prog 22 #[.int .i64 k] w fun e w' => ∃ (s : Nm) (u' : Value), e = .returned u' ∧ NumV w' s u' ∧ s.z = k ∧ s.size.length ≤ 8 ∧ Below w.heap.size w w' := by
  by_cases h : k < 0
  · have := ref3Of1 k.natAbs w (by omega) (by omega)
    rw [show -(k.natAbs : Int) = k by omega] at this
    exact this.mono fun e w' ⟨s, u', h1, h2, h3, _, h4, h5⟩ => ⟨s, u', h1, h2, h3, h4, h5⟩
  · have := ref3Of0 k.natAbs w (by omega)
    rw [show (k.natAbs : Int) = k by omega] at this
    exact this.mono fun e w' ⟨s, u', h1, h2, h3, _, h4, h5⟩ => ⟨s, u', h1, h2, h3, h4, h5⟩

/-! ### Zc -/
/-- Contents' answer, an error or not. -/
theorem ContO.all {w w' : World} {p : Bool} {s : List UInt8} {e : Ending} (h : ContO w p s e w') :
    ∃ A m c q B, e = .returned (.tuple #[.slice A m c, .int .i64 q]) ∧ Bs w' A m B ∧ m ≤ c ∧ ((64 < bitsL s / 8 + 1 ∧ q = 2 ∧ m = 0) ∨ (¬ 64 < bitsL s / 8 + 1 ∧ q = 0 ∧ m = bitsL s / 8 + 1 ∧ B = contB p s)) ∧ Below w.heap.size w w' := by
  obtain ⟨h1, h2, h3⟩ := h
  by_cases h0 : 64 < bitsL s / 8 + 1
  · exact ⟨none, 0, 0, 2, [], h1 h0, Bs.nil _ _, Nat.le_refl _, .inl ⟨h0, rfl, rfl⟩, h3⟩
  · obtain ⟨A, c, rfl, hs, hc⟩ := h2 (by omega)
    exact ⟨A, _, c, 0, _, rfl, hs, hc, .inr ⟨h0, rfl, rfl, rfl⟩, h3⟩
theorem Bss.new1 {w : World} {A1 : Option Addr} {n1 c1 : Nat} {l1 : List UInt8} (t : TypeId) (h1 : Bs w A1 n1 l1) (k1 : n1 ≤ c1) :
    Bss (w.alloc (.cells #[.slice A1 n1 c1] t)) (some ⟨w.heap.size, 0, none⟩) 1 [l1] := by
  have hb := heap_alloc_new w (.cells #[.slice A1 n1 c1] t)
  refine ⟨rfl, fun i l hl => ?_⟩
  match i, hl with
  | 0, hl =>
    have e : l = l1 := by simpa using hl.symm
    subst e
    exact ⟨w.heap.size, 0, A1, n1, c1, rfl, by rw [blk_cell hb]; rfl, h1.below (below_alloc1 _ _), k1⟩
  | i + 1, hl => simp at hl
theorem short1 {b : List UInt8} (h : b.length ≤ 1099511627776) : Short 1099511627776 [b] := by
  intro k
  unfold rowL
  match k with
  | 0 => simpa using h
  | k + 1 => simp
theorem wrapOne (t : Tg) (A : Option Addr) (n c : Nat) (b : List UInt8) (w : World) (ht : t.rightB = true) (h : Bs w A n b) (hc : n ≤ c) (hb : b.length ≤ 16777216) :
    Calls Tryz.prog 51 #[t.v, .slice (some ⟨w.heap.size, 0, none⟩) 1 1] (w.alloc (.cells #[.slice A n c] 22)) (NewBs2 (w.alloc (.cells #[.slice A n c] 22)) (wrapB t b)) := by
  have hW := hdWrap t _ 1 1 [b] _ ht (Bss.new1 22 h hc) (by omega) (by simpa using hb) (short1 (by omega))
  simp only [List.flatten_cons, List.flatten_nil, List.append_nil] at hW
  exact hW

/-- What writing a number hands back. -/
def WrQ (z : Int) (t : Tg) (w : World) (e : Ending) (w' : World) : Prop :=
  ∃ s : Nm, s.ok ∧ s.z = (if z < 0 then -1 - z else z) ∧
    ((64 < bitsL s.size / 8 + 1 ∧ e = .returned (.tuple #[.slice none 0 0, .int .i64 2])) ∨
     (¬ 64 < bitsL s.size / 8 + 1 ∧ (contB (decide (z < 0)) s.size).length ≤ 64 ∧ ∃ A n c, e = .returned (.tuple #[.slice A n c, .int .i64 0]) ∧ Bs w' A n (wrapB t (contB (decide (z < 0)) s.size)) ∧ n ≤ c)) ∧ Below w.heap.size w w'

set_option maxHeartbeats 6400000 in
theorem whWrite (x : Nm) (A : Option Addr) (c : Nat) (t : Tg) (w : World) (ht : t.rightB = true) (hb : Bs w A x.size.length x.size) (hc : x.size.length ≤ c) (hn : x.size.length ≤ 600000) :
    Calls Tryz.prog 37 #[.agg #[.bool x.below, .slice A x.size.length c], t.v] w (WrQ x.z t w) := by
  have HW := Lib.hid (fun A n c b W (h : Bs W A n b) (hc : n ≤ c) (hl : b.length ≤ 16777216) => wrapOne t A n c b W ht h hc hl)
  have FN1 : Hid (∀ (s : Nm) (w' : World), s.ok → s.z = (if x.z < 0 then -1 - x.z else x.z) → 64 < bitsL s.size / 8 + 1 → Below w.heap.size w w' → WrQ x.z t w (.returned (.tuple #[.slice none 0 0, .int .i64 2])) w') := fun s w' h1 h2 h3 h4 => ⟨s, h1, h2, .inl ⟨h3, rfl⟩, h4⟩
  have FN2 : Hid (∀ (s : Nm) (w' : World) A n c, s.ok → s.z = (if x.z < 0 then -1 - x.z else x.z) → ¬ 64 < bitsL s.size / 8 + 1 → (contB (decide (x.z < 0)) s.size).length ≤ 64 → Bs w' A n (wrapB t (contB (decide (x.z < 0)) s.size)) → n ≤ c → Below w.heap.size w w' → WrQ x.z t w (.returned (.tuple #[.slice A n c, .int .i64 0])) w') := fun s w' A n c h1 h2 h3 h4 h5 h6 h7 => ⟨s, h1, h2, .inr ⟨h3, h4, A, n, c, rfl, h5, h6⟩, h7⟩
  generalize hWW : wrapB t = WB at *
  clear hWW
  obtain ⟨tc, tn, tm⟩ := t
  have kN := (Blk.new2 w (.bool x.below) (.slice A x.size.length c) 26).below (below_alloc1 _ (.cells #[.int .i64 tc, .int .i64 tn, .bool tm] 60))
  have kT : Blk ((w.alloc (.cells #[.bool x.below, .slice A x.size.length c] 26)).alloc (.cells #[.int .i64 tc, .int .i64 tn, .bool tm] 60)) (w.heap.size + 1) 60 [.int .i64 tc, .int .i64 tn, .bool tm] := by
    have := Blk.new (w.alloc (.cells #[.bool x.below, .slice A x.size.length c] 26)) [.int .i64 tc, .int .i64 tn, .bool tm] 60
    rw [World.size_alloc] at this
    exact this
  have b0 := below_alloc2 w (.cells #[.bool x.below, .slice A x.size.length c] 26) (.cells #[.int .i64 tc, .int .i64 tn, .bool tm] 60)
  have h0 := hb.below b0
  have HC := Lib.hid hc
  clear hb hc ht
  unfold Tg.v at *
  go_enter Tryz.func37, Tryz.ntmps37
  go_upto_region 1 with (fail)
  generalize ((w.alloc (Obj.cells #[.bool x.below, .slice A x.size.length c] 26)).alloc (Obj.cells #[.int .i64 tc, .int .i64 tn, .bool tm] 60)) = W0 at *
  obtain ⟨n0, n1, _, _⟩ := blk2 kN
  go_wp2_with fail
  refine (whContents x _ W0 ⟨A, c, rfl, h0, HC.out⟩ (by omega)).mono ?_
  rintro e w1 ⟨s, hsok, hsz, hsl, hO⟩
  obtain ⟨A1, m1, c1, q1, B1, rfl, s1, hc1, CS1, b1⟩ := hO.all
  have kT1 := kT.below b1
  have bW1 := below_st3 b0 b1
  have HS1 := Lib.hid hsok
  have HS2 := Lib.hid hsz
  clear n0 n1 kN kT h0 b0 b1 hO hsok hsz hsl
  rcases CS1 with ⟨g64, rfl, rfl⟩ | ⟨g64, rfl, hm1, hB1⟩
  · have FF := FN1.out s w1 HS1.out HS2.out g64 bW1
    have HFF := Lib.hid FF
    clear FF FN1 FN2 HW g64 s1 kT1 hc1
    go_wp2
    go_ret2
    exact HFF.out
  · have hl1 := s1.len
    have FF := Lib.hid (fun w' A n c h5 h6 h7 => FN2.out s w' A n c HS1.out HS2.out g64 (by rw [← hB1]; omega) h5 h6 h7)
    have HB1 := Lib.hid hB1
    have hB64 : B1.length ≤ 64 := by omega
    rw [← hB1] at FF
    have WP := HW.out A1 m1 c1 B1 w1 s1 hc1 (by omega)
    have t0 := kT1.cell 0
    have t1 := kT1.cell 1
    have t2 := kT1.cell 2
    simp at t0 t1 t2
    clear FN1 FN2 HW g64 hm1 hB1 hl1
    go_wp2_with fail
    refine WP.mono ?_
    rintro e w3 ⟨A3, m3, c3, rfl, ho3, hB3⟩
    have q3 := bW1.trans (Below.mono ((below_alloc1 _ _).trans (Below.mono hB3 (by simp))) bW1.size)
    have s3 := ho3.bs
    clear WP t0 t1 t2 kT1 ho3 hB3 bW1 s1
    go_wp2
    go_ret2
    exact FF.out w3 A3 m3 c3 s3.1 s3.2 q3

set_option maxHeartbeats 6400000 in
theorem whWriteT (x : Nm) (A : Option Addr) (c : Nat) (w : World) (hb : Bs w A x.size.length x.size) (hc : x.size.length ≤ c) (hn : x.size.length ≤ 600000) :
    Calls Tryz.prog 16 #[.agg #[.bool x.below, .slice A x.size.length c]] w (WrQ x.z (tgW 2) w) := by
  have kN := Blk.new2 w (.bool x.below) (.slice A x.size.length c) 26
  have b0 := below_alloc1 w (.cells #[.bool x.below, .slice A x.size.length c] 26)
  have HF : Hid (∀ W, Calls Tryz.prog 25 #[.int .i64 2] W fun e w' => e = .returned (tgW 2).v ∧ Below W.heap.size W w') := fun W => hdOf 2 W
  have HWr := Lib.hid (fun W (h : Bs W A x.size.length x.size) => whWrite x A c (tgW 2) W (by decide) h hc hn)
  go_enter Tryz.func16, Tryz.ntmps16
  go_upto_region 1 with (fail)
  generalize (w.alloc (Obj.cells #[.bool x.below, .slice A x.size.length c] 26)) = W0 at *
  have ST : Hid (∀ W, Below W0.heap.size W0 W → (W.cell? ⟨w.heap.size, 0, none⟩ = some (.bool x.below) ∧ W.cell? ⟨w.heap.size, 1, none⟩ = some (.slice A x.size.length c)) ∧ Bs W A x.size.length x.size ∧ Below w.heap.size w W) :=
    fun W hW => ⟨⟨(kN.below hW).cell 0, (kN.below hW).cell 1⟩, (hb.below b0).below hW, below_st3 b0 hW⟩
  clear kN b0 hb hc
  refine wp_region_held_drew (S := fun w' => w'.cell? ⟨w.heap.size, 0, none⟩ = some (.bool x.below) ∧ w'.cell? ⟨w.heap.size, 1, none⟩ = some (.slice A x.size.length c)) (by kernel_rfl) ?_ (fun hHeld => ?_)
  · (try dsimp only); exact (ST.out _ (Below.drew (Below.refl _ _))).1
  refine wpAnyH_take (i := 0) (v := ?_) rfl (by kernel_rfl) (by kernel_rfl) (by kernel_rfl) (fun _ _ _ h => h) (Or.inl ⟨by kernel_rfl, ?_⟩) (by assumption) ?_
  rotate_left 1
  · (intro w hSw; (try dsimp only at hSw); go_simp) <;> (try with_reducible rfl)
  try simp only [Act.put, List.setIfInBounds_toArray, List.set_cons_zero, List.set_cons_succ, List.getElem_toArray, List.getElem_cons_succ, List.getElem_cons_zero]
  refine wpAnyH_ready (rs := [1]) (by kernel_rfl) (by simp) ?_
  refine AllReadyH.cons rfl (fun K hK => ?_) AllReadyH.nil
  go_simp
  refine (HF.out _).mono ?_
  rintro e w1 ⟨rfl, b1⟩
  have b1 := Below.trans (Below.drew (Below.refl _ _)) b1
  have k1 := ST.out _ b1
  go_wp2_with fail
  refine hK.out _ _ ?_ (fun hHeld => ?_)
  · (try dsimp only); exact k1.1
  clear hK K
  try simp only [Act.put, List.setIfInBounds_toArray, List.set_cons_zero, List.set_cons_succ, List.getElem_toArray, List.getElem_cons_succ, List.getElem_cons_zero]
  refine wpAnyH_ready (rs := [2]) (by kernel_rfl) (by simp) ?_
  refine AllReadyH.cons rfl (fun K hK => ?_) AllReadyH.nil
  go_simp
  refine (HWr.out _ k1.2.1).mono ?_
  rintro e w2 ⟨s, k1', k2, k3, b2⟩
  have b2 := b1.trans (Below.mono b2 b1.size)
  have kk2 := ST.out _ b2
  have bW2 := kk2.2.2
  rcases k3 with ⟨k4, rfl⟩ | ⟨k4, k5, A3, n3, c3, rfl, k6, k7⟩
  · have FF : Hid (WrQ x.z (tgW 2) w (.returned (.tuple #[.slice none 0 0, .int .i64 2])) w2) := ⟨s, k1', k2, .inl ⟨k4, rfl⟩, bW2⟩
    clear k1' k2 k4
    go_wp2_with fail
    refine hK.out _ _ ?_ (fun hHeld => ?_)
    · (try dsimp only); exact kk2.1
    clear hK K
    try simp only [Act.put, List.setIfInBounds_toArray, List.set_cons_zero, List.set_cons_succ, List.getElem_toArray, List.getElem_cons_succ, List.getElem_cons_zero]
    refine wpAnyH_take (i := 3) (v := ?_) rfl (by kernel_rfl) (by kernel_rfl) (by kernel_rfl) (fun _ _ _ h => h) (Or.inl ⟨by kernel_rfl, ?_⟩) (by assumption) ?_
    rotate_left 1
    · (intro w hSw; (try dsimp only at hSw); go_simp) <;> (try with_reducible rfl)
    try simp only [Act.put, List.setIfInBounds_toArray, List.set_cons_zero, List.set_cons_succ, List.getElem_toArray, List.getElem_cons_succ, List.getElem_cons_zero]
    refine wpAnyH_take (i := 4) (v := ?_) rfl (by kernel_rfl) (by kernel_rfl) (by kernel_rfl) (fun _ _ _ h => h) (Or.inl ⟨by kernel_rfl, ?_⟩) (by assumption) ?_
    rotate_left 1
    · (intro w hSw; (try dsimp only at hSw); go_simp) <;> (try with_reducible rfl)
    try simp only [Act.put, List.setIfInBounds_toArray, List.set_cons_zero, List.set_cons_succ, List.getElem_toArray, List.getElem_cons_succ, List.getElem_cons_zero]
    refine wpAnyH_take (i := 5) (v := ?_) rfl (by kernel_rfl) (by kernel_rfl) (by kernel_rfl) (fun _ _ _ h => h) (Or.inl ⟨by kernel_rfl, ?_⟩) (by assumption) ?_
    rotate_left 1
    · (intro w hSw; (try dsimp only at hSw); go_simp) <;> (try with_reducible rfl)
    try simp only [Act.put, List.setIfInBounds_toArray, List.set_cons_zero, List.set_cons_succ, List.getElem_toArray, List.getElem_cons_succ, List.getElem_cons_zero]
    refine wpAnyH_take (i := 6) (v := ?_) rfl (by kernel_rfl) (by kernel_rfl) (by kernel_rfl) (fun _ _ _ h => h) (Or.inl ⟨by kernel_rfl, ?_⟩) (by assumption) ?_
    rotate_left 1
    · (intro w hSw; (try dsimp only at hSw); go_simp) <;> (try with_reducible rfl)
    try simp only [Act.put, List.setIfInBounds_toArray, List.set_cons_zero, List.set_cons_succ, List.getElem_toArray, List.getElem_cons_succ, List.getElem_cons_zero]
    refine wpAnyH_done (by kernel_rfl) ?_ _
    go_wp2
    go_ret2
    exact FF.out
  · have FF : Hid (WrQ x.z (tgW 2) w (.returned (.tuple #[.slice A3 n3 c3, .int .i64 0])) w2) := ⟨s, k1', k2, .inr ⟨k4, k5, A3, n3, c3, rfl, k6, k7⟩, bW2⟩
    clear k1' k2 k4 k5 k6 k7
    go_wp2_with fail
    refine hK.out _ _ ?_ (fun hHeld => ?_)
    · (try dsimp only); exact kk2.1
    clear hK K
    try simp only [Act.put, List.setIfInBounds_toArray, List.set_cons_zero, List.set_cons_succ, List.getElem_toArray, List.getElem_cons_succ, List.getElem_cons_zero]
    refine wpAnyH_take (i := 3) (v := ?_) rfl (by kernel_rfl) (by kernel_rfl) (by kernel_rfl) (fun _ _ _ h => h) (Or.inl ⟨by kernel_rfl, ?_⟩) (by assumption) ?_
    rotate_left 1
    · (intro w hSw; (try dsimp only at hSw); go_simp) <;> (try with_reducible rfl)
    try simp only [Act.put, List.setIfInBounds_toArray, List.set_cons_zero, List.set_cons_succ, List.getElem_toArray, List.getElem_cons_succ, List.getElem_cons_zero]
    refine wpAnyH_take (i := 4) (v := ?_) rfl (by kernel_rfl) (by kernel_rfl) (by kernel_rfl) (fun _ _ _ h => h) (Or.inl ⟨by kernel_rfl, ?_⟩) (by assumption) ?_
    rotate_left 1
    · (intro w hSw; (try dsimp only at hSw); go_simp) <;> (try with_reducible rfl)
    try simp only [Act.put, List.setIfInBounds_toArray, List.set_cons_zero, List.set_cons_succ, List.getElem_toArray, List.getElem_cons_succ, List.getElem_cons_zero]
    refine wpAnyH_take (i := 5) (v := ?_) rfl (by kernel_rfl) (by kernel_rfl) (by kernel_rfl) (fun _ _ _ h => h) (Or.inl ⟨by kernel_rfl, ?_⟩) (by assumption) ?_
    rotate_left 1
    · (intro w hSw; (try dsimp only at hSw); go_simp) <;> (try with_reducible rfl)
    try simp only [Act.put, List.setIfInBounds_toArray, List.set_cons_zero, List.set_cons_succ, List.getElem_toArray, List.getElem_cons_succ, List.getElem_cons_zero]
    refine wpAnyH_take (i := 6) (v := ?_) rfl (by kernel_rfl) (by kernel_rfl) (by kernel_rfl) (fun _ _ _ h => h) (Or.inl ⟨by kernel_rfl, ?_⟩) (by assumption) ?_
    rotate_left 1
    · (intro w hSw; (try dsimp only at hSw); go_simp) <;> (try with_reducible rfl)
    try simp only [Act.put, List.setIfInBounds_toArray, List.set_cons_zero, List.set_cons_succ, List.getElem_toArray, List.getElem_cons_succ, List.getElem_cons_zero]
    refine wpAnyH_done (by kernel_rfl) ?_ _
    go_wp2
    go_ret2
    exact FF.out

/-- What WriteInt hands back. -/
def WiQ (k : Int) (rb : Bool) (t : Tg) (w : World) (e : Ending) (w' : World) : Prop :=
  (rb = false → e = .returned (.tuple #[.slice none 0 0, .int .i64 1]) ∧ Below w.heap.size w w') ∧ (rb = true → WrQ k t w e w')
set_option maxHeartbeats 6400000 in
theorem whWriteInt (k number : Int) (w : World) (h1 : -9223372036854775808 ≤ k) (h2 : k ≤ 9223372036854775807) :
    Calls Tryz.prog 21 #[.int .i64 k, .int .i64 number] w (WiQ k (tgW number).rightB (tgW number) w) := by
  have HF : Hid (∀ W, Calls Tryz.prog 25 #[.int .i64 number] W fun e w' => e = .returned (tgW number).v ∧ Below W.heap.size W w') := fun W => hdOf number W
  have HRt := Lib.hid (fun W => hdRight (tgW number) W)
  have HWr := Lib.hid (fun (x : Nm) A c W (ht : (tgW number).rightB = true) (h : Bs W A x.size.length x.size) (hc : x.size.length ≤ c) (hn : x.size.length ≤ 600000) => whWrite x A c (tgW number) W ht h hc hn)
  generalize hrb : (tgW number).rightB = rb at *
  have HRB := Lib.hid hrb
  clear hrb
  generalize tgW number = t at *
  have WQ : Hid (∀ e w', WrQ k t w e w' → rb = true → WiQ k rb t w e w') := fun e w' hq hr => ⟨fun h => (by rw [hr] at h; cases h), fun _ => hq⟩
  have WQ0 : Hid (rb = false → ∀ w', Below w.heap.size w w' → WiQ k rb t w (.returned (.tuple #[.slice none 0 0, .int .i64 1])) w') := fun hr w' hb => ⟨fun _ => ⟨rfl, hb⟩, fun h => (by rw [hr] at h; cases h)⟩
  have WM : Hid (∀ (s : Nm) (w' : World), s.ok → s.z = (if k < 0 then -1 - k else k) → 64 < bitsL s.size / 8 + 1 → Below w.heap.size w w' → WrQ k t w (.returned (.tuple #[.slice none 0 0, .int .i64 2])) w') := fun s w' a1 a2 a3 a4 => ⟨s, a1, a2, .inl ⟨a3, rfl⟩, a4⟩
  have WN : Hid (∀ (s : Nm) (w' : World) A n c, s.ok → s.z = (if k < 0 then -1 - k else k) → ¬ 64 < bitsL s.size / 8 + 1 → (contB (decide (k < 0)) s.size).length ≤ 64 → Bs w' A n (wrapB t (contB (decide (k < 0)) s.size)) → n ≤ c → Below w.heap.size w w' → WrQ k t w (.returned (.tuple #[.slice A n c, .int .i64 0])) w') := fun s w' A n c a1 a2 a3 a4 a5 a6 a7 => ⟨s, a1, a2, .inr ⟨a3, a4, A, n, c, rfl, a5, a6⟩, a7⟩
  have WU : Hid (∀ z e W w', WrQ z t W e w' → ∃ s : Nm, s.ok ∧ s.z = (if z < 0 then -1 - z else z) ∧ ((64 < bitsL s.size / 8 + 1 ∧ e = .returned (.tuple #[.slice none 0 0, .int .i64 2])) ∨ (¬ 64 < bitsL s.size / 8 + 1 ∧ (contB (decide (z < 0)) s.size).length ≤ 64 ∧ ∃ A n c, e = .returned (.tuple #[.slice A n c, .int .i64 0]) ∧ Bs w' A n (wrapB t (contB (decide (z < 0)) s.size)) ∧ n ≤ c)) ∧ Below W.heap.size W w') := fun z e W w' h => h
  generalize wrapB t = WB at *
  obtain ⟨tc, tn, tm⟩ := t
  unfold Tg.v at *
  go_enter Tryz.func21, Tryz.ntmps21
  go_wp2_with fail
  refine (HF.out w).mono ?_
  rintro e w1 ⟨rfl, b1⟩
  have kT : Blk (w1.alloc (.cells #[.int .i64 tc, .int .i64 tn, .bool tm] 60)) w1.heap.size 60 [.int .i64 tc, .int .i64 tn, .bool tm] := Blk.new w1 [.int .i64 tc, .int .i64 tn, .bool tm] 60
  have b1' := below_st3 b1 (below_alloc1 w1 (.cells #[.int .i64 tc, .int .i64 tn, .bool tm] 60))
  clear b1 HF
  go_upto_region 2 with (fail)
  generalize (w1.alloc (Obj.cells #[.int .i64 tc, .int .i64 tn, .bool tm] 60)) = W1 at *
  generalize w1.heap.size = X at *
  have t0 := kT.cell 0
  have t1 := kT.cell 1
  have t2 := kT.cell 2
  simp at t0 t1 t2
  go_wp2_with fail
  refine (HRt.out W1).mono ?_
  rintro e w2 ⟨rfl, b2⟩
  have kT2 := kT.below b2
  have bW2' := below_st3 b1' b2
  clear kT b1' b2 t0 t1 t2 HRt
  cases rb with
  | false =>
    have FF := Lib.hid (WQ0.out (by first | exact trivial | rfl) _ bW2')
    clear HWr kT2 WQ WQ0 WM WN WU
    go_wp2
    go_ret2
    exact FF.out
  | true =>
    go_upto_region 4 with (fail)
    rename World => W0
    have ST : Hid (∀ W, Below W0.heap.size W0 W → (W.cell? ⟨X, 0, none⟩ = some (.int .i64 tc) ∧ W.cell? ⟨X, 1, none⟩ = some (.int .i64 tn) ∧ W.cell? ⟨X, 2, none⟩ = some (.bool tm)) ∧ Below w.heap.size w W) :=
      fun W hW => ⟨⟨(kT2.below hW).cell 0, (kT2.below hW).cell 1, (kT2.below hW).cell 2⟩, below_st3 bW2' hW⟩
    clear kT2 bW2'
    refine wp_region_held_drew (S := fun w' => w'.cell? ⟨X, 0, none⟩ = some (.int .i64 tc) ∧ w'.cell? ⟨X, 1, none⟩ = some (.int .i64 tn) ∧ w'.cell? ⟨X, 2, none⟩ = some (.bool tm)) (by kernel_rfl) ?_ (fun hHeld => ?_)
    · (try dsimp only); exact (ST.out _ (Below.drew (Below.refl _ _))).1
    refine wpAnyH_take (i := 0) (v := ?_) rfl (by kernel_rfl) (by kernel_rfl) (by kernel_rfl) (fun _ _ _ h => h) (Or.inl ⟨by kernel_rfl, ?_⟩) (by assumption) ?_
    rotate_left 1
    · (intro w hSw; (try dsimp only at hSw); go_simp) <;> (try with_reducible rfl)
    try simp only [Act.put, List.setIfInBounds_toArray, List.set_cons_zero, List.set_cons_succ, List.getElem_toArray, List.getElem_cons_succ, List.getElem_cons_zero]
    refine wpAnyH_take (i := 2) (v := ?_) rfl (by kernel_rfl) (by kernel_rfl) (by kernel_rfl) (fun _ _ _ h => h) (Or.inl ⟨by kernel_rfl, ?_⟩) (by assumption) ?_
    rotate_left 1
    · (intro w hSw; (try dsimp only at hSw); go_simp) <;> (try with_reducible rfl)
    try simp only [Act.put, List.setIfInBounds_toArray, List.set_cons_zero, List.set_cons_succ, List.getElem_toArray, List.getElem_cons_succ, List.getElem_cons_zero]
    refine wpAnyH_ready (rs := [1]) (by kernel_rfl) (by simp) ?_
    refine AllReadyH.cons rfl (fun K hK => ?_) AllReadyH.nil
    go_simp
    refine (whOf k _ h1 h2).mono ?_
    rintro e w1 ⟨x, u1, rfl, ⟨A1, c1, rfl, s1, hc1⟩, ok1, z1, l1, b1⟩
    have b1 := Below.trans (Below.drew (Below.refl _ _)) b1
    have k1 := ST.out _ b1
    have Z1 := Lib.hid z1
    have WP := HWr.out x A1 c1 w1 (by first | exact trivial | exact HRB.out) s1 hc1 (by omega)
    rw [Z1.out] at WP
    have WP := Lib.hid WP
    clear z1 ok1 s1 hc1
    go_wp2_with fail
    refine hK.out _ _ ?_ (fun hHeld => ?_)
    · (try dsimp only); exact k1.1
    clear hK K
    try simp only [Act.put, List.setIfInBounds_toArray, List.set_cons_zero, List.set_cons_succ, List.getElem_toArray, List.getElem_cons_succ, List.getElem_cons_zero]
    refine wpAnyH_ready (rs := [3]) (by kernel_rfl) (by simp) ?_
    refine AllReadyH.cons rfl (fun K hK => ?_) AllReadyH.nil
    go_simp
    refine (WP.out).mono ?_
    intro e w2 hq
    obtain ⟨s, k1', k2, k3, b2⟩ := WU.out _ _ _ _ hq
    clear hq
    have b2 := b1.trans (Below.mono b2 b1.size)
    have kk2 := ST.out _ b2
    have bW2 := kk2.2
    rcases k3 with ⟨k4, rfl⟩ | ⟨k4, k5, A3, n3, c3, rfl, k6, k7⟩
    · have FF := Lib.hid (WQ.out _ w2 (WM.out s w2 k1' k2 k4 bW2) (by first | exact trivial | rfl))
      clear k1' k2 k4
      go_wp2_with fail
      refine hK.out _ _ ?_ (fun hHeld => ?_)
      · (try dsimp only); exact kk2.1
      clear hK K
      try simp only [Act.put, List.setIfInBounds_toArray, List.set_cons_zero, List.set_cons_succ, List.getElem_toArray, List.getElem_cons_succ, List.getElem_cons_zero]
      refine wpAnyH_take (i := 4) (v := ?_) rfl (by kernel_rfl) (by kernel_rfl) (by kernel_rfl) (fun _ _ _ h => h) (Or.inl ⟨by kernel_rfl, ?_⟩) (by assumption) ?_
      rotate_left 1
      · (intro w hSw; (try dsimp only at hSw); go_simp) <;> (try with_reducible rfl)
      try simp only [Act.put, List.setIfInBounds_toArray, List.set_cons_zero, List.set_cons_succ, List.getElem_toArray, List.getElem_cons_succ, List.getElem_cons_zero]
      refine wpAnyH_take (i := 5) (v := ?_) rfl (by kernel_rfl) (by kernel_rfl) (by kernel_rfl) (fun _ _ _ h => h) (Or.inl ⟨by kernel_rfl, ?_⟩) (by assumption) ?_
      rotate_left 1
      · (intro w hSw; (try dsimp only at hSw); go_simp) <;> (try with_reducible rfl)
      try simp only [Act.put, List.setIfInBounds_toArray, List.set_cons_zero, List.set_cons_succ, List.getElem_toArray, List.getElem_cons_succ, List.getElem_cons_zero]
      refine wpAnyH_take (i := 6) (v := ?_) rfl (by kernel_rfl) (by kernel_rfl) (by kernel_rfl) (fun _ _ _ h => h) (Or.inl ⟨by kernel_rfl, ?_⟩) (by assumption) ?_
      rotate_left 1
      · (intro w hSw; (try dsimp only at hSw); go_simp) <;> (try with_reducible rfl)
      try simp only [Act.put, List.setIfInBounds_toArray, List.set_cons_zero, List.set_cons_succ, List.getElem_toArray, List.getElem_cons_succ, List.getElem_cons_zero]
      refine wpAnyH_take (i := 7) (v := ?_) rfl (by kernel_rfl) (by kernel_rfl) (by kernel_rfl) (fun _ _ _ h => h) (Or.inl ⟨by kernel_rfl, ?_⟩) (by assumption) ?_
      rotate_left 1
      · (intro w hSw; (try dsimp only at hSw); go_simp) <;> (try with_reducible rfl)
      try simp only [Act.put, List.setIfInBounds_toArray, List.set_cons_zero, List.set_cons_succ, List.getElem_toArray, List.getElem_cons_succ, List.getElem_cons_zero]
      refine wpAnyH_done (by kernel_rfl) ?_ _
      go_wp2
      go_ret2
      exact FF.out
    · have FF := Lib.hid (WQ.out _ w2 (WN.out s w2 A3 n3 c3 k1' k2 k4 k5 k6 k7 bW2) (by first | exact trivial | rfl))
      clear k1' k2 k4 k5 k6 k7
      go_wp2_with fail
      refine hK.out _ _ ?_ (fun hHeld => ?_)
      · (try dsimp only); exact kk2.1
      clear hK K
      try simp only [Act.put, List.setIfInBounds_toArray, List.set_cons_zero, List.set_cons_succ, List.getElem_toArray, List.getElem_cons_succ, List.getElem_cons_zero]
      refine wpAnyH_take (i := 4) (v := ?_) rfl (by kernel_rfl) (by kernel_rfl) (by kernel_rfl) (fun _ _ _ h => h) (Or.inl ⟨by kernel_rfl, ?_⟩) (by assumption) ?_
      rotate_left 1
      · (intro w hSw; (try dsimp only at hSw); go_simp) <;> (try with_reducible rfl)
      try simp only [Act.put, List.setIfInBounds_toArray, List.set_cons_zero, List.set_cons_succ, List.getElem_toArray, List.getElem_cons_succ, List.getElem_cons_zero]
      refine wpAnyH_take (i := 5) (v := ?_) rfl (by kernel_rfl) (by kernel_rfl) (by kernel_rfl) (fun _ _ _ h => h) (Or.inl ⟨by kernel_rfl, ?_⟩) (by assumption) ?_
      rotate_left 1
      · (intro w hSw; (try dsimp only at hSw); go_simp) <;> (try with_reducible rfl)
      try simp only [Act.put, List.setIfInBounds_toArray, List.set_cons_zero, List.set_cons_succ, List.getElem_toArray, List.getElem_cons_succ, List.getElem_cons_zero]
      refine wpAnyH_take (i := 6) (v := ?_) rfl (by kernel_rfl) (by kernel_rfl) (by kernel_rfl) (fun _ _ _ h => h) (Or.inl ⟨by kernel_rfl, ?_⟩) (by assumption) ?_
      rotate_left 1
      · (intro w hSw; (try dsimp only at hSw); go_simp) <;> (try with_reducible rfl)
      try simp only [Act.put, List.setIfInBounds_toArray, List.set_cons_zero, List.set_cons_succ, List.getElem_toArray, List.getElem_cons_succ, List.getElem_cons_zero]
      refine wpAnyH_take (i := 7) (v := ?_) rfl (by kernel_rfl) (by kernel_rfl) (by kernel_rfl) (fun _ _ _ h => h) (Or.inl ⟨by kernel_rfl, ?_⟩) (by assumption) ?_
      rotate_left 1
      · (intro w hSw; (try dsimp only at hSw); go_simp) <;> (try with_reducible rfl)
      try simp only [Act.put, List.setIfInBounds_toArray, List.set_cons_zero, List.set_cons_succ, List.getElem_toArray, List.getElem_cons_succ, List.getElem_cons_zero]
      refine wpAnyH_done (by kernel_rfl) ?_ _
      go_wp2
      go_ret2
      exact FF.out

/-! ### Zd -/
theorem contB_facts {z : Int} {s : Nm} {B : List UInt8} {M : Nat} (hs : s.ok) (hz : s.z = if z < 0 then -1 - z else z) (hM : M = bitsL s.size / 8 + 1) (hB : B = contB (decide (z < 0)) s.size) (hl : B.length = M) :
    parZ B = z ∧ idleL B = false ∧ B ≠ [] := by
  have hp : s.z = (val s.size : Int) := by
    have hn := Nm.neg_iff hs
    cases hb : s.below
    · unfold Nm.z; rw [hb]; simp
    · have := hn.1 hb; rw [hz] at this; split at this <;> omega
  rw [hp] at hz
  have hv := contB_val hs.1
  have he := con_enough s.size
  have hle := fun m h1 h2 => con_least hs.1 (m := m) h1 h2
  rw [← hM] at hv he hle
  have hne : B ≠ [] := by intro e; rw [e] at hl; simp at hl; omega
  have hh := head_lt hne
  have hf := val_map_flip B
  rw [hl] at hh hf
  have hpw : 256 ^ M = 256 * 256 ^ (M - 1) := by conv => lhs; rw [show M = (M - 1) + 1 by omega, pow_step, Nat.mul_comm]
  have CS : (¬ z < 0 ∧ val B = val s.size ∧ (val s.size : Int) = z) ∨ (z < 0 ∧ val B + val s.size + 1 = 256 ^ M ∧ (val s.size : Int) = -1 - z) := by
    by_cases h : z < 0
    · right
      rw [decide_eq_true h] at hB
      rw [if_pos h] at hz
      exact ⟨h, by rw [hB]; exact hv.2, hz⟩
    · left
      rw [decide_eq_false h] at hB
      rw [if_neg h] at hz
      exact ⟨h, by rw [hB]; exact hv.1, hz⟩
  refine ⟨?_, ?_, hne⟩
  · unfold parZ
    rcases CS with ⟨h, e1, e2⟩ | ⟨h, e1, e2⟩
    · rw [if_pos (hh.2 (by omega))]; omega
    · have h128 : ¬ nth B 0 < 128 := fun h' => by have := hh.1 h'; omega
      rw [if_neg h128]; omega
  · rcases B with _ | ⟨X, _ | ⟨Y, r⟩⟩
    · exact absurd rfl hne
    · rfl
    · have hX := UInt8.toNat_lt X
      have hY := UInt8.toNat_lt Y
      have hR := val_lt r
      have hV : val (X :: Y :: r) = X.toNat * (256 ^ r.length * 256) + (Y.toNat * 256 ^ r.length + val r) := by rw [val_cons, val_cons, List.length_cons, pow_step]
      have hlen : r.length + 2 = M := hl
      have hle2 := hle (r.length + 1) (by omega) (by omega)
      have e1' : M - 1 = r.length + 1 := by omega
      rw [e1', pow_step] at hpw he
      have e2' : r.length + 1 - 1 = r.length := by omega
      rw [e2'] at hle2
      have k1 := val_le_two hV hR
      have k2 := val_ge_two hV hR hX hY
      have hi : idleL (X :: Y :: r) = ((X.toNat == 0 && decide (Y.toNat < 128)) || (X.toNat == 255 && decide (128 ≤ Y.toNat))) := rfl
      rw [hi]
      rw [Bool.eq_false_iff]
      intro h
      simp only [Bool.or_eq_true, Bool.and_eq_true, beq_iff_eq, decide_eq_true_eq] at h
      generalize 256 ^ r.length = Pw at *
      rcases h with h | h
      · have h3 := k1.2 h
        rcases CS with ⟨_, e1, _⟩ | ⟨_, e1, _⟩ <;> omega
      · have h3 := k2.2 h
        rcases CS with ⟨_, e1, _⟩ | ⟨_, e1, _⟩ <;> omega
theorem contB_parE {z : Int} {s : Nm} {B : List UInt8} {M : Nat} (hs : s.ok) (hz : s.z = if z < 0 then -1 - z else z) (hM : M = bitsL s.size / 8 + 1) (hB : B = contB (decide (z < 0)) s.size) (hl : B.length = M) (h64 : ¬ 64 < M) :
    parE B = 0 := by
  obtain ⟨_, h2, h3⟩ := contB_facts hs hz hM hB hl
  unfold parE
  rw [if_neg h3, if_neg (by rw [hl]; exact h64), h2]
  rfl
/-- An int has few bits. -/
theorem int_short {z : Int} {s : Nm} (hs : s.ok) (hz : s.z = if z < 0 then -1 - z else z) (h1 : -9223372036854775808 ≤ z) (h2 : z ≤ 9223372036854775807) : ¬ 64 < bitsL s.size / 8 + 1 := by
  have hp : s.z = (val s.size : Int) := by
    have hn := Nm.neg_iff hs
    cases hb : s.below
    · unfold Nm.z; rw [hb]; simp
    · have := hn.1 hb; rw [hz] at this; split at this <;> omega
  rw [hp] at hz
  have hv : val s.size < 2 ^ 63 := by
    have : (2 : Nat) ^ 63 = 9223372036854775808 := rfl
    split at hz <;> omega
  by_cases h0 : s.size = []
  · rw [h0]; simp [bitsL]
  · have hg := bits_ge hs.1 h0
    have : bitsL s.size - 1 < 63 := (Nat.pow_lt_pow_iff_right (by decide : 1 < 2)).1 (Nat.lt_of_le_of_lt hg hv)
    omega
theorem open_wrap1 (l : List UInt8) (t : Tg) (h : t.right) (hl : l.length ≤ 16777216) : rOpen (wrapB t l) 0 t = (l, (wrapB t l).length, 0) := by
  have := rOpen_wrapB [] [] l t h hl
  simpa using this

/-! ### LwE -/
theorem tgW_right (n : Int) : (tgW n).rightB = (decide (0 ≤ n) && decide (n < 2097152)) := by
  unfold tgW Tg.rightB
  rfl
theorem wrapB_len (t : Tg) (l : List UInt8) : (wrapB t l).length ≤ l.length + 9 := by
  have h1 := tagB_len t
  have h2 := lenB_len l.length
  simp only [wrapB, List.length_append]
  omega
theorem tg2_right : (tgW 2).right := (Tg.rightB_iff _).1 (by decide)
/-- What writing gives, an error or not. -/
theorem WrQ.all {z : Int} {t : Tg} {w w' : World} {e : Ending} (h : WrQ z t w e w') :
    ∃ s B A m c q, Nm.ok s ∧ s.z = (if z < 0 then -1 - z else z) ∧ B = contB (decide (z < 0)) s.size ∧ e = .returned (.tuple #[.slice A m c, .int .i64 q]) ∧ m ≤ c ∧
      ((64 < bitsL s.size / 8 + 1 ∧ q = 2 ∧ m = 0) ∨ (¬ 64 < bitsL s.size / 8 + 1 ∧ q = 0 ∧ B.length ≤ 64 ∧ Bs w' A m (wrapB t B))) ∧ Below w.heap.size w w' := by
  obtain ⟨s, h1, h2, h3, h4⟩ := h
  rcases h3 with ⟨k1, rfl⟩ | ⟨k1, k2, A, n, c, rfl, k3, k4⟩
  · exact ⟨s, _, none, 0, 0, 2, h1, h2, rfl, rfl, Nat.le_refl _, .inl ⟨k1, rfl, rfl⟩, h4⟩
  · exact ⟨s, _, A, n, c, 0, h1, h2, rfl, rfl, k4, .inr ⟨k1, rfl, k2, k3⟩, h4⟩
/-- What is written is read as it was. -/
theorem read_back {z : Int} {s : Nm} {B : List UInt8} {t : Tg} (hs : s.ok) (hz : s.z = if z < 0 then -1 - z else z) (hB : B = contB (decide (z < 0)) s.size) (h64 : ¬ 64 < bitsL s.size / 8 + 1) (ht : t.right) (hl : B.length ≤ 64) :
    rdE (rOpen (wrapB t B) 0 t) = 0 ∧ rdZ (rOpen (wrapB t B) 0 t) = z := by
  have hlen : B.length = bitsL s.size / 8 + 1 := by rw [hB]; exact contB_len hs.1
  rw [open_wrap1 B t ht (by omega)]
  have e1 : rdE (B, (wrapB t B).length, 0) = 0 := contB_parE hs hz rfl hB hlen h64
  exact ⟨e1, by unfold rdZ; rw [if_pos e1]; exact (contB_facts hs hz rfl hB hlen).1⟩

set_option maxHeartbeats 12800000 in
theorem lawWrites1 (x xf : Nm) (A : Option Addr) (na ca : Nat) (k num : Int) (w : World) (ht : Tab w) (hk1 : -9223372036854775808 ≤ k) (hk2 : k ≤ 9223372036854775807)
    (hX : NumV w x (.agg #[.bool x.below, .slice A na ca])) (HF : Hid (x.few = xf)) (lx : xf.size.length ≤ 200) :
    Calls Tryz.prog 4 #[.agg #[.bool x.below, .slice A na ca], .int .i64 k, .int .i64 num] w fun e w' => e = .returned (.bool true) ∧ Below w.heap.size w w' := by
  have tab0 : Hid (∀ W, Below w.heap.size w W → Tab W) := fun W hW => ht.below hW
  have kR := Blk.new2 w (.bool x.below) (.slice A na ca) 30
  have b0 := below_alloc1 w (.cells #[.bool x.below, .slice A na ca] 30)
  go_enter Tryz.func4, Tryz.ntmps4
  go_upto_region 1 with (fail)
  generalize (w.alloc (.cells #[.bool x.below, .slice A na ca] 30)) = W0 at *
  obtain ⟨r0, r1, _, _⟩ := blk2 kR
  go_wp2_with fail
  refine (lwFew x _ W0 (hX.frame b0)).mono ?_
  rintro e w1 ⟨v1, rfl, n1, b1⟩
  rw [HF.out] at n1
  obtain ⟨A1, c1, rfl, s1, hc1⟩ := n1
  have HC1 := Lib.hid hc1
  have kR1 := kR.below b1
  have bW1 := below_st3 b0 b1
  clear r0 r1 kR b0 b1 hc1
  obtain ⟨r0, r1, f0, f1⟩ := blk2 kR1
  have s2 := s1.set2 kR1 (.bool xf.below) (.slice A1 xf.size.length c1)
  have kR2 := blkPut kR1 (.bool xf.below) (.slice A1 xf.size.length c1)
  have bW2 := below_set2 bW1 bW1.size (Nat.le_refl _) (.bool xf.below) (.slice A1 xf.size.length c1)
  go_upto_region 2 with (fail)
  generalize ((w1.setCell ⟨w.heap.size, 0, none⟩ (.bool xf.below)).setCell ⟨w.heap.size, 1, none⟩ (.slice A1 xf.size.length c1)) = W2 at *
  have KA : Hid (∀ W, Below W2.heap.size W2 W → (W.cell? ⟨w.heap.size, 0, none⟩ = some (.bool xf.below) ∧ W.cell? ⟨w.heap.size, 1, none⟩ = some (.slice A1 xf.size.length c1)) ∧ NumV W xf (.agg #[.bool xf.below, .slice A1 xf.size.length c1]) ∧ Bs W A1 xf.size.length xf.size ∧ Tab W ∧ Below w.heap.size w W) :=
    fun W hW => ⟨⟨(kR2.below hW).cell 0, (kR2.below hW).cell 1⟩, ⟨A1, c1, rfl, s2.below hW, HC1.out⟩, s2.below hW, (ht.below bW2).below hW, below_st3 bW2 hW⟩
  clear r0 r1 f0 f1 kR1 bW1 s1 s2 kR2 bW2 hX ht
  obtain ⟨R, hR⟩ : ∃ R, R = w.heap.size := ⟨_, rfl⟩
  rw [← hR] at KA ⊢
  have hRe := Lib.hid hR
  have bW : Hid (∀ W, Below R w W → Below R w W) := fun W h => h
  have bWo : Hid (∀ W, Below R w W → Below w.heap.size w W) := fun W h => by rw [← hRe.out]; exact h
  clear hR
  obtain ⟨⟨r0, r1⟩, nx2, _⟩ := KA.out _ (Below.refl _ _)
  go_wp2_with fail
  refine (lwTo xf _ _ nx2).mono ?_
  rintro e w7 ⟨v7, rfl, ⟨A7, c7, rfl, s7, hc7⟩, b7⟩
  clear r0 r1 nx2
  go_wp2_with fail
  refine (whWriteT xf A7 c7 w7 s7 hc7 (by omega)).mono ?_
  intro e w8 hq
  obtain ⟨s, B, A8, m8, c8, q8, ok8, z8, hB8, rfl, hc8, cs8, b8⟩ := hq.all
  have b8 := below_st3 b7 b8
  have CS := Lib.hid cs8
  have HO8 := Lib.hid ok8
  have HZ8 := Lib.hid z8
  have HB8 := Lib.hid hB8
  clear hq b7 s7 hc7 cs8 ok8 z8 hB8
  obtain ⟨⟨r0, r1⟩, nx8, _⟩ := KA.out _ b8
  go_upto_region 3 with (fail)
  go_wp2_with fail
  refine (ref3Contents xf _ _ nx8 (by omega)).mono ?_
  rintro e w9 ⟨m9, A9, c9, B9, rfl, s9, hc9, h1, h2, hg, hbad, hv, b9⟩
  have hAG := cont_agree (x := xf.mk0) (s := s) xf.mk0_ok HO8.out (by rw [xf.mk0_z]; exact HZ8.out) h1 hg hbad s9.len hv
  rw [xf.mk0_z, ← HB8.out] at hAG
  have HAG := Lib.hid hAG
  have bT := below_st3 b8 b9
  clear r0 r1 nx8 hg hbad hv hAG h1 h2 hc9
  go_upto_region 4 with (fail)
  by_cases g64 : 64 < bitsL s.size / 8 + 1
  · obtain ⟨_, rfl, rfl⟩ : 64 < bitsL s.size / 8 + 1 ∧ q8 = 2 ∧ m8 = 0 := by
      rcases CS.out with h | h
      · exact h
      · exact absurd g64 h.1
    have q1 : (64 : Int) < (m9 : Int) := by have := HAG.out.1; omega
    clear b8 b9 s9
    rename World => WT
    go_upto_region 10 with (fail)
    obtain ⟨_, _, _, tb, bw⟩ := KA.out _ bT
    have bw := bWo.out _ bw
    have WIQ := whWriteInt k num WT hk1 hk2
    go_wp2_with fail
    refine WIQ.mono ?_
    rintro e w20 ⟨hno, hyes⟩
    have hRB := tgW_right num
    cases hrb : (tgW num).rightB with
    | false =>
      obtain ⟨rfl, b20⟩ := hno hrb
      rw [hrb] at hRB
      have tb20 := tb.below b20
      have bw20 := below_st3 bw b20
      clear hno hyes WIQ hrb tb b20
      have KN := Lib.hid (known3 w20 tb20)
      have FN : Hid (∀ w', Below w20.heap.size w20 w' → Below w.heap.size w w') := fun w' hb => below_st3 bw20 hb
      by_cases h0 : num < 0
      · have d0 : decide (num < 0) = true := decide_eq_true h0
        clear hRB
        go_wp2_with fail
        refine KN.out.mono ?_
        rintro e w21 ⟨rfl, b21⟩
        have b21 := FN.out _ b21
        go_wp2
        go_ret
        exact ⟨rfl, b21⟩
      · have d0 : decide (num < 0) = false := decide_eq_false h0
        have h1 : 2097152 ≤ num := by
          have h2 := hRB
          simp only [Bool.false_eq, Bool.and_eq_false_iff, decide_eq_false_iff_not] at h2
          omega
        have d1 : decide (2097152 ≤ num) = true := decide_eq_true h1
        clear hRB
        go_wp2_with fail
        refine KN.out.mono ?_
        rintro e w21 ⟨rfl, b21⟩
        have b21 := FN.out _ b21
        go_wp2
        go_ret
        exact ⟨rfl, b21⟩
    | true =>
      obtain ⟨s', Bk, A20, m20, c20, q20, ok20, z20, hBk, rfl, hc20, cs20, b20⟩ := (hyes hrb).all
      have hr : 0 ≤ num ∧ num < 2097152 := by rw [hrb] at hRB; simpa using hRB.symm
      have h0 : ¬ num < 0 := by omega
      have h1 : ¬ 2097152 ≤ num := by omega
      have d0 : decide (num < 0) = false := decide_eq_false h0
      have d1 : decide (2097152 ≤ num) = false := decide_eq_false h1
      have ns := int_short ok20 z20 hk1 hk2
      obtain ⟨_, rfl, hBl, s20⟩ := cs20.resolve_left (fun h => ns h.1)
      have tR : (tgW num).right := (Tg.rightB_iff _).1 hrb
      have RB := read_back ok20 z20 hBk ns tR hBl
      have HIN : InI k := ⟨hk1, hk2⟩
      have HRI : Hid (riE true (rOpen (wrapB (tgW num) Bk) 0 (tgW num)) = 0 ∧ riZ true (rOpen (wrapB (tgW num) Bk) 0 (tgW num)) = k) := by
        have e1 : riE true (rOpen (wrapB (tgW num) Bk) 0 (tgW num)) = 0 := by unfold riE; rw [if_neg (by simp), if_pos RB.1, RB.2, if_pos HIN]
        exact ⟨e1, by unfold riZ; rw [if_pos e1]; exact RB.2⟩
      have HWK : Hid ((wrapB (tgW num) Bk).length ≤ 1000) := by unfold Hid; have := wrapB_len (tgW num) Bk; omega
      have tb20 := tb.below b20
      have bw20 := below_st3 bw b20
      have HO20 := Lib.hid ok20
      have HZ20 := Lib.hid z20
      have HBK := Lib.hid hBk
      have HRBt := Lib.hid hrb
      have HBL := Lib.hid hBl
      have HTR := Lib.hid tR
      have HM20 : Hid (m20 ≤ 1000) := by unfold Hid; have h1 := s20.len; have h2 := HWK.out; omega
      clear hno hyes WIQ hrb tb b20 hRB cs20 ns RB hBk z20 ok20 hr tR hBl
      go_upto_region 13 with (fail)
      go_wp2_with fail
      refine (octNew A20 m20 c20 _ w20 s20 (by have := HM20.out; omega)).mono ?_
      rintro e w21 ⟨g4, s4, rfl, hg4, hcu, b21⟩
      have s21 := s20.below b21
      have tb21 := tb20.below b21
      have bw21 := below_st3 bw20 b21
      have RI := whReadInt g4 0 num _ w21 hcu (by have := HWK.out; omega)
      unfold RiP at RI
      rw [HRBt.out, HRI.out.1, HRI.out.2] at RI
      clear s20 tb20
      go_wp2_with fail
      refine RI.mono ?_
      rintro e w22 ⟨rfl, hc22, o22⟩
      have bw22 := Only.below o22 bw21 (show w.heap.size ≤ g4 by have := bw20.size; omega) bw21.size
      have s22 := s21.only o22 hcu.noByte
      have tb22 := tab0.out _ bw22
      clear RI s21 tb21 hcu bw21 bw20 hc22 o22 b21
      have KN := Lib.hid (known3 w22 tb22)
      have kk : (k == k) = true := by simp
      go_upto_region 14 with (fail)
      go_wp2_with fail
      refine KN.out.mono ?_
      rintro e w23 ⟨rfl, b23⟩
      have s23 := s22.below b23
      have bw23 := below_st3 bw22 b23
      clear KN s22 tb22 bw22 b23
      have RO : Hid (∀ W, Calls Tryz.prog 8 #[.int .i64 num] W fun e w' => e = .returned (tgW num).v ∧ Below W.heap.size W w') := fun W => refOf num W
      go_wp2_with fail
      refine (RO.out w23).mono ?_
      rintro e w24 ⟨rfl, b24⟩
      have s24 := s23.below b24
      have bw24 := below_st3 bw23 b24
      clear RO s23 bw23 b24
      go_wp2_with fail
      refine (ref3Of k w24 hk1 hk2).mono ?_
      rintro e w25 ⟨y5, u5, rfl, n5, z5, l5, b25⟩
      have s25 := s24.below b25
      have bw25 := below_st3 bw24 b25
      have Z5 := Lib.hid z5
      clear s24 bw24 b25 z5
      go_wp2_with fail
      refine (ref3Contents y5 _ w25 n5 (by omega)).mono ?_
      rintro e w26 ⟨m26, A26, c26, B26, rfl, s26, hc26, g1, g2, hg, hbad, hv, b26⟩
      have hAG := cont_agree (x := y5.mk0) (s := s') y5.mk0_ok HO20.out (by rw [y5.mk0_z, Z5.out]; exact HZ20.out) g1 hg hbad s26.len hv
      rw [y5.mk0_z, Z5.out, ← HBK.out] at hAG
      obtain ⟨hm26, rfl⟩ := hAG
      have s25 := s25.below b26
      have bw26 := below_st3 bw25 b26
      have RW := Lib.hid (refWrap (tgW num) A26 m26 c26 _ w26 HTR.out s26 (by have h1 := s26.len; have h2 := HBL.out; omega))
      clear bw25 b26 hg hbad hv g1 g2 hm26 n5
      go_wp2_with fail
      refine RW.out.mono ?_
      rintro e w27 ⟨A27, n27, c27, rfl, o27, b27⟩
      have s27 := o27.bs.1
      have s25 := s25.below b27
      have bw27 := below_st3 bw26 b27
      have SS := refSame A20 A27 m20 n27 c20 c27 _ _ w27 s25 s27 (by have := HM20.out; omega) (by have h1 := s27.len; have h2 := HWK.out; omega)
      rw [decide_eq_true rfl] at SS
      have SS := Lib.hid SS
      clear RW o27 bw26 b27 s25 s27 s26
      go_wp2_with fail
      refine SS.out.mono ?_
      rintro e w28 ⟨rfl, q28⟩
      have bw28 := below_st3 bw27 q28.below
      go_wp2
      go_ret
      exact ⟨rfl, bw28⟩
  · obtain ⟨_, rfl, hBl, s8⟩ : ¬ 64 < bitsL s.size / 8 + 1 ∧ q8 = 0 ∧ B.length ≤ 64 ∧ Bs w8 A8 m8 (wrapB (tgW 2) B) := by
      rcases CS.out with h | h
      · exact absurd h.1 g64
      · exact h
    have q1 : ¬ (64 : Int) < (m9 : Int) := by have := HAG.out.1; omega
    have q2 : (m9 : Int) ≤ 64 := by omega
    have hBB : B9 = B := HAG.out.2
    have HRB2 : Hid (rdE (rOpen (wrapB (tgW 2) B) 0 (tgW 2)) = 0 ∧ rdZ (rOpen (wrapB (tgW 2) B) 0 (tgW 2)) = xf.z) := read_back HO8.out HZ8.out HB8.out g64 tg2_right hBl
    subst hBB
    have HWL : Hid ((wrapB (tgW 2) B9).length ≤ 1000) := by unfold Hid; have := wrapB_len (tgW 2) B9; omega
    have HM8 : Hid (m8 ≤ 1000) := by unfold Hid; have h1 := s8.len; have h2 := HWL.out; omega
    have s8 := s8.below b9
    have HBL := Lib.hid hBl
    clear b8 b9 CS hBl
    go_upto_region 7 with (fail)
    go_wp2_with fail
    refine (octNew A8 m8 c8 _ w9 s8 (by have := HM8.out; omega)).mono ?_
    rintro e w10 ⟨g3, s3, rfl, hg3, hcu, b10⟩
    have hw2 : W2.heap.size ≤ g3 := by have := hg3; have := bT.size; omega
    have s8 := s8.below b10
    have s9 := s9.below b10
    have bT := below_st3 bT b10
    go_wp2_with fail
    refine (whReadT g3 0 _ w10 hcu (by have := HWL.out; omega)).mono ?_
    rintro e w11 ⟨o11, _, y, ⟨AY, cY, rfl, sY, hcY⟩, okY, zY, lY⟩
    rw [HRB2.out.1]
    have HYZ : Hid (y.z = xf.z) := by unfold Hid; rw [zY, HRB2.out.2]
    have s8 := s8.only o11 hcu.noByte
    have s9 := s9.only o11 hcu.noByte
    have bT := Only.below o11 bT hw2 bT.size
    have HCY := Lib.hid hcY
    clear hcu b10 o11 okY zY hcY hg3 hw2
    have bx := below_alloc1 w11 (.cells #[.bool y.below, .slice AY y.size.length cY] 26)
    have kY := Blk.new2 w11 (.bool y.below) (.slice AY y.size.length cY) 26
    have sY := sY.below bx
    have s8 := s8.below bx
    have s9 := s9.below bx
    have bT := below_st3 bT bx
    clear bx
    go_upto_region 8 with (fail)
    generalize (w11.alloc (Obj.cells #[.bool y.below, .slice AY y.size.length cY] 26)) = W11 at *
    generalize w11.heap.size = Y at *
    have RO2 : Hid (∀ W, Calls Tryz.prog 8 #[.int .i64 2] W fun e w' => e = .returned (tgW 2).v ∧ Below W.heap.size W w') := fun W => refOf 2 W
    have RW : Hid (∀ W, Bs W A9 m9 B9 → Calls Tryz.prog 20 #[(tgW 2).v, .slice A9 m9 c9] W (NewBs W (wrapB (tgW 2) B9))) := fun W hW => refWrap (tgW 2) A9 m9 c9 B9 W tg2_right hW (by have h1 := hW.len; have h2 := HBL.out; omega)
    have K8 : Hid (∀ W, Below W11.heap.size W11 W → (W.cell? ⟨R, 0, none⟩ = some (.bool xf.below) ∧ W.cell? ⟨R, 1, none⟩ = some (.slice A1 xf.size.length c1) ∧ W.cell? ⟨Y, 0, none⟩ = some (.bool y.below) ∧ W.cell? ⟨Y, 1, none⟩ = some (.slice AY y.size.length cY)) ∧ NumV W xf (.agg #[.bool xf.below, .slice A1 xf.size.length c1]) ∧ NumV W y (.agg #[.bool y.below, .slice AY y.size.length cY]) ∧ Bs W A8 m8 (wrapB (tgW 2) B9) ∧ Bs W A9 m9 B9 ∧ Below W2.heap.size W2 W) := by
      intro W hW
      obtain ⟨⟨r0, r1⟩, nx, _⟩ := KA.out W (below_st3 bT hW)
      exact ⟨⟨r0, r1, (kY.below hW).cell 0, (kY.below hW).cell 1⟩, nx, ⟨AY, cY, rfl, sY.below hW, HCY.out⟩, s8.below hW, s9.below hW, below_st3 bT hW⟩
    clear kY sY s8 s9 bT
    go_cut [62] from 42 (fun v62 wc => v62 = .bool false ∧ Below W11.heap.size W11 wc)
    case first =>
      refine wp_region_held_drew (S := fun w' => w'.cell? ⟨R, 0, none⟩ = some (.bool xf.below) ∧ w'.cell? ⟨R, 1, none⟩ = some (.slice A1 xf.size.length c1) ∧ w'.cell? ⟨Y, 0, none⟩ = some (.bool y.below) ∧ w'.cell? ⟨Y, 1, none⟩ = some (.slice AY y.size.length cY)) (by kernel_rfl) ?_ (fun hHeld => ?_)
      · (try dsimp only); exact (K8.out _ (Below.drew (Below.refl _ _))).1
      refine wpAnyH_take (i := 0) (v := ?_) rfl (by kernel_rfl) (by kernel_rfl) (by kernel_rfl) (fun _ _ _ h => h) (Or.inl ⟨by kernel_rfl, ?_⟩) (by assumption) ?_
      rotate_left 1
      · (intro w hSw; (try dsimp only at hSw); go_simp) <;> (try with_reducible rfl)
      try simp only [Act.put, List.setIfInBounds_toArray, List.set_cons_zero, List.set_cons_succ, List.getElem_toArray, List.getElem_cons_succ, List.getElem_cons_zero]
      refine wpAnyH_take (i := 1) (v := ?_) rfl (by kernel_rfl) (by kernel_rfl) (by kernel_rfl) (fun _ _ _ h => h) (Or.inl ⟨by kernel_rfl, ?_⟩) (by assumption) ?_
      rotate_left 1
      · (intro w hSw; (try dsimp only at hSw); go_simp) <;> (try with_reducible rfl)
      try simp only [Act.put, List.setIfInBounds_toArray, List.set_cons_zero, List.set_cons_succ, List.getElem_toArray, List.getElem_cons_succ, List.getElem_cons_zero]
      refine wpAnyH_take (i := 2) (v := ?_) rfl (by kernel_rfl) (by kernel_rfl) (by kernel_rfl) (fun _ _ _ h => h) (Or.inl ⟨by kernel_rfl, ?_⟩) (by assumption) ?_
      rotate_left 1
      · (intro w hSw; (try dsimp only at hSw); go_simp) <;> (try with_reducible rfl)
      try simp only [Act.put, List.setIfInBounds_toArray, List.set_cons_zero, List.set_cons_succ, List.getElem_toArray, List.getElem_cons_succ, List.getElem_cons_zero]
      refine wpAnyH_take (i := 3) (v := ?_) rfl (by kernel_rfl) (by kernel_rfl) (by kernel_rfl) (fun _ _ _ h => h) (Or.inl ⟨by kernel_rfl, ?_⟩) (by assumption) ?_
      rotate_left 1
      · (intro w hSw; (try dsimp only at hSw); go_simp) <;> (try with_reducible rfl)
      try simp only [Act.put, List.setIfInBounds_toArray, List.set_cons_zero, List.set_cons_succ, List.getElem_toArray, List.getElem_cons_succ, List.getElem_cons_zero]
      refine wpAnyH_take (i := 5) (v := ?_) rfl (by kernel_rfl) (by kernel_rfl) (by kernel_rfl) (fun _ _ _ h => h) (Or.inl ⟨by kernel_rfl, ?_⟩) (by assumption) ?_
      rotate_left 1
      · (intro w hSw; (try dsimp only at hSw); go_simp) <;> (try with_reducible rfl)
      try simp only [Act.put, List.setIfInBounds_toArray, List.set_cons_zero, List.set_cons_succ, List.getElem_toArray, List.getElem_cons_succ, List.getElem_cons_zero]
      refine wpAnyH_ready (rs := [4]) (by kernel_rfl) (by simp) ?_
      refine AllReadyH.cons rfl (fun K hK => ?_) AllReadyH.nil
      go_simp
      refine (RO2.out _).mono ?_
      rintro e ww0 ⟨rfl, bb0⟩
      have bb00 := bb0
      have bb0 := Below.trans (Below.drew (Below.refl _ _)) bb0
      have kk0 := K8.out _ bb0
      go_wp2_with fail
      refine hK.out _ _ ?_ (fun hHeld => ?_)
      · (try dsimp only); exact kk0.1
      clear hK K
      try simp only [Act.put, List.setIfInBounds_toArray, List.set_cons_zero, List.set_cons_succ, List.getElem_toArray, List.getElem_cons_succ, List.getElem_cons_zero]
      refine wpAnyH_ready (rs := [6]) (by kernel_rfl) (by simp) ?_
      refine AllReadyH.cons rfl (fun K hK => ?_) AllReadyH.nil
      go_simp
      refine (RW.out _ kk0.2.2.2.2.1).mono ?_
      rintro e ww1 ⟨A20, n20, c20, rfl, o20, bb1⟩
      have bb10 := bb1
      have bb1 := bb0.trans (Below.mono bb1 bb0.size)
      have kk1 := K8.out _ bb1
      have s20 := o20.bs.1
      go_wp2_with fail
      refine hK.out _ _ ?_ (fun hHeld => ?_)
      · (try dsimp only); exact kk1.1
      clear hK K
      try simp only [Act.put, List.setIfInBounds_toArray, List.set_cons_zero, List.set_cons_succ, List.getElem_toArray, List.getElem_cons_succ, List.getElem_cons_zero]
      refine wpAnyH_ready (rs := [7]) (by kernel_rfl) (by simp) ?_
      refine AllReadyH.cons rfl (fun K hK => ?_) AllReadyH.nil
      go_simp
      refine (refSame A8 A20 m8 n20 c8 c20 (wrapB (tgW 2) B9) (wrapB (tgW 2) B9) _ kk1.2.2.2.1 s20 (by have := HM8.out; omega) (by have h1 := s20.len; have h2 := HWL.out; omega)).mono ?_
      rw [decide_eq_true (show wrapB (tgW 2) B9 = wrapB (tgW 2) B9 from rfl)]
      rintro e ww2 ⟨rfl, bb2⟩
      have bb2 := Qt.below (B := ww1.heap.size) bb2
      have bb20 := bb2
      have bb2 := bb1.trans (Below.mono bb2 bb1.size)
      have kk2 := K8.out _ bb2
      go_wp2_with fail
      refine hK.out _ _ ?_ (fun hHeld => ?_)
      · (try dsimp only); exact kk2.1
      clear hK K
      try simp only [Act.put, List.setIfInBounds_toArray, List.set_cons_zero, List.set_cons_succ, List.getElem_toArray, List.getElem_cons_succ, List.getElem_cons_zero]
      refine wpAnyH_take (i := 8) (v := ?_) rfl (by kernel_rfl) (by kernel_rfl) (by kernel_rfl) (fun _ _ _ h => h) (Or.inl ⟨by kernel_rfl, ?_⟩) (by assumption) ?_
      rotate_left 1
      · (intro w hSw; (try dsimp only at hSw); go_simp) <;> (try with_reducible rfl)
      try simp only [Act.put, List.setIfInBounds_toArray, List.set_cons_zero, List.set_cons_succ, List.getElem_toArray, List.getElem_cons_succ, List.getElem_cons_zero]
      refine wpAnyH_take (i := 9) (v := ?_) rfl (by kernel_rfl) (by kernel_rfl) (by kernel_rfl) (fun _ _ _ h => h) (Or.inl ⟨by kernel_rfl, ?_⟩) (by assumption) ?_
      rotate_left 1
      · (intro w hSw; (try dsimp only at hSw); go_simp) <;> (try with_reducible rfl)
      try simp only [Act.put, List.setIfInBounds_toArray, List.set_cons_zero, List.set_cons_succ, List.getElem_toArray, List.getElem_cons_succ, List.getElem_cons_zero]
      refine wpAnyH_take (i := 10) (v := ?_) rfl (by kernel_rfl) (by kernel_rfl) (by kernel_rfl) (fun _ _ _ h => h) (Or.inl ⟨by kernel_rfl, ?_⟩) (by assumption) ?_
      rotate_left 1
      · (intro w hSw; (try dsimp only at hSw); go_simp) <;> (try with_reducible rfl)
      try simp only [Act.put, List.setIfInBounds_toArray, List.set_cons_zero, List.set_cons_succ, List.getElem_toArray, List.getElem_cons_succ, List.getElem_cons_zero]
      refine wpAnyH_take (i := 11) (v := ?_) rfl (by kernel_rfl) (by kernel_rfl) (by kernel_rfl) (fun _ _ _ h => h) (Or.inl ⟨by kernel_rfl, ?_⟩) (by assumption) ?_
      rotate_left 1
      · (intro w hSw; (try dsimp only at hSw); go_simp) <;> (try with_reducible rfl)
      try simp only [Act.put, List.setIfInBounds_toArray, List.set_cons_zero, List.set_cons_succ, List.getElem_toArray, List.getElem_cons_succ, List.getElem_cons_zero]
      refine wpAnyH_take (i := 12) (v := ?_) rfl (by kernel_rfl) (by kernel_rfl) (by kernel_rfl) (fun _ _ _ h => h) (Or.inl ⟨by kernel_rfl, ?_⟩) (by assumption) ?_
      rotate_left 1
      · (intro w hSw; (try dsimp only at hSw); go_simp) <;> (try with_reducible rfl)
      try simp only [Act.put, List.setIfInBounds_toArray, List.set_cons_zero, List.set_cons_succ, List.getElem_toArray, List.getElem_cons_succ, List.getElem_cons_zero]
      refine wpAnyH_take (i := 13) (v := ?_) rfl (by kernel_rfl) (by kernel_rfl) (by kernel_rfl) (fun _ _ _ h => h) (Or.inl ⟨by kernel_rfl, ?_⟩) (by assumption) ?_
      rotate_left 1
      · (intro w hSw; (try dsimp only at hSw); go_simp) <;> (try with_reducible rfl)
      try simp only [Act.put, List.setIfInBounds_toArray, List.set_cons_zero, List.set_cons_succ, List.getElem_toArray, List.getElem_cons_succ, List.getElem_cons_zero]
      refine wpAnyH_take (i := 14) (v := ?_) rfl (by kernel_rfl) (by kernel_rfl) (by kernel_rfl) (fun _ _ _ h => h) (Or.inl ⟨by kernel_rfl, ?_⟩) (by assumption) ?_
      rotate_left 1
      · (intro w hSw; (try dsimp only at hSw); go_simp) <;> (try with_reducible rfl)
      try simp only [Act.put, List.setIfInBounds_toArray, List.set_cons_zero, List.set_cons_succ, List.getElem_toArray, List.getElem_cons_succ, List.getElem_cons_zero]
      refine wpAnyH_take (i := 15) (v := ?_) rfl (by kernel_rfl) (by kernel_rfl) (by kernel_rfl) (fun _ _ _ h => h) (Or.inl ⟨by kernel_rfl, ?_⟩) (by assumption) ?_
      rotate_left 1
      · (intro w hSw; (try dsimp only at hSw); go_simp) <;> (try with_reducible rfl)
      try simp only [Act.put, List.setIfInBounds_toArray, List.set_cons_zero, List.set_cons_succ, List.getElem_toArray, List.getElem_cons_succ, List.getElem_cons_zero]
      refine wpAnyH_take (i := 17) (v := ?_) rfl (by kernel_rfl) (by kernel_rfl) (by kernel_rfl) (fun _ _ _ h => h) (Or.inl ⟨by kernel_rfl, ?_⟩) (by assumption) ?_
      rotate_left 1
      · (intro w hSw; (try dsimp only at hSw); go_simp) <;> (try with_reducible rfl)
      try simp only [Act.put, List.setIfInBounds_toArray, List.set_cons_zero, List.set_cons_succ, List.getElem_toArray, List.getElem_cons_succ, List.getElem_cons_zero]
      refine wpAnyH_ready (rs := [16]) (by kernel_rfl) (by simp) ?_
      refine AllReadyH.cons rfl (fun K hK => ?_) AllReadyH.nil
      go_simp
      refine (lwOf y _ _ kk2.2.2.1).mono ?_
      rintro e ww3 ⟨u4, rfl, M4, bb3⟩
      have bb30 := bb3
      have bb3 := bb2.trans (Below.mono bb3 bb2.size)
      have kk3 := K8.out _ bb3
      go_wp2_with fail
      refine hK.out _ _ ?_ (fun hHeld => ?_)
      · (try dsimp only); exact kk3.1
      clear hK K
      try simp only [Act.put, List.setIfInBounds_toArray, List.set_cons_zero, List.set_cons_succ, List.getElem_toArray, List.getElem_cons_succ, List.getElem_cons_zero]
      refine wpAnyH_ready (rs := [18]) (by kernel_rfl) (by simp) ?_
      refine AllReadyH.cons rfl (fun K hK => ?_) AllReadyH.nil
      go_simp
      refine (ref3Same y xf _ _ _ M4 kk3.2.1 (by omega) (by omega)).mono ?_
      rw [decide_eq_true HYZ.out]
      rintro e ww4 ⟨rfl, bb4⟩
      have bb40 := bb4
      have bb4 := bb3.trans (Below.mono bb4 bb3.size)
      have kk4 := K8.out _ bb4
      go_wp2_with fail
      refine hK.out _ _ ?_ (fun hHeld => ?_)
      · (try dsimp only); exact kk4.1
      clear hK K
      try simp only [Act.put, List.setIfInBounds_toArray, List.set_cons_zero, List.set_cons_succ, List.getElem_toArray, List.getElem_cons_succ, List.getElem_cons_zero]
      refine wpAnyH_take (i := 19) (v := ?_) rfl (by kernel_rfl) (by kernel_rfl) (by kernel_rfl) (fun _ _ _ h => h) (Or.inl ⟨by kernel_rfl, ?_⟩) (by assumption) ?_
      rotate_left 1
      · (intro w hSw; (try dsimp only at hSw); go_simp) <;> (try with_reducible rfl)
      try simp only [Act.put, List.setIfInBounds_toArray, List.set_cons_zero, List.set_cons_succ, List.getElem_toArray, List.getElem_cons_succ, List.getElem_cons_zero]
      refine wpAnyH_take (i := 20) (v := ?_) rfl (by kernel_rfl) (by kernel_rfl) (by kernel_rfl) (fun _ _ _ h => h) (Or.inl ⟨by kernel_rfl, ?_⟩) (by assumption) ?_
      rotate_left 1
      · (intro w hSw; (try dsimp only at hSw); go_simp) <;> (try with_reducible rfl)
      try simp only [Act.put, List.setIfInBounds_toArray, List.set_cons_zero, List.set_cons_succ, List.getElem_toArray, List.getElem_cons_succ, List.getElem_cons_zero]
      refine wpAnyH_done (by kernel_rfl) ?_ _
      go_wp2_with fail
      go_meet
      exact ⟨rfl, bb4⟩
    case rest =>
      obtain ⟨rfl, b12⟩ := hcut
      have bT := (K8.out _ b12).2.2.2.2.2
      clear K8 b12 RO2 RW
      rename World => WT
      go_upto_region 10 with (fail)
      obtain ⟨_, _, _, tb, bw⟩ := KA.out _ bT
      have bw := bWo.out _ bw
      have WIQ := whWriteInt k num WT hk1 hk2
      go_wp2_with fail
      refine WIQ.mono ?_
      rintro e w20 ⟨hno, hyes⟩
      have hRB := tgW_right num
      cases hrb : (tgW num).rightB with
      | false =>
        obtain ⟨rfl, b20⟩ := hno hrb
        rw [hrb] at hRB
        have tb20 := tb.below b20
        have bw20 := below_st3 bw b20
        clear hno hyes WIQ hrb tb b20
        have KN := Lib.hid (known3 w20 tb20)
        have FN : Hid (∀ w', Below w20.heap.size w20 w' → Below w.heap.size w w') := fun w' hb => below_st3 bw20 hb
        by_cases h0 : num < 0
        · have d0 : decide (num < 0) = true := decide_eq_true h0
          clear hRB
          go_wp2_with fail
          refine KN.out.mono ?_
          rintro e w21 ⟨rfl, b21⟩
          have b21 := FN.out _ b21
          go_wp2
          go_ret
          exact ⟨rfl, b21⟩
        · have d0 : decide (num < 0) = false := decide_eq_false h0
          have h1 : 2097152 ≤ num := by
            have h2 := hRB
            simp only [Bool.false_eq, Bool.and_eq_false_iff, decide_eq_false_iff_not] at h2
            omega
          have d1 : decide (2097152 ≤ num) = true := decide_eq_true h1
          clear hRB
          go_wp2_with fail
          refine KN.out.mono ?_
          rintro e w21 ⟨rfl, b21⟩
          have b21 := FN.out _ b21
          go_wp2
          go_ret
          exact ⟨rfl, b21⟩
      | true =>
        obtain ⟨s', Bk, A20, m20, c20, q20, ok20, z20, hBk, rfl, hc20, cs20, b20⟩ := (hyes hrb).all
        have hr : 0 ≤ num ∧ num < 2097152 := by rw [hrb] at hRB; simpa using hRB.symm
        have h0 : ¬ num < 0 := by omega
        have h1 : ¬ 2097152 ≤ num := by omega
        have d0 : decide (num < 0) = false := decide_eq_false h0
        have d1 : decide (2097152 ≤ num) = false := decide_eq_false h1
        have ns := int_short ok20 z20 hk1 hk2
        obtain ⟨_, rfl, hBl, s20⟩ := cs20.resolve_left (fun h => ns h.1)
        have tR : (tgW num).right := (Tg.rightB_iff _).1 hrb
        have RB := read_back ok20 z20 hBk ns tR hBl
        have HIN : InI k := ⟨hk1, hk2⟩
        have HRI : Hid (riE true (rOpen (wrapB (tgW num) Bk) 0 (tgW num)) = 0 ∧ riZ true (rOpen (wrapB (tgW num) Bk) 0 (tgW num)) = k) := by
          have e1 : riE true (rOpen (wrapB (tgW num) Bk) 0 (tgW num)) = 0 := by unfold riE; rw [if_neg (by simp), if_pos RB.1, RB.2, if_pos HIN]
          exact ⟨e1, by unfold riZ; rw [if_pos e1]; exact RB.2⟩
        have HWK : Hid ((wrapB (tgW num) Bk).length ≤ 1000) := by unfold Hid; have := wrapB_len (tgW num) Bk; omega
        have tb20 := tb.below b20
        have bw20 := below_st3 bw b20
        have HO20 := Lib.hid ok20
        have HZ20 := Lib.hid z20
        have HBK := Lib.hid hBk
        have HRBt := Lib.hid hrb
        have HBL := Lib.hid hBl
        have HTR := Lib.hid tR
        have HM20 : Hid (m20 ≤ 1000) := by unfold Hid; have h1 := s20.len; have h2 := HWK.out; omega
        clear hno hyes WIQ hrb tb b20 hRB cs20 ns RB hBk z20 ok20 hr tR hBl
        go_upto_region 13 with (fail)
        go_wp2_with fail
        refine (octNew A20 m20 c20 _ w20 s20 (by have := HM20.out; omega)).mono ?_
        rintro e w21 ⟨g4, s4, rfl, hg4, hcu, b21⟩
        have s21 := s20.below b21
        have tb21 := tb20.below b21
        have bw21 := below_st3 bw20 b21
        have RI := whReadInt g4 0 num _ w21 hcu (by have := HWK.out; omega)
        unfold RiP at RI
        rw [HRBt.out, HRI.out.1, HRI.out.2] at RI
        clear s20 tb20
        go_wp2_with fail
        refine RI.mono ?_
        rintro e w22 ⟨rfl, hc22, o22⟩
        have bw22 := Only.below o22 bw21 (show w.heap.size ≤ g4 by have := bw20.size; omega) bw21.size
        have s22 := s21.only o22 hcu.noByte
        have tb22 := tab0.out _ bw22
        clear RI s21 tb21 hcu bw21 bw20 hc22 o22 b21
        have KN := Lib.hid (known3 w22 tb22)
        have kk : (k == k) = true := by simp
        go_upto_region 14 with (fail)
        go_wp2_with fail
        refine KN.out.mono ?_
        rintro e w23 ⟨rfl, b23⟩
        have s23 := s22.below b23
        have bw23 := below_st3 bw22 b23
        clear KN s22 tb22 bw22 b23
        have RO : Hid (∀ W, Calls Tryz.prog 8 #[.int .i64 num] W fun e w' => e = .returned (tgW num).v ∧ Below W.heap.size W w') := fun W => refOf num W
        go_wp2_with fail
        refine (RO.out w23).mono ?_
        rintro e w24 ⟨rfl, b24⟩
        have s24 := s23.below b24
        have bw24 := below_st3 bw23 b24
        clear RO s23 bw23 b24
        go_wp2_with fail
        refine (ref3Of k w24 hk1 hk2).mono ?_
        rintro e w25 ⟨y5, u5, rfl, n5, z5, l5, b25⟩
        have s25 := s24.below b25
        have bw25 := below_st3 bw24 b25
        have Z5 := Lib.hid z5
        clear s24 bw24 b25 z5
        go_wp2_with fail
        refine (ref3Contents y5 _ w25 n5 (by omega)).mono ?_
        rintro e w26 ⟨m26, A26, c26, B26, rfl, s26, hc26, g1, g2, hg, hbad, hv, b26⟩
        have hAG := cont_agree (x := y5.mk0) (s := s') y5.mk0_ok HO20.out (by rw [y5.mk0_z, Z5.out]; exact HZ20.out) g1 hg hbad s26.len hv
        rw [y5.mk0_z, Z5.out, ← HBK.out] at hAG
        obtain ⟨hm26, rfl⟩ := hAG
        have s25 := s25.below b26
        have bw26 := below_st3 bw25 b26
        have RW := Lib.hid (refWrap (tgW num) A26 m26 c26 _ w26 HTR.out s26 (by have h1 := s26.len; have h2 := HBL.out; omega))
        clear bw25 b26 hg hbad hv g1 g2 hm26 n5
        go_wp2_with fail
        refine RW.out.mono ?_
        rintro e w27 ⟨A27, n27, c27, rfl, o27, b27⟩
        have s27 := o27.bs.1
        have s25 := s25.below b27
        have bw27 := below_st3 bw26 b27
        have SS := refSame A20 A27 m20 n27 c20 c27 _ _ w27 s25 s27 (by have := HM20.out; omega) (by have h1 := s27.len; have h2 := HWK.out; omega)
        rw [decide_eq_true rfl] at SS
        have SS := Lib.hid SS
        clear RW o27 bw26 b27 s25 s27 s26
        go_wp2_with fail
        refine SS.out.mono ?_
        rintro e w28 ⟨rfl, q28⟩
        have bw28 := below_st3 bw27 q28.below
        go_wp2
        go_ret
        exact ⟨rfl, bw28⟩

theorem lawWrites (xb : Bool) (A : Option Addr) (na ca : Nat) (la : List UInt8) (k num : Int) (w : World) (ha : Bs w A na la) (h1 : na ≤ ca) (hk1 : -9223372036854775808 ≤ k) (hk2 : k ≤ 9223372036854775807) (ht : Tab w) :
    Calls Tryz.prog 4 #[.agg #[.bool xb, .slice A na ca], .int .i64 k, .int .i64 num] w fun e w' => e = .returned (.bool true) ∧ Below w.heap.size w w' :=
  lawWrites1 ⟨xb, la⟩ _ A na ca k num w ht hk1 hk2 (NumV.mk' xb ha h1) rfl (Nm.few_len _)
end Go.Proofs.YtbjiknfebocepaaGreatDoor
