/-
  The law WholeRules.
-/
import Derived.Test.YtbjiknfebocepaaDoorKn3
import Derived.Test.YtbjiknfebocepaaDoorFac
import Derived.Test.YtbjiknfebocepaaDoorWe
import Derived.Test.YtbjiknfebocepaaDoorWd
namespace Go.Proofs.YtbjiknfebocepaaDoor
open Go.RowKit Go.Joins
set_option linter.unusedVariables false
set_option linter.unusedSimpArgs false
set_option maxRecDepth 4000

theorem mixed : Tryd.prog.follows .mixedOrders = true := by kernel_rfl
theorem inj_of (n : Nat) (D : Nat → Nat) (h : ((List.range n).all fun i => (List.range n).all fun j => !(D i == D j) || (i == j)) = true) : ∀ i j, i < n → j < n → D i = D j → i = j := by
  intro i j hi hj e
  rw [List.all_eq_true] at h
  have h1 := h i (List.mem_range.2 hi)
  rw [List.all_eq_true] at h1
  have h2 := h1 j (List.mem_range.2 hj)
  simpa [e] using h2
theorem nin_of (n : Nat) (D : Nat → Nat) (d : Nat) (h : ((List.range n).all fun i => !(d == D i)) = true) : ∀ i, i < n → d ≠ D i := by
  intro i hi e
  rw [List.all_eq_true] at h
  have h1 := h i (List.mem_range.2 hi)
  simp [e] at h1

/-- A number in a block. -/
def NumB (w : World) (X : Nat) (x : Nm) : Prop := ∃ A c, Blk w X 30 [.bool x.below, .slice A x.size.length c] ∧ Bs w A x.size.length x.size ∧ x.size.length ≤ c
theorem NumB.below {w w' : World} {X : Nat} {x : Nm} (h : NumB w X x) (hb : Below w.heap.size w w') : NumB w' X x := by
  obtain ⟨A, c, h1, h2, h3⟩ := h
  exact ⟨A, c, h1.below hb, h2.below hb, h3⟩
/-- A pointer to a new number. -/
def PtrN (B : Nat) (v : Value) (w : World) : Prop := ∃ X, v = .pointer (some ⟨X, 0, none⟩) ∧ B ≤ X ∧ Blk w X 30 [.bool false, .slice none 0 0]
theorem PtrN.below {B : Nat} {v : Value} {w w' : World} (h : PtrN B v w) (hb : Below w.heap.size w w') : PtrN B v w' := by
  obtain ⟨X, h1, h2, h3⟩ := h
  exact ⟨X, h1, h2, h3.below hb⟩
theorem PtrN.ne {B : Nat} {v : Value} {w : World} (h : PtrN B v w) : v ≠ .pointer (some ⟨w.heap.size, 0, none⟩) := by
  obtain ⟨X, rfl, _, h3⟩ := h
  intro e
  have := h3.lt
  injection e with e; injection e with e; injection e with e
  omega
theorem Blk.cs2 {w : World} {g : Nat} {t : TypeId} {a b : Value} (h : Blk w g t [a, b]) : w.cell? ⟨g, 0, none⟩ = some a ∧ w.cell? ⟨g, 1, none⟩ = some b ∧ w.frozen? ⟨g, 0, none⟩ = false ∧ w.frozen? ⟨g, 1, none⟩ = false :=
  ⟨h.cell 0, h.cell 1, h.free 0, h.free 1⟩
/-- A number is put into a block. -/
theorem Blk.store2 {w : World} {g : Nat} {t : TypeId} {a b : Value} (h : Blk w g t [a, b]) (x y : Value) : Blk ((w.setCell ⟨g, 0, none⟩ x).setCell ⟨g, 1, none⟩ y) g t [x, y] := (h.set 0 x).set 1 y
theorem Blk.store2o {w : World} {g r : Nat} {t : TypeId} {cs : List Value} (h : Blk w g t cs) (hne : g ≠ r) (x y : Value) : Blk ((w.setCell ⟨r, 0, none⟩ x).setCell ⟨r, 1, none⟩ y) g t cs := (h.setOther hne 0 x).setOther hne 1 y


/-- Which slot each operation of the first region writes. -/
def r1D (i : Nat) : Nat := [12, 13, 14, 15, 16, 17, 18, 19, 20, 7, 8, 9].getD i 0
def r1G (i j : Nat) (u v : Value) : Prop := 9 ≤ i → 9 ≤ j → u ≠ v
/-- What is known of each. -/
def FacR (x y z : Nm) (va vb vc : Value) (B : Nat) : Nat → Value → World → Prop
  | 0, v, _ => v = va
  | 1, v, w => NumV w x v
  | 2, v, w => NumV w x v
  | 3, v, _ => v = vb
  | 4, v, w => NumV w y v
  | 5, v, w => NumV w y v
  | 6, v, _ => v = vc
  | 7, v, w => NumV w z v
  | 8, v, w => NumV w z v
  | _, v, w => PtrN B v w
theorem FacR_ne {x y z : Nm} {va vb vc : Value} {B j : Nat} {u : Value} {w : World} (h : FacR x y z va vb vc B j u w) (hj : j < 12) (h9 : 9 ≤ j) : u ≠ .pointer (some ⟨w.heap.size, 0, none⟩) := by
  have hc : j = 9 ∨ j = 10 ∨ j = 11 := by omega
  rcases hc with rfl | rfl | rfl
  · exact PtrN.ne h
  · exact PtrN.ne h
  · exact PtrN.ne h
/-- What stands behind the first region. -/
def RulC (w : World) (x y z : Nm) (v7 v8 v9 : Value) (wc : World) : Prop :=
  ∃ X Y Z, v7 = .pointer (some ⟨X, 0, none⟩) ∧ v8 = .pointer (some ⟨Y, 0, none⟩) ∧ v9 = .pointer (some ⟨Z, 0, none⟩) ∧ NumB wc X x ∧ NumB wc Y y ∧ NumB wc Z z ∧ Below w.heap.size w wc


/-- A sum, as a value. -/
def SumV (w : World) (q : Int) (v : Value) : Prop := ∃ s, NumV w s v ∧ s.z = q ∧ s.size.length ≤ 205
theorem SumV.frame {w w' : World} {q : Int} {v : Value} (h : SumV w q v) (hb : Below w.heap.size w w') : SumV w' q v := by
  obtain ⟨s, h1, h2, h3⟩ := h
  exact ⟨s, h1.frame hb, h2, h3⟩
theorem sumAdd (x y : Nm) (u v : Value) (w : World) (hx : NumV w x u) (hy : NumV w y v) (hn : x.size.length ≤ 204) (hm : y.size.length ≤ 204) :
    Calls Tryd.prog 25 #[u, v] w fun e w' => ∃ u', e = .returned u' ∧ (∃ s, NumV w' s u' ∧ s.z = x.z + y.z ∧ s.size.length ≤ max x.size.length y.size.length + 1) ∧ Below w.heap.size w w' :=
  (whAdd x y u v w hx hy (by omega) (by omega)).mono fun e w' ⟨s, u', h1, h2, h3, h4, h5, h6⟩ => ⟨u', h1, ⟨s, h2, h4, h5⟩, h6⟩
/-- A sum in a block. -/
def SumC (wc : World) (q : Int) (v : Value) (wd : World) : Prop := ∃ S s, v = .pointer (some ⟨S, 0, none⟩) ∧ NumB wd S s ∧ s.z = q ∧ s.size.length ≤ 205 ∧ Below wc.heap.size wc wd
def r2D (i : Nat) : Nat := [21, 22, 23, 24, 25, 10].getD i 0
def r3D (i : Nat) : Nat := [26, 27, 28, 29, 30, 11].getD i 0
def r2G (i j : Nat) (u v : Value) : Prop := True
def r3G (i j : Nat) (u v : Value) : Prop := True
def Fac2 (v0 v1 v3 : Value) (q2 q4 : Int) (x y : Nm) (B : Nat) : Nat → Value → World → Prop
  | 0, v, _ => v = v0
  | 1, v, _ => v = v1
  | 2, v, w => ∃ s, NumV w s v ∧ s.z = q2 ∧ s.size.length ≤ 201
  | 3, v, _ => v = v3
  | 4, v, w => SumV w q4 v
  | _, v, w => PtrN B v w
def Fac3 (v0 v1 v2 : Value) (q3 q4 : Int) (x y : Nm) (B : Nat) : Nat → Value → World → Prop
  | 0, v, _ => v = v0
  | 1, v, _ => v = v1
  | 2, v, _ => v = v2
  | 3, v, w => ∃ s, NumV w s v ∧ s.z = q3 ∧ s.size.length ≤ 201
  | 4, v, w => SumV w q4 v
  | _, v, w => PtrN B v w
theorem sum_frame {w w' : World} {q : Int} {n : Nat} {v : Value} (h : ∃ s, NumV w s v ∧ s.z = q ∧ s.size.length ≤ n) (hb : Below w.heap.size w w') : ∃ s, NumV w' s v ∧ s.z = q ∧ s.size.length ≤ n := by
  obtain ⟨s, h1, h2, h3⟩ := h
  exact ⟨s, h1.frame hb, h2, h3⟩
theorem sg_self (a : Int) : sg a a = 0 := by unfold sg; rw [if_neg (by omega), if_neg (by omega)]
theorem sg_add (a b c : Int) : sg (a + c) (b + c) = sg a b := by unfold sg; split <;> split <;> (try split) <;> (try split) <;> omega
theorem sg_turn (a b : Int) : sg b a = -(sg a b) := by unfold sg; split <;> split <;> (try split) <;> (try split) <;> omega
theorem sg_cases (a b : Int) : sg a b = -1 ∨ sg a b = 0 ∨ sg a b = 1 := by unfold sg; split <;> (try split) <;> simp


theorem below_st0 {w W W' : World} (h : Below w.heap.size w W) (k : Below W.heap.size W W') : Below w.heap.size w W' := h.trans (Below.mono k h.size)

set_option maxHeartbeats 12800000 in
theorem lawRules1 (x y z xf yf zf : Nm) (A B C : Option Addr) (na nb nc ca cb cc : Nat) (w : World) (ht : Tab w)
    (hX : NumV w x (.agg #[.bool x.below, .slice A na ca])) (hY : NumV w y (.agg #[.bool y.below, .slice B nb cb])) (hZ : NumV w z (.agg #[.bool z.below, .slice C nc cc]))
    (HF0 : Hid (x.few = xf)) (HF1 : Hid (y.few = yf)) (HF2 : Hid (z.few = zf)) (lx : xf.size.length ≤ 200) (ly : yf.size.length ≤ 200) (lz : zf.size.length ≤ 200) :
    Calls Tryd.prog 6 #[.agg #[.bool x.below, .slice A na ca], .agg #[.bool y.below, .slice B nb cb], .agg #[.bool z.below, .slice C nc cc]] w fun e w' => e = .returned (.bool true) ∧ Below w.heap.size w w' := by
  have k0 := ((Blk.new2 w (.bool x.below) (.slice A na ca) 24).below (below_alloc1 _ (.cells #[.bool y.below, .slice B nb cb] 24))).below (below_alloc1 _ (.cells #[.bool z.below, .slice C nc cc] 24))
  have k1 := (Blk.new2 (w.alloc (.cells #[.bool x.below, .slice A na ca] 24)) (.bool y.below) (.slice B nb cb) 24).below (below_alloc1 _ (.cells #[.bool z.below, .slice C nc cc] 24))
  have k2 := Blk.new2 ((w.alloc (.cells #[.bool x.below, .slice A na ca] 24)).alloc (.cells #[.bool y.below, .slice B nb cb] 24)) (.bool z.below) (.slice C nc cc) 24
  have b0 := below_st0 (below_alloc2 w (.cells #[.bool x.below, .slice A na ca] 24) (.cells #[.bool y.below, .slice B nb cb] 24)) (below_alloc1 _ (.cells #[.bool z.below, .slice C nc cc] 24))
  rw [World.size_alloc] at k1 k2
  rw [World.size_alloc] at k2
  go_enter Tryd.func6, Tryd.ntmps6
  go_upto_region 1 with (fail)
  generalize (((w.alloc (.cells #[.bool x.below, .slice A na ca] 24)).alloc (.cells #[.bool y.below, .slice B nb cb] 24)).alloc (.cells #[.bool z.below, .slice C nc cc] 24)) = W0 at *
  obtain ⟨va, hva⟩ : ∃ v : Value, v = .agg #[.bool x.below, .slice A na ca] := ⟨_, rfl⟩
  obtain ⟨vb, hvb⟩ : ∃ v : Value, v = .agg #[.bool y.below, .slice B nb cb] := ⟨_, rfl⟩
  obtain ⟨vc, hvc⟩ : ∃ v : Value, v = .agg #[.bool z.below, .slice C nc cc] := ⟨_, rfl⟩
  have NUM0 : Hid (∀ W, Below W0.heap.size W0 W → NumV W x (.agg #[.bool x.below, .slice A na ca])) := fun W hW => (hX.frame b0).frame hW
  have NUM1 : Hid (∀ W, Below W0.heap.size W0 W → NumV W y (.agg #[.bool y.below, .slice B nb cb])) := fun W hW => (hY.frame b0).frame hW
  have NUM2 : Hid (∀ W, Below W0.heap.size W0 W → NumV W z (.agg #[.bool z.below, .slice C nc cc])) := fun W hW => (hZ.frame b0).frame hW
  have CEL0 : Hid (∀ W, Below W0.heap.size W0 W → W.cell? ⟨w.heap.size, 0, none⟩ = some (.bool x.below) ∧ W.cell? ⟨w.heap.size, 1, none⟩ = some (.slice A na ca)) := fun W hW => ⟨(k0.below hW).cs2.1, (k0.below hW).cs2.2.1⟩
  have CEL1 : Hid (∀ W, Below W0.heap.size W0 W → W.cell? ⟨w.heap.size + 1, 0, none⟩ = some (.bool y.below) ∧ W.cell? ⟨w.heap.size + 1, 1, none⟩ = some (.slice B nb cb)) := fun W hW => ⟨(k1.below hW).cs2.1, (k1.below hW).cs2.2.1⟩
  have CEL2 : Hid (∀ W, Below W0.heap.size W0 W → W.cell? ⟨w.heap.size + 1 + 1, 0, none⟩ = some (.bool z.below) ∧ W.cell? ⟨w.heap.size + 1 + 1, 1, none⟩ = some (.slice C nc cc)) := fun W hW => ⟨(k2.below hW).cs2.1, (k2.below hW).cs2.2.1⟩
  clear k0 k1 k2 hX hY hZ hva hvb hvc va vb vc
  go_cut [7, 8, 9] from 10 (fun v7 v8 v9 wc => RulC w xf yf zf v7 v8 v9 wc)
  case first =>
    refine wp_name fun a0 ha0 => ?_
    have e3 : a0.tmps.getD 3 undef = .pointer (some ⟨w.heap.size, 0, none⟩) := by rw [ha0.out]; rfl
    have e4 : a0.tmps.getD 4 undef = .pointer (some ⟨w.heap.size + 1, 0, none⟩) := by rw [ha0.out]; rfl
    have e5 : a0.tmps.getD 5 undef = .pointer (some ⟨w.heap.size + 1 + 1, 0, none⟩) := by rw [ha0.out]; rfl
    have esz : a0.tmps.size = 81 := by rw [ha0.out]; rfl
    refine wp_region_facts 12 3 r1D (FacR xf yf zf (.agg #[.bool x.below, .slice A na ca]) (.agg #[.bool y.below, .slice B nb cb]) (.agg #[.bool z.below, .slice C nc cc]) W0.heap.size) r1G mixed rfl (inj_of _ _ (by kernel_rfl)) (by kernel_rfl) ?keep ?step ?fin
    case keep =>
      intro i v w1 w2 hi hF hb
      have hcase : i = 0 ∨ i = 1 ∨ i = 2 ∨ i = 3 ∨ i = 4 ∨ i = 5 ∨ i = 6 ∨ i = 7 ∨ i = 8 ∨ i = 9 ∨ i = 10 ∨ i = 11 := by omega
      rcases hcase with rfl | rfl | rfl | rfl | rfl | rfl | rfl | rfl | rfl | rfl | rfl | rfl
      · exact hF
      · exact NumV.frame hF hb
      · exact NumV.frame hF hb
      · exact hF
      · exact NumV.frame hF hb
      · exact NumV.frame hF hb
      · exact hF
      · exact NumV.frame hF hb
      · exact NumV.frame hF hb
      · exact PtrN.below hF hb
      · exact PtrN.below hF hb
      · exact PtrN.below hF hb
    case step =>
      intro i f wq hi hB hrest hdep
      have hold : ∀ d, (∀ i, i < 12 → d ≠ r1D i) → (upd a0.tmps f).getD d undef = a0.tmps.getD d undef := fun d hd => upd_old _ _ _ (hrest d hd)
      have hcase : i = 0 ∨ i = 1 ∨ i = 2 ∨ i = 3 ∨ i = 4 ∨ i = 5 ∨ i = 6 ∨ i = 7 ∨ i = 8 ∨ i = 9 ∨ i = 10 ∨ i = 11 := by omega
      rcases hcase with rfl | rfl | rfl | rfl | rfl | rfl | rfl | rfl | rfl | rfl | rfl | rfl
      · have ev3 : (upd a0.tmps f).getD 3 undef = .pointer (some ⟨w.heap.size, 0, none⟩) := (hold 3 (nin_of _ _ _ (by kernel_rfl))).trans e3
        obtain ⟨c0, c1⟩ := CEL0.out _ hB
        refine wpOp_of rfl rfl ?_
        unfold Oper.wp
        clear hdep hi
        go_simp
        exact ⟨_, (by rw [upd_set]; rfl), rfl, Below.refl _ _, fun j u hj hne hju hFj => ⟨fun h => absurd h (by omega), fun _ h => absurd h (by omega)⟩⟩
      · obtain ⟨v0, hv0, F0⟩ := hdep _ rfl ⟨0, .data⟩ (by simp) rfl (by decide)
        have hv0 : f 12 = some v0 := hv0
        obtain rfl := (show v0 = .agg #[.bool x.below, .slice A na ca] from F0)
        have ev0 := upd_get a0.tmps f 12 _ (by rw [esz]; decide) hv0
        refine wpOp_of rfl rfl ?_
        unfold Oper.wp
        clear hdep hi
        go_simp
        refine (lwFew x _ wq (NUM0.out _ hB)).mono ?_
        rintro e w1 ⟨v1, rfl, n1, b1⟩
        rw [HF0.out] at n1
        exact ⟨_, (by rw [upd_set]; rfl), n1, b1, fun j u hj hne hju hFj => ⟨fun h => absurd h (by omega), fun _ h => absurd h (by omega)⟩⟩
      · obtain ⟨v1, hv1, F1⟩ := hdep _ rfl ⟨1, .data⟩ (by simp) rfl (by decide)
        have hv1 : f 13 = some v1 := hv1
        have F1 : NumV wq xf v1 := F1
        have ev1 := upd_get a0.tmps f 13 _ (by rw [esz]; decide) hv1
        refine wpOp_of rfl rfl ?_
        unfold Oper.wp
        clear hdep hi
        go_simp
        refine (lwTo xf _ wq F1).mono ?_
        rintro e w1 ⟨v1, rfl, n1, b1⟩
        exact ⟨_, (by rw [upd_set]; rfl), n1, b1, fun j u hj hne hju hFj => ⟨fun h => absurd h (by omega), fun _ h => absurd h (by omega)⟩⟩
      · have ev4 : (upd a0.tmps f).getD 4 undef = .pointer (some ⟨w.heap.size + 1, 0, none⟩) := (hold 4 (nin_of _ _ _ (by kernel_rfl))).trans e4
        obtain ⟨c0, c1⟩ := CEL1.out _ hB
        refine wpOp_of rfl rfl ?_
        unfold Oper.wp
        clear hdep hi
        go_simp
        exact ⟨_, (by rw [upd_set]; rfl), rfl, Below.refl _ _, fun j u hj hne hju hFj => ⟨fun h => absurd h (by omega), fun _ h => absurd h (by omega)⟩⟩
      · obtain ⟨v3, hv3, F3⟩ := hdep _ rfl ⟨3, .data⟩ (by simp) rfl (by decide)
        have hv3 : f 15 = some v3 := hv3
        obtain rfl := (show v3 = .agg #[.bool y.below, .slice B nb cb] from F3)
        have ev3 := upd_get a0.tmps f 15 _ (by rw [esz]; decide) hv3
        refine wpOp_of rfl rfl ?_
        unfold Oper.wp
        clear hdep hi
        go_simp
        refine (lwFew y _ wq (NUM1.out _ hB)).mono ?_
        rintro e w1 ⟨v1, rfl, n1, b1⟩
        rw [HF1.out] at n1
        exact ⟨_, (by rw [upd_set]; rfl), n1, b1, fun j u hj hne hju hFj => ⟨fun h => absurd h (by omega), fun _ h => absurd h (by omega)⟩⟩
      · obtain ⟨v4, hv4, F4⟩ := hdep _ rfl ⟨4, .data⟩ (by simp) rfl (by decide)
        have hv4 : f 16 = some v4 := hv4
        have F4 : NumV wq yf v4 := F4
        have ev4 := upd_get a0.tmps f 16 _ (by rw [esz]; decide) hv4
        refine wpOp_of rfl rfl ?_
        unfold Oper.wp
        clear hdep hi
        go_simp
        refine (lwTo yf _ wq F4).mono ?_
        rintro e w1 ⟨v1, rfl, n1, b1⟩
        exact ⟨_, (by rw [upd_set]; rfl), n1, b1, fun j u hj hne hju hFj => ⟨fun h => absurd h (by omega), fun _ h => absurd h (by omega)⟩⟩
      · have ev5 : (upd a0.tmps f).getD 5 undef = .pointer (some ⟨w.heap.size + 1 + 1, 0, none⟩) := (hold 5 (nin_of _ _ _ (by kernel_rfl))).trans e5
        obtain ⟨c0, c1⟩ := CEL2.out _ hB
        refine wpOp_of rfl rfl ?_
        unfold Oper.wp
        clear hdep hi
        go_simp
        exact ⟨_, (by rw [upd_set]; rfl), rfl, Below.refl _ _, fun j u hj hne hju hFj => ⟨fun h => absurd h (by omega), fun _ h => absurd h (by omega)⟩⟩
      · obtain ⟨v6, hv6, F6⟩ := hdep _ rfl ⟨6, .data⟩ (by simp) rfl (by decide)
        have hv6 : f 18 = some v6 := hv6
        obtain rfl := (show v6 = .agg #[.bool z.below, .slice C nc cc] from F6)
        have ev6 := upd_get a0.tmps f 18 _ (by rw [esz]; decide) hv6
        refine wpOp_of rfl rfl ?_
        unfold Oper.wp
        clear hdep hi
        go_simp
        refine (lwFew z _ wq (NUM2.out _ hB)).mono ?_
        rintro e w1 ⟨v1, rfl, n1, b1⟩
        rw [HF2.out] at n1
        exact ⟨_, (by rw [upd_set]; rfl), n1, b1, fun j u hj hne hju hFj => ⟨fun h => absurd h (by omega), fun _ h => absurd h (by omega)⟩⟩
      · obtain ⟨v7, hv7, F7⟩ := hdep _ rfl ⟨7, .data⟩ (by simp) rfl (by decide)
        have hv7 : f 19 = some v7 := hv7
        have F7 : NumV wq zf v7 := F7
        have ev7 := upd_get a0.tmps f 19 _ (by rw [esz]; decide) hv7
        refine wpOp_of rfl rfl ?_
        unfold Oper.wp
        clear hdep hi
        go_simp
        refine (lwTo zf _ wq F7).mono ?_
        rintro e w1 ⟨v1, rfl, n1, b1⟩
        exact ⟨_, (by rw [upd_set]; rfl), n1, b1, fun j u hj hne hju hFj => ⟨fun h => absurd h (by omega), fun _ h => absurd h (by omega)⟩⟩
      · refine wpOp_of rfl rfl ?_
        unfold Oper.wp
        clear hdep hi
        go_simp
        exact ⟨_, (by rw [upd_set]; rfl), ⟨wq.heap.size, rfl, hB.size, Blk.new2 wq _ _ _⟩, below_alloc1 _ _, fun j u hj hne hju hFj => ⟨fun _ h9 e => (FacR_ne hFj hj h9) e.symm, fun h9 _ e => (FacR_ne hFj hj h9) e⟩⟩
      · refine wpOp_of rfl rfl ?_
        unfold Oper.wp
        clear hdep hi
        go_simp
        exact ⟨_, (by rw [upd_set]; rfl), ⟨wq.heap.size, rfl, hB.size, Blk.new2 wq _ _ _⟩, below_alloc1 _ _, fun j u hj hne hju hFj => ⟨fun _ h9 e => (FacR_ne hFj hj h9) e.symm, fun h9 _ e => (FacR_ne hFj hj h9) e⟩⟩
      · refine wpOp_of rfl rfl ?_
        unfold Oper.wp
        clear hdep hi
        go_simp
        exact ⟨_, (by rw [upd_set]; rfl), ⟨wq.heap.size, rfl, hB.size, Blk.new2 wq _ _ _⟩, below_alloc1 _ _, fun j u hj hne hju hFj => ⟨fun _ h9 e => (FacR_ne hFj hj h9) e.symm, fun h9 _ e => (FacR_ne hFj hj h9) e⟩⟩
    case fin =>
      intro f wq hB hrest hall hG
      obtain ⟨v0, h0, F0⟩ := hall 0 (by omega)
      obtain ⟨v1, h1, F1⟩ := hall 1 (by omega)
      obtain ⟨v2, h2, F2⟩ := hall 2 (by omega)
      obtain ⟨v3, h3, F3⟩ := hall 3 (by omega)
      obtain ⟨v4, h4, F4⟩ := hall 4 (by omega)
      obtain ⟨v5, h5, F5⟩ := hall 5 (by omega)
      obtain ⟨v6, h6, F6⟩ := hall 6 (by omega)
      obtain ⟨v7, h7, F7⟩ := hall 7 (by omega)
      obtain ⟨v8, h8, F8⟩ := hall 8 (by omega)
      obtain ⟨v9, h9, F9⟩ := hall 9 (by omega)
      obtain ⟨v10, h10, F10⟩ := hall 10 (by omega)
      obtain ⟨v11, h11, F11⟩ := hall 11 (by omega)
      obtain ⟨X0, rfl, lX0, bX0⟩ := (show PtrN _ v9 wq from F9)
      obtain ⟨A0, c0, rfl, s0, hc0⟩ := (show NumV wq xf v2 from F2)
      obtain ⟨X1, rfl, lX1, bX1⟩ := (show PtrN _ v10 wq from F10)
      obtain ⟨A1, c1, rfl, s1, hc1⟩ := (show NumV wq yf v5 from F5)
      obtain ⟨X2, rfl, lX2, bX2⟩ := (show PtrN _ v11 wq from F11)
      obtain ⟨A2, c2, rfl, s2, hc2⟩ := (show NumV wq zf v8 from F8)
      have n01 : X0 ≠ X1 := fun e => hG 9 10 _ _ (by omega) (by omega) (by omega) h9 h10 (by omega) (by omega) (by rw [e])
      have n02 : X0 ≠ X2 := fun e => hG 9 11 _ _ (by omega) (by omega) (by omega) h9 h11 (by omega) (by omega) (by rw [e])
      have n12 : X1 ≠ X2 := fun e => hG 10 11 _ _ (by omega) (by omega) (by omega) h10 h11 (by omega) (by omega) (by rw [e])
      have p0 : f 7 = some (.pointer (some ⟨X0, 0, none⟩)) := h9
      have g0 : f 14 = some (.agg #[.bool xf.below, .slice A0 xf.size.length c0]) := h2
      have ep0 := upd_get a0.tmps f 7 _ (by rw [esz]; decide) p0
      have eg0 := upd_get a0.tmps f 14 _ (by rw [esz]; decide) g0
      have p1 : f 8 = some (.pointer (some ⟨X1, 0, none⟩)) := h10
      have g1 : f 17 = some (.agg #[.bool yf.below, .slice A1 yf.size.length c1]) := h5
      have ep1 := upd_get a0.tmps f 8 _ (by rw [esz]; decide) p1
      have eg1 := upd_get a0.tmps f 17 _ (by rw [esz]; decide) g1
      have p2 : f 9 = some (.pointer (some ⟨X2, 0, none⟩)) := h11
      have g2 : f 20 = some (.agg #[.bool zf.below, .slice A2 zf.size.length c2]) := h8
      have ep2 := upd_get a0.tmps f 9 _ (by rw [esz]; decide) p2
      have eg2 := upd_get a0.tmps f 20 _ (by rw [esz]; decide) g2
      have N01 := Lib.hid n01; have N02 := Lib.hid n02; have N12 := Lib.hid n12
      clear n01 n02 n12 hG hall F0 F1 F3 F4 F6 F7 h0 h1 h2 h3 h4 h5 h6 h7 h8 h9 h10 h11
      refine wpAny_one 12 (by kernel_rfl) ?_
      obtain ⟨d0, d1, f0, f1⟩ := bX0.cs2
      refine wpOp_of rfl rfl ?_
      unfold Oper.wp
      go_simp
      have s0 := s0.set2 bX0 (.bool xf.below) (.slice A0 xf.size.length c0)
      have s1 := s1.set2 bX0 (.bool xf.below) (.slice A0 xf.size.length c0)
      have s2 := s2.set2 bX0 (.bool xf.below) (.slice A0 xf.size.length c0)
      have hB := below_set2 hB hB.size lX0 (.bool xf.below) (.slice A0 xf.size.length c0)
      have bX1 := bX1.store2o (Ne.symm N01.out) (.bool xf.below) (.slice A0 xf.size.length c0)
      have bX2 := bX2.store2o (Ne.symm N02.out) (.bool xf.below) (.slice A0 xf.size.length c0)
      have bX0 := bX0.store2 (.bool xf.below) (.slice A0 xf.size.length c0)
      clear d0 d1 f0 f1
      generalize ((wq.setCell ⟨X0, 0, none⟩ (.bool xf.below)).setCell ⟨X0, 1, none⟩ (.slice A0 xf.size.length c0)) = wq0 at *
      refine wpAny_one 13 (by kernel_rfl) ?_
      obtain ⟨d0, d1, f0, f1⟩ := bX1.cs2
      refine wpOp_of rfl rfl ?_
      unfold Oper.wp
      go_simp
      have s0 := s0.set2 bX1 (.bool yf.below) (.slice A1 yf.size.length c1)
      have s1 := s1.set2 bX1 (.bool yf.below) (.slice A1 yf.size.length c1)
      have s2 := s2.set2 bX1 (.bool yf.below) (.slice A1 yf.size.length c1)
      have hB := below_set2 hB hB.size lX1 (.bool yf.below) (.slice A1 yf.size.length c1)
      have bX0 := bX0.store2o (N01.out) (.bool yf.below) (.slice A1 yf.size.length c1)
      have bX2 := bX2.store2o (Ne.symm N12.out) (.bool yf.below) (.slice A1 yf.size.length c1)
      have bX1 := bX1.store2 (.bool yf.below) (.slice A1 yf.size.length c1)
      clear d0 d1 f0 f1
      generalize ((wq0.setCell ⟨X1, 0, none⟩ (.bool yf.below)).setCell ⟨X1, 1, none⟩ (.slice A1 yf.size.length c1)) = wq1 at *
      refine wpAny_one 14 (by kernel_rfl) ?_
      obtain ⟨d0, d1, f0, f1⟩ := bX2.cs2
      refine wpOp_of rfl rfl ?_
      unfold Oper.wp
      go_simp
      have s0 := s0.set2 bX2 (.bool zf.below) (.slice A2 zf.size.length c2)
      have s1 := s1.set2 bX2 (.bool zf.below) (.slice A2 zf.size.length c2)
      have s2 := s2.set2 bX2 (.bool zf.below) (.slice A2 zf.size.length c2)
      have hB := below_set2 hB hB.size lX2 (.bool zf.below) (.slice A2 zf.size.length c2)
      have bX0 := bX0.store2o (N02.out) (.bool zf.below) (.slice A2 zf.size.length c2)
      have bX1 := bX1.store2o (N12.out) (.bool zf.below) (.slice A2 zf.size.length c2)
      have bX2 := bX2.store2 (.bool zf.below) (.slice A2 zf.size.length c2)
      clear d0 d1 f0 f1
      generalize ((wq1.setCell ⟨X2, 0, none⟩ (.bool zf.below)).setCell ⟨X2, 1, none⟩ (.slice A2 zf.size.length c2)) = wq2 at *
      refine wpAny_end (by kernel_rfl) ?_
      rw [ha0.out]
      simp (config := { maxSteps := 1000000 }) [upd, p0, p1, p2, hrest 0 (nin_of _ _ _ (by kernel_rfl)), hrest 1 (nin_of _ _ _ (by kernel_rfl)), hrest 2 (nin_of _ _ _ (by kernel_rfl)), hrest 3 (nin_of _ _ _ (by kernel_rfl)), hrest 4 (nin_of _ _ _ (by kernel_rfl)), hrest 5 (nin_of _ _ _ (by kernel_rfl)), hrest 6 (nin_of _ _ _ (by kernel_rfl))]
      go_wp2_with fail
      go_meet
      exact ⟨X0, X1, X2, rfl, rfl, rfl, ⟨A0, c0, bX0, s0, hc0⟩, ⟨A1, c1, bX1, s1, hc1⟩, ⟨A2, c2, bX2, s2, hc2⟩, below_st0 b0 hB⟩
  case rest =>
    obtain ⟨X, Y, Z, rfl, rfl, rfl, ⟨AX, cX, bX, sX, hcX⟩, ⟨AY, cY, bY, sY, hcY⟩, ⟨AZ, cZ, bZ, sZ, hcZ⟩, bw⟩ := hcut
    rename World => w2
    clear NUM0 NUM1 NUM2 CEL0 CEL1 CEL2
    have HCX := Lib.hid hcX
    have HCY := Lib.hid hcY
    have HCZ := Lib.hid hcZ
    clear hcX hcY hcZ
    have KK : Hid (∀ W, Below w2.heap.size w2 W → (W.cell? ⟨X, 0, none⟩ = some (.bool xf.below) ∧ W.cell? ⟨X, 1, none⟩ = some (.slice AX xf.size.length cX) ∧ W.cell? ⟨Y, 0, none⟩ = some (.bool yf.below) ∧ W.cell? ⟨Y, 1, none⟩ = some (.slice AY yf.size.length cY) ∧ W.cell? ⟨Z, 0, none⟩ = some (.bool zf.below) ∧ W.cell? ⟨Z, 1, none⟩ = some (.slice AZ zf.size.length cZ)) ∧ NumV W xf (.agg #[.bool xf.below, .slice AX xf.size.length cX]) ∧ NumV W yf (.agg #[.bool yf.below, .slice AY yf.size.length cY]) ∧ NumV W zf (.agg #[.bool zf.below, .slice AZ zf.size.length cZ]) ∧ Tab W ∧ Below w.heap.size w W) :=
      fun W hW => ⟨⟨(bX.below hW).cs2.1, (bX.below hW).cs2.2.1, (bY.below hW).cs2.1, (bY.below hW).cs2.2.1, (bZ.below hW).cs2.1, (bZ.below hW).cs2.2.1⟩, ⟨AX, cX, rfl, sX.below hW, HCX.out⟩, ⟨AY, cY, rfl, sY.below hW, HCY.out⟩, ⟨AZ, cZ, rfl, sZ.below hW, HCZ.out⟩, (ht.below bw).below hW, below_st0 bw hW⟩
    clear bX sX bY sY bZ sZ bw
    go_upto_region 2 with (fail)
    have KB := Below.refl w2.heap.size w2
    go_cut [10] from 11 (fun v10 wd => SumC w2 (xf.z + yf.z + zf.z) v10 wd)
    case first =>
      refine wp_name fun a0 ha0 => ?_
      have e7 : a0.tmps.getD 7 undef = .pointer (some ⟨X, 0, none⟩) := by rw [ha0.out]; rfl
      have e8 : a0.tmps.getD 8 undef = .pointer (some ⟨Y, 0, none⟩) := by rw [ha0.out]; rfl
      have e9 : a0.tmps.getD 9 undef = .pointer (some ⟨Z, 0, none⟩) := by rw [ha0.out]; rfl
      have esz : a0.tmps.size = 81 := by rw [ha0.out]; rfl
      refine wp_region_facts 6 1 r2D (Fac2 (.agg #[.bool xf.below, .slice AX xf.size.length cX]) (.agg #[.bool yf.below, .slice AY yf.size.length cY]) (.agg #[.bool zf.below, .slice AZ zf.size.length cZ]) (xf.z + yf.z) (xf.z + yf.z + zf.z) xf yf w2.heap.size) r2G mixed rfl (inj_of _ _ (by kernel_rfl)) (by kernel_rfl) ?keep ?step ?fin
      case keep =>
        intro i v w1 w2 hi hF hb
        have hcase : i = 0 ∨ i = 1 ∨ i = 2 ∨ i = 3 ∨ i = 4 ∨ i = 5 := by omega
        rcases hcase with rfl | rfl | rfl | rfl | rfl | rfl
        · exact hF
        · exact hF
        · exact sum_frame hF hb
        · exact hF
        · exact sum_frame hF hb
        · exact PtrN.below hF hb
      case step =>
        intro i f wq hi hB hrest hdep
        have hold : ∀ d, (∀ i, i < 6 → d ≠ r2D i) → (upd a0.tmps f).getD d undef = a0.tmps.getD d undef := fun d hd => upd_old _ _ _ (hrest d hd)
        have hcase : i = 0 ∨ i = 1 ∨ i = 2 ∨ i = 3 ∨ i = 4 ∨ i = 5 := by omega
        rcases hcase with rfl | rfl | rfl | rfl | rfl | rfl
        · have ev7 : (upd a0.tmps f).getD 7 undef = .pointer (some ⟨X, 0, none⟩) := (hold 7 (nin_of _ _ _ (by kernel_rfl))).trans e7
          obtain ⟨⟨c0, c1, c2, c3, c4, c5⟩, _⟩ := KK.out _ (below_st0 KB hB)
          refine wpOp_of rfl rfl ?_
          unfold Oper.wp
          clear hdep hi
          go_simp
          exact ⟨_, (by rw [upd_set]; rfl), rfl, Below.refl _ _, fun _ _ _ _ _ _ => ⟨trivial, trivial⟩⟩
        · have ev8 : (upd a0.tmps f).getD 8 undef = .pointer (some ⟨Y, 0, none⟩) := (hold 8 (nin_of _ _ _ (by kernel_rfl))).trans e8
          obtain ⟨⟨c0, c1, c2, c3, c4, c5⟩, _⟩ := KK.out _ (below_st0 KB hB)
          refine wpOp_of rfl rfl ?_
          unfold Oper.wp
          clear hdep hi
          go_simp
          exact ⟨_, (by rw [upd_set]; rfl), rfl, Below.refl _ _, fun _ _ _ _ _ _ => ⟨trivial, trivial⟩⟩
        · obtain ⟨v0, hv0, F0⟩ := hdep _ rfl ⟨0, .data⟩ (by simp) rfl (by decide)
          have hv0 : f 21 = some v0 := hv0
          obtain rfl := (show v0 = (.agg #[.bool xf.below, .slice AX xf.size.length cX]) from F0)
          have ev0 := upd_get a0.tmps f 21 _ (by rw [esz]; decide) hv0
          obtain ⟨v1, hv1, F1⟩ := hdep _ rfl ⟨1, .data⟩ (by simp) rfl (by decide)
          have hv1 : f 22 = some v1 := hv1
          obtain rfl := (show v1 = (.agg #[.bool yf.below, .slice AY yf.size.length cY]) from F1)
          have ev1 := upd_get a0.tmps f 22 _ (by rw [esz]; decide) hv1
          obtain ⟨_, nx, ny, nz, _⟩ := KK.out _ (below_st0 KB hB)
          refine wpOp_of rfl rfl ?_
          unfold Oper.wp
          clear hdep hi
          go_simp
          refine (sumAdd xf yf _ _ wq nx ny (by omega) (by omega)).mono ?_
          rintro e w1 ⟨v1, rfl, ⟨s1, n1, z1, l1⟩, b1⟩
          exact ⟨_, (by rw [upd_set]; rfl), ⟨s1, n1, (by rw [z1]), (by omega)⟩, b1, fun _ _ _ _ _ _ => ⟨trivial, trivial⟩⟩
        · have ev9 : (upd a0.tmps f).getD 9 undef = .pointer (some ⟨Z, 0, none⟩) := (hold 9 (nin_of _ _ _ (by kernel_rfl))).trans e9
          obtain ⟨⟨c0, c1, c2, c3, c4, c5⟩, _⟩ := KK.out _ (below_st0 KB hB)
          refine wpOp_of rfl rfl ?_
          unfold Oper.wp
          clear hdep hi
          go_simp
          exact ⟨_, (by rw [upd_set]; rfl), rfl, Below.refl _ _, fun _ _ _ _ _ _ => ⟨trivial, trivial⟩⟩
        · obtain ⟨v2, hv2, F2⟩ := hdep _ rfl ⟨2, .data⟩ (by simp) rfl (by decide)
          have hv2 : f 23 = some v2 := hv2
          obtain ⟨s2, m2, z2, l2⟩ := F2
          have z2 := Lib.hid z2
          have ev2 := upd_get a0.tmps f 23 _ (by rw [esz]; decide) hv2
          obtain ⟨v3, hv3, F3⟩ := hdep _ rfl ⟨3, .data⟩ (by simp) rfl (by decide)
          have hv3 : f 24 = some v3 := hv3
          obtain rfl := (show v3 = (.agg #[.bool zf.below, .slice AZ zf.size.length cZ]) from F3)
          have ev3 := upd_get a0.tmps f 24 _ (by rw [esz]; decide) hv3
          obtain ⟨_, nx, ny, nz, _⟩ := KK.out _ (below_st0 KB hB)
          refine wpOp_of rfl rfl ?_
          unfold Oper.wp
          clear hdep hi
          go_simp
          refine (sumAdd s2 zf _ _ wq m2 nz (by omega) (by omega)).mono ?_
          rintro e w1 ⟨v1, rfl, ⟨s1, n1, z1, l1⟩, b1⟩
          exact ⟨_, (by rw [upd_set]; rfl), ⟨s1, n1, (by rw [z1, z2.out]), (by omega)⟩, b1, fun _ _ _ _ _ _ => ⟨trivial, trivial⟩⟩
        · refine wpOp_of rfl rfl ?_
          unfold Oper.wp
          clear hdep hi
          go_simp
          exact ⟨_, (by rw [upd_set]; rfl), ⟨wq.heap.size, rfl, hB.size, Blk.new2 wq _ _ _⟩, below_alloc1 _ _, fun _ _ _ _ _ _ => ⟨trivial, trivial⟩⟩
      case fin =>
        intro f wq hB hrest hall hG
        obtain ⟨v0, h0, F0⟩ := hall 0 (by omega)
        obtain ⟨v1, h1, F1⟩ := hall 1 (by omega)
        obtain ⟨v2, h2, F2⟩ := hall 2 (by omega)
        obtain ⟨v3, h3, F3⟩ := hall 3 (by omega)
        obtain ⟨v4, h4, F4⟩ := hall 4 (by omega)
        obtain ⟨v5, h5, F5⟩ := hall 5 (by omega)
        obtain ⟨X5, rfl, lX5, bX5⟩ := (show PtrN _ v5 wq from F5)
        obtain ⟨s4, ⟨A4, c4, rfl, m4, hc4⟩, z4, l4⟩ := (show SumV wq _ v4 from F4)
        have Z4 := Lib.hid z4; clear z4
        have p5 : f 10 = some (.pointer (some ⟨X5, 0, none⟩)) := h5
        have g5 : f 25 = some (.agg #[.bool s4.below, .slice A4 s4.size.length c4]) := h4
        have ep5 := upd_get a0.tmps f 10 _ (by rw [esz]; decide) p5
        have eg5 := upd_get a0.tmps f 25 _ (by rw [esz]; decide) g5
        clear hG hall F0 F1 F2 F3 h0 h1 h2 h3 h4 h5
        refine wpAny_one 6 (by kernel_rfl) ?_
        obtain ⟨d0, d1, f0, f1⟩ := bX5.cs2
        refine wpOp_of rfl rfl ?_
        unfold Oper.wp
        go_simp
        have m4 := m4.set2 bX5 (.bool s4.below) (.slice A4 s4.size.length c4)
        have hB := below_set2 hB hB.size lX5 (.bool s4.below) (.slice A4 s4.size.length c4)
        have bX5 := bX5.store2 (.bool s4.below) (.slice A4 s4.size.length c4)
        clear d0 d1 f0 f1
        generalize ((wq.setCell ⟨X5, 0, none⟩ (.bool s4.below)).setCell ⟨X5, 1, none⟩ (.slice A4 s4.size.length c4)) = wq5 at *
        refine wpAny_end (by kernel_rfl) ?_
        rw [ha0.out]
        simp (config := { maxSteps := 1000000 }) [upd, p5, hrest 0 (nin_of _ _ _ (by kernel_rfl)), hrest 1 (nin_of _ _ _ (by kernel_rfl)), hrest 2 (nin_of _ _ _ (by kernel_rfl)), hrest 3 (nin_of _ _ _ (by kernel_rfl)), hrest 4 (nin_of _ _ _ (by kernel_rfl)), hrest 5 (nin_of _ _ _ (by kernel_rfl)), hrest 6 (nin_of _ _ _ (by kernel_rfl)), hrest 7 (nin_of _ _ _ (by kernel_rfl)), hrest 8 (nin_of _ _ _ (by kernel_rfl)), hrest 9 (nin_of _ _ _ (by kernel_rfl))]
        go_wp2_with fail
        go_meet
        exact ⟨X5, s4, rfl, ⟨A4, c4, bX5, m4, hc4⟩, Z4.out, l4, hB⟩
    case rest =>
    obtain ⟨S, s, rfl, ⟨AS, cS, bS, mS, hcS⟩, zS, lS, KB⟩ := hcut
    rename World => w3
    have HCS := Lib.hid hcS
    have ZS := Lib.hid zS
    clear hcS zS
    go_upto_region 3 with (fail)
    go_cut [11] from 12 (fun v11 we => SumC w3 (xf.z + (zf.z + yf.z)) v11 we)
    case first =>
      refine wp_name fun a0 ha0 => ?_
      have e7 : a0.tmps.getD 7 undef = .pointer (some ⟨X, 0, none⟩) := by rw [ha0.out]; rfl
      have e8 : a0.tmps.getD 8 undef = .pointer (some ⟨Y, 0, none⟩) := by rw [ha0.out]; rfl
      have e9 : a0.tmps.getD 9 undef = .pointer (some ⟨Z, 0, none⟩) := by rw [ha0.out]; rfl
      have esz : a0.tmps.size = 81 := by rw [ha0.out]; rfl
      refine wp_region_facts 6 1 r3D (Fac3 (.agg #[.bool xf.below, .slice AX xf.size.length cX]) (.agg #[.bool zf.below, .slice AZ zf.size.length cZ]) (.agg #[.bool yf.below, .slice AY yf.size.length cY]) (zf.z + yf.z) (xf.z + (zf.z + yf.z)) xf yf w3.heap.size) r3G mixed rfl (inj_of _ _ (by kernel_rfl)) (by kernel_rfl) ?keep ?step ?fin
      case keep =>
        intro i v w1 w2 hi hF hb
        have hcase : i = 0 ∨ i = 1 ∨ i = 2 ∨ i = 3 ∨ i = 4 ∨ i = 5 := by omega
        rcases hcase with rfl | rfl | rfl | rfl | rfl | rfl
        · exact hF
        · exact hF
        · exact hF
        · exact sum_frame hF hb
        · exact sum_frame hF hb
        · exact PtrN.below hF hb
      case step =>
        intro i f wq hi hB hrest hdep
        have hold : ∀ d, (∀ i, i < 6 → d ≠ r3D i) → (upd a0.tmps f).getD d undef = a0.tmps.getD d undef := fun d hd => upd_old _ _ _ (hrest d hd)
        have hcase : i = 0 ∨ i = 1 ∨ i = 2 ∨ i = 3 ∨ i = 4 ∨ i = 5 := by omega
        rcases hcase with rfl | rfl | rfl | rfl | rfl | rfl
        · have ev7 : (upd a0.tmps f).getD 7 undef = .pointer (some ⟨X, 0, none⟩) := (hold 7 (nin_of _ _ _ (by kernel_rfl))).trans e7
          obtain ⟨⟨c0, c1, c2, c3, c4, c5⟩, _⟩ := KK.out _ (below_st0 KB hB)
          refine wpOp_of rfl rfl ?_
          unfold Oper.wp
          clear hdep hi
          go_simp
          exact ⟨_, (by rw [upd_set]; rfl), rfl, Below.refl _ _, fun _ _ _ _ _ _ => ⟨trivial, trivial⟩⟩
        · have ev9 : (upd a0.tmps f).getD 9 undef = .pointer (some ⟨Z, 0, none⟩) := (hold 9 (nin_of _ _ _ (by kernel_rfl))).trans e9
          obtain ⟨⟨c0, c1, c2, c3, c4, c5⟩, _⟩ := KK.out _ (below_st0 KB hB)
          refine wpOp_of rfl rfl ?_
          unfold Oper.wp
          clear hdep hi
          go_simp
          exact ⟨_, (by rw [upd_set]; rfl), rfl, Below.refl _ _, fun _ _ _ _ _ _ => ⟨trivial, trivial⟩⟩
        · have ev8 : (upd a0.tmps f).getD 8 undef = .pointer (some ⟨Y, 0, none⟩) := (hold 8 (nin_of _ _ _ (by kernel_rfl))).trans e8
          obtain ⟨⟨c0, c1, c2, c3, c4, c5⟩, _⟩ := KK.out _ (below_st0 KB hB)
          refine wpOp_of rfl rfl ?_
          unfold Oper.wp
          clear hdep hi
          go_simp
          exact ⟨_, (by rw [upd_set]; rfl), rfl, Below.refl _ _, fun _ _ _ _ _ _ => ⟨trivial, trivial⟩⟩
        · obtain ⟨v1, hv1, F1⟩ := hdep _ rfl ⟨1, .data⟩ (by simp) rfl (by decide)
          have hv1 : f 27 = some v1 := hv1
          obtain rfl := (show v1 = (.agg #[.bool zf.below, .slice AZ zf.size.length cZ]) from F1)
          have ev1 := upd_get a0.tmps f 27 _ (by rw [esz]; decide) hv1
          obtain ⟨v2, hv2, F2⟩ := hdep _ rfl ⟨2, .data⟩ (by simp) rfl (by decide)
          have hv2 : f 28 = some v2 := hv2
          obtain rfl := (show v2 = (.agg #[.bool yf.below, .slice AY yf.size.length cY]) from F2)
          have ev2 := upd_get a0.tmps f 28 _ (by rw [esz]; decide) hv2
          obtain ⟨_, nx, ny, nz, _⟩ := KK.out _ (below_st0 KB hB)
          refine wpOp_of rfl rfl ?_
          unfold Oper.wp
          clear hdep hi
          go_simp
          refine (sumAdd zf yf _ _ wq nz ny (by omega) (by omega)).mono ?_
          rintro e w1 ⟨v1, rfl, ⟨s1, n1, z1, l1⟩, b1⟩
          exact ⟨_, (by rw [upd_set]; rfl), ⟨s1, n1, (by rw [z1]), (by omega)⟩, b1, fun _ _ _ _ _ _ => ⟨trivial, trivial⟩⟩
        · obtain ⟨v0, hv0, F0⟩ := hdep _ rfl ⟨0, .data⟩ (by simp) rfl (by decide)
          have hv0 : f 26 = some v0 := hv0
          obtain rfl := (show v0 = (.agg #[.bool xf.below, .slice AX xf.size.length cX]) from F0)
          have ev0 := upd_get a0.tmps f 26 _ (by rw [esz]; decide) hv0
          obtain ⟨v3, hv3, F3⟩ := hdep _ rfl ⟨3, .data⟩ (by simp) rfl (by decide)
          have hv3 : f 29 = some v3 := hv3
          obtain ⟨s3, m3, z3, l3⟩ := F3
          have z3 := Lib.hid z3
          have ev3 := upd_get a0.tmps f 29 _ (by rw [esz]; decide) hv3
          obtain ⟨_, nx, ny, nz, _⟩ := KK.out _ (below_st0 KB hB)
          refine wpOp_of rfl rfl ?_
          unfold Oper.wp
          clear hdep hi
          go_simp
          refine (sumAdd xf s3 _ _ wq nx m3 (by omega) (by omega)).mono ?_
          rintro e w1 ⟨v1, rfl, ⟨s1, n1, z1, l1⟩, b1⟩
          exact ⟨_, (by rw [upd_set]; rfl), ⟨s1, n1, (by rw [z1, z3.out]), (by omega)⟩, b1, fun _ _ _ _ _ _ => ⟨trivial, trivial⟩⟩
        · refine wpOp_of rfl rfl ?_
          unfold Oper.wp
          clear hdep hi
          go_simp
          exact ⟨_, (by rw [upd_set]; rfl), ⟨wq.heap.size, rfl, hB.size, Blk.new2 wq _ _ _⟩, below_alloc1 _ _, fun _ _ _ _ _ _ => ⟨trivial, trivial⟩⟩
      case fin =>
        intro f wq hB hrest hall hG
        obtain ⟨v0, h0, F0⟩ := hall 0 (by omega)
        obtain ⟨v1, h1, F1⟩ := hall 1 (by omega)
        obtain ⟨v2, h2, F2⟩ := hall 2 (by omega)
        obtain ⟨v3, h3, F3⟩ := hall 3 (by omega)
        obtain ⟨v4, h4, F4⟩ := hall 4 (by omega)
        obtain ⟨v5, h5, F5⟩ := hall 5 (by omega)
        obtain ⟨X5, rfl, lX5, bX5⟩ := (show PtrN _ v5 wq from F5)
        obtain ⟨s4, ⟨A4, c4, rfl, m4, hc4⟩, z4, l4⟩ := (show SumV wq _ v4 from F4)
        have Z4 := Lib.hid z4; clear z4
        have p5 : f 11 = some (.pointer (some ⟨X5, 0, none⟩)) := h5
        have g5 : f 30 = some (.agg #[.bool s4.below, .slice A4 s4.size.length c4]) := h4
        have ep5 := upd_get a0.tmps f 11 _ (by rw [esz]; decide) p5
        have eg5 := upd_get a0.tmps f 30 _ (by rw [esz]; decide) g5
        clear hG hall F0 F1 F2 F3 h0 h1 h2 h3 h4 h5
        refine wpAny_one 6 (by kernel_rfl) ?_
        obtain ⟨d0, d1, f0, f1⟩ := bX5.cs2
        refine wpOp_of rfl rfl ?_
        unfold Oper.wp
        go_simp
        have m4 := m4.set2 bX5 (.bool s4.below) (.slice A4 s4.size.length c4)
        have hB := below_set2 hB hB.size lX5 (.bool s4.below) (.slice A4 s4.size.length c4)
        have bX5 := bX5.store2 (.bool s4.below) (.slice A4 s4.size.length c4)
        clear d0 d1 f0 f1
        generalize ((wq.setCell ⟨X5, 0, none⟩ (.bool s4.below)).setCell ⟨X5, 1, none⟩ (.slice A4 s4.size.length c4)) = wq5 at *
        refine wpAny_end (by kernel_rfl) ?_
        rw [ha0.out]
        simp (config := { maxSteps := 1000000 }) [upd, p5, hrest 0 (nin_of _ _ _ (by kernel_rfl)), hrest 1 (nin_of _ _ _ (by kernel_rfl)), hrest 2 (nin_of _ _ _ (by kernel_rfl)), hrest 3 (nin_of _ _ _ (by kernel_rfl)), hrest 4 (nin_of _ _ _ (by kernel_rfl)), hrest 5 (nin_of _ _ _ (by kernel_rfl)), hrest 6 (nin_of _ _ _ (by kernel_rfl)), hrest 7 (nin_of _ _ _ (by kernel_rfl)), hrest 8 (nin_of _ _ _ (by kernel_rfl)), hrest 9 (nin_of _ _ _ (by kernel_rfl)), hrest 10 (nin_of _ _ _ (by kernel_rfl))]
        go_wp2_with fail
        go_meet
        exact ⟨X5, s4, rfl, ⟨A4, c4, bX5, m4, hc4⟩, Z4.out, l4, hB⟩
    case rest =>
    obtain ⟨T, t, rfl, ⟨AT, cT, bT, mT, hcT⟩, zT, lT, KB3⟩ := hcut
    have HCT := Lib.hid hcT
    have ZT := Lib.hid zT
    clear hcT zT
    have K4 : Hid (∀ W, Below wc.heap.size wc W → (W.cell? ⟨X, 0, none⟩ = some (.bool xf.below) ∧ W.cell? ⟨X, 1, none⟩ = some (.slice AX xf.size.length cX) ∧ W.cell? ⟨Y, 0, none⟩ = some (.bool yf.below) ∧ W.cell? ⟨Y, 1, none⟩ = some (.slice AY yf.size.length cY) ∧ W.cell? ⟨Z, 0, none⟩ = some (.bool zf.below) ∧ W.cell? ⟨Z, 1, none⟩ = some (.slice AZ zf.size.length cZ) ∧ W.cell? ⟨S, 0, none⟩ = some (.bool s.below) ∧ W.cell? ⟨S, 1, none⟩ = some (.slice AS s.size.length cS) ∧ W.cell? ⟨T, 0, none⟩ = some (.bool t.below) ∧ W.cell? ⟨T, 1, none⟩ = some (.slice AT t.size.length cT)) ∧ NumV W xf (.agg #[.bool xf.below, .slice AX xf.size.length cX]) ∧ NumV W yf (.agg #[.bool yf.below, .slice AY yf.size.length cY]) ∧ NumV W zf (.agg #[.bool zf.below, .slice AZ zf.size.length cZ]) ∧ NumV W s (.agg #[.bool s.below, .slice AS s.size.length cS]) ∧ NumV W t (.agg #[.bool t.below, .slice AT t.size.length cT]) ∧ Tab W ∧ Below w.heap.size w W) := by
      intro W hW
      obtain ⟨⟨c0, c1, c2, c3, c4, c5⟩, n1, n2, n3, tb, bl⟩ := KK.out W (below_st0 KB (below_st0 KB3 hW))
      have bS' := (bS.below KB3).below hW
      have bT' := bT.below hW
      exact ⟨⟨c0, c1, c2, c3, c4, c5, bS'.cs2.1, bS'.cs2.2.1, bT'.cs2.1, bT'.cs2.2.1⟩, n1, n2, n3, ⟨AS, cS, rfl, (mS.below KB3).below hW, HCS.out⟩, ⟨AT, cT, rfl, mT.below hW, HCT.out⟩, tb, bl⟩
    have E1 : Hid (sg s.z t.z = 0) := by unfold Hid; rw [ZS.out, ZT.out, show xf.z + yf.z + zf.z = xf.z + (zf.z + yf.z) by omega]; exact sg_self _
    obtain ⟨r, hr⟩ : ∃ r, sg xf.z yf.z = r := ⟨_, rfl⟩
    have ER := Lib.hid hr
    have hrc := sg_cases xf.z yf.z
    rw [hr] at hrc
    have rr : (r == r) = true := by simp
    have rn : (-r == -r) = true := by simp
    have wn : IntKind.i64.wrap (-r) = -r := by rcases hrc with rfl | rfl | rfl <;> decide
    have wm : wrap64 (-r) = -r := by rcases hrc with rfl | rfl | rfl <;> simp [wrap64, IntKind.wrap, IntKind.bits, IntKind.signed]
    clear hr hrc KK bS mS bT mT KB KB3
    go_upto_region 4 with (fail)
    refine wp_region_held_drew (S := fun w' => w'.cell? ⟨X, 0, none⟩ = some (.bool xf.below) ∧ w'.cell? ⟨X, 1, none⟩ = some (.slice AX xf.size.length cX) ∧ w'.cell? ⟨Y, 0, none⟩ = some (.bool yf.below) ∧ w'.cell? ⟨Y, 1, none⟩ = some (.slice AY yf.size.length cY) ∧ w'.cell? ⟨Z, 0, none⟩ = some (.bool zf.below) ∧ w'.cell? ⟨Z, 1, none⟩ = some (.slice AZ zf.size.length cZ) ∧ w'.cell? ⟨S, 0, none⟩ = some (.bool s.below) ∧ w'.cell? ⟨S, 1, none⟩ = some (.slice AS s.size.length cS) ∧ w'.cell? ⟨T, 0, none⟩ = some (.bool t.below) ∧ w'.cell? ⟨T, 1, none⟩ = some (.slice AT t.size.length cT)) (by kernel_rfl) ?_ (fun hHeld => ?_)
    · (try dsimp only); exact (K4.out _ (Below.refl _ _)).1
    refine wpAnyH_ready (rs := [0]) (by kernel_rfl) (by simp) ?_
    refine AllReadyH.cons rfl (fun K hK => ?_) AllReadyH.nil
    go_simp
    refine (known3 _ (K4.out _ (Below.drew (Below.refl _ _))).2.2.2.2.2.2.1).mono ?_
    rintro e ww0 ⟨rfl, bb0⟩
    have bb00 := bb0
    have bb0 := Below.trans (Below.drew (Below.refl _ _)) bb0
    have kk0 := K4.out _ bb0
    go_wp2_with fail
    refine hK.out _ _ ?_ (fun hHeld => ?_)
    · (try dsimp only); exact kk0.1
    clear hK K
    try simp only [Act.put, List.setIfInBounds_toArray, List.set_cons_zero, List.set_cons_succ, List.getElem_toArray, List.getElem_cons_succ, List.getElem_cons_zero]
    refine wpAnyH_take (i := 1) (v := ?_) rfl (by kernel_rfl) (by kernel_rfl) (by kernel_rfl) (fun _ _ _ h => h) (Or.inl ⟨by kernel_rfl, ?_⟩) (by assumption) ?_
    rotate_left 1
    · (intro w hSw; (try dsimp only at hSw); go_simp) <;> (try with_reducible rfl)
    try simp only [Act.put, List.setIfInBounds_toArray, List.set_cons_zero, List.set_cons_succ, List.getElem_toArray, List.getElem_cons_succ, List.getElem_cons_zero]
    refine wpAnyH_take (i := 2) (v := ?_) rfl (by kernel_rfl) (by kernel_rfl) (by kernel_rfl) (fun _ _ _ h => h) (Or.inl ⟨by kernel_rfl, ?_⟩) (by assumption) ?_
    rotate_left 1
    · (intro w hSw; (try dsimp only at hSw); go_simp) <;> (try with_reducible rfl)
    try simp only [Act.put, List.setIfInBounds_toArray, List.set_cons_zero, List.set_cons_succ, List.getElem_toArray, List.getElem_cons_succ, List.getElem_cons_zero]
    refine wpAnyH_take (i := 3) (v := ?_) rfl (by kernel_rfl) (by kernel_rfl) (by kernel_rfl) (fun _ _ _ h => h) (Or.inl ⟨by kernel_rfl, ?_⟩) (by assumption) ?_
    rotate_left 1
    · (intro w hSw; (try dsimp only at hSw); go_simp) <;> (try with_reducible rfl)
    try simp only [Act.put, List.setIfInBounds_toArray, List.set_cons_zero, List.set_cons_succ, List.getElem_toArray, List.getElem_cons_succ, List.getElem_cons_zero]
    refine wpAnyH_ready (rs := [4]) (by kernel_rfl) (by simp) ?_
    refine AllReadyH.cons rfl (fun K hK => ?_) AllReadyH.nil
    go_simp
    refine (whCompare s t _ _ _ kk0.2.2.2.2.1 kk0.2.2.2.2.2.1 (by omega) (by omega)).mono ?_
    rw [E1.out]
    rintro e ww1 ⟨rfl, bb1⟩
    have bb10 := bb1
    have bb1 := bb0.trans (Below.mono bb1 bb0.size)
    have kk1 := K4.out _ bb1
    go_wp2_with fail
    refine hK.out _ _ ?_ (fun hHeld => ?_)
    · (try dsimp only); exact kk1.1
    clear hK K
    try simp only [Act.put, List.setIfInBounds_toArray, List.set_cons_zero, List.set_cons_succ, List.getElem_toArray, List.getElem_cons_succ, List.getElem_cons_zero]
    refine wpAnyH_take (i := 5) (v := ?_) rfl (by kernel_rfl) (by kernel_rfl) (by kernel_rfl) (fun _ _ _ h => h) (Or.inl ⟨by kernel_rfl, ?_⟩) (by assumption) ?_
    rotate_left 1
    · (intro w hSw; (try dsimp only at hSw); go_simp) <;> (try with_reducible rfl)
    try simp only [Act.put, List.setIfInBounds_toArray, List.set_cons_zero, List.set_cons_succ, List.getElem_toArray, List.getElem_cons_succ, List.getElem_cons_zero]
    refine wpAnyH_take (i := 6) (v := ?_) rfl (by kernel_rfl) (by kernel_rfl) (by kernel_rfl) (fun _ _ _ h => h) (Or.inl ⟨by kernel_rfl, ?_⟩) (by assumption) ?_
    rotate_left 1
    · (intro w hSw; (try dsimp only at hSw); go_simp) <;> (try with_reducible rfl)
    try simp only [Act.put, List.setIfInBounds_toArray, List.set_cons_zero, List.set_cons_succ, List.getElem_toArray, List.getElem_cons_succ, List.getElem_cons_zero]
    refine wpAnyH_take (i := 7) (v := ?_) rfl (by kernel_rfl) (by kernel_rfl) (by kernel_rfl) (fun _ _ _ h => h) (Or.inl ⟨by kernel_rfl, ?_⟩) (by assumption) ?_
    rotate_left 1
    · (intro w hSw; (try dsimp only at hSw); go_simp) <;> (try with_reducible rfl)
    try simp only [Act.put, List.setIfInBounds_toArray, List.set_cons_zero, List.set_cons_succ, List.getElem_toArray, List.getElem_cons_succ, List.getElem_cons_zero]
    refine wpAnyH_take (i := 8) (v := ?_) rfl (by kernel_rfl) (by kernel_rfl) (by kernel_rfl) (fun _ _ _ h => h) (Or.inl ⟨by kernel_rfl, ?_⟩) (by assumption) ?_
    rotate_left 1
    · (intro w hSw; (try dsimp only at hSw); go_simp) <;> (try with_reducible rfl)
    try simp only [Act.put, List.setIfInBounds_toArray, List.set_cons_zero, List.set_cons_succ, List.getElem_toArray, List.getElem_cons_succ, List.getElem_cons_zero]
    refine wpAnyH_take (i := 9) (v := ?_) rfl (by kernel_rfl) (by kernel_rfl) (by kernel_rfl) (fun _ _ _ h => h) (Or.inl ⟨by kernel_rfl, ?_⟩) (by assumption) ?_
    rotate_left 1
    · (intro w hSw; (try dsimp only at hSw); go_simp) <;> (try with_reducible rfl)
    try simp only [Act.put, List.setIfInBounds_toArray, List.set_cons_zero, List.set_cons_succ, List.getElem_toArray, List.getElem_cons_succ, List.getElem_cons_zero]
    refine wpAnyH_take (i := 12) (v := ?_) rfl (by kernel_rfl) (by kernel_rfl) (by kernel_rfl) (fun _ _ _ h => h) (Or.inl ⟨by kernel_rfl, ?_⟩) (by assumption) ?_
    rotate_left 1
    · (intro w hSw; (try dsimp only at hSw); go_simp) <;> (try with_reducible rfl)
    try simp only [Act.put, List.setIfInBounds_toArray, List.set_cons_zero, List.set_cons_succ, List.getElem_toArray, List.getElem_cons_succ, List.getElem_cons_zero]
    refine wpAnyH_ready (rs := [10]) (by kernel_rfl) (by simp) ?_
    refine AllReadyH.cons rfl (fun K hK => ?_) AllReadyH.nil
    go_simp
    refine (whNeg xf _ _ kk1.2.1 (by omega)).mono ?_
    rintro e ww2 ⟨m1, u1, rfl, M1, _, z1, l1, bb2⟩
    have z1 := Lib.hid z1
    have bb20 := bb2
    have bb2 := bb1.trans (Below.mono bb2 bb1.size)
    have kk2 := K4.out _ bb2
    go_wp2_with fail
    refine hK.out _ _ ?_ (fun hHeld => ?_)
    · (try dsimp only); exact kk2.1
    clear hK K
    try simp only [Act.put, List.setIfInBounds_toArray, List.set_cons_zero, List.set_cons_succ, List.getElem_toArray, List.getElem_cons_succ, List.getElem_cons_zero]
    refine wpAnyH_ready (rs := [11]) (by kernel_rfl) (by simp) ?_
    refine AllReadyH.cons rfl (fun K hK => ?_) AllReadyH.nil
    go_simp
    refine (sumAdd xf m1 _ _ _ kk2.2.1 M1 (by omega) (by omega)).mono ?_
    rintro e ww3 ⟨u2, rfl, ⟨m2, M2, z2, l2⟩, bb3⟩
    have z2 := Lib.hid z2
    have bb30 := bb3
    have bb3 := bb2.trans (Below.mono bb3 bb2.size)
    have kk3 := K4.out _ bb3
    go_wp2_with fail
    refine hK.out _ _ ?_ (fun hHeld => ?_)
    · (try dsimp only); exact kk3.1
    clear hK K
    try simp only [Act.put, List.setIfInBounds_toArray, List.set_cons_zero, List.set_cons_succ, List.getElem_toArray, List.getElem_cons_succ, List.getElem_cons_zero]
    refine wpAnyH_ready (rs := [13]) (by kernel_rfl) (by simp) ?_
    refine AllReadyH.cons rfl (fun K hK => ?_) AllReadyH.nil
    go_simp
    refine (whCompare m2 ⟨false, []⟩ _ _ _ M2 (NumV.mk' false (Bs.nil _ _) (Nat.le_refl 0)) (by omega) (by simp)).mono ?_
    rw [show sg m2.z (Nm.z ⟨false, []⟩) = 0 by rw [z2.out, z1.out, show xf.z + -xf.z = 0 by omega]; rfl]
    rintro e ww4 ⟨rfl, bb4⟩
    have bb40 := bb4
    have bb4 := bb3.trans (Below.mono bb4 bb3.size)
    have kk4 := K4.out _ bb4
    go_wp2_with fail
    refine hK.out _ _ ?_ (fun hHeld => ?_)
    · (try dsimp only); exact kk4.1
    clear hK K
    try simp only [Act.put, List.setIfInBounds_toArray, List.set_cons_zero, List.set_cons_succ, List.getElem_toArray, List.getElem_cons_succ, List.getElem_cons_zero]
    refine wpAnyH_take (i := 14) (v := ?_) rfl (by kernel_rfl) (by kernel_rfl) (by kernel_rfl) (fun _ _ _ h => h) (Or.inl ⟨by kernel_rfl, ?_⟩) (by assumption) ?_
    rotate_left 1
    · (intro w hSw; (try dsimp only at hSw); go_simp) <;> (try with_reducible rfl)
    try simp only [Act.put, List.setIfInBounds_toArray, List.set_cons_zero, List.set_cons_succ, List.getElem_toArray, List.getElem_cons_succ, List.getElem_cons_zero]
    refine wpAnyH_take (i := 15) (v := ?_) rfl (by kernel_rfl) (by kernel_rfl) (by kernel_rfl) (fun _ _ _ h => h) (Or.inl ⟨by kernel_rfl, ?_⟩) (by assumption) ?_
    rotate_left 1
    · (intro w hSw; (try dsimp only at hSw); go_simp) <;> (try with_reducible rfl)
    try simp only [Act.put, List.setIfInBounds_toArray, List.set_cons_zero, List.set_cons_succ, List.getElem_toArray, List.getElem_cons_succ, List.getElem_cons_zero]
    refine wpAnyH_take (i := 16) (v := ?_) rfl (by kernel_rfl) (by kernel_rfl) (by kernel_rfl) (fun _ _ _ h => h) (Or.inl ⟨by kernel_rfl, ?_⟩) (by assumption) ?_
    rotate_left 1
    · (intro w hSw; (try dsimp only at hSw); go_simp) <;> (try with_reducible rfl)
    try simp only [Act.put, List.setIfInBounds_toArray, List.set_cons_zero, List.set_cons_succ, List.getElem_toArray, List.getElem_cons_succ, List.getElem_cons_zero]
    refine wpAnyH_take (i := 17) (v := ?_) rfl (by kernel_rfl) (by kernel_rfl) (by kernel_rfl) (fun _ _ _ h => h) (Or.inl ⟨by kernel_rfl, ?_⟩) (by assumption) ?_
    rotate_left 1
    · (intro w hSw; (try dsimp only at hSw); go_simp) <;> (try with_reducible rfl)
    try simp only [Act.put, List.setIfInBounds_toArray, List.set_cons_zero, List.set_cons_succ, List.getElem_toArray, List.getElem_cons_succ, List.getElem_cons_zero]
    refine wpAnyH_take (i := 18) (v := ?_) rfl (by kernel_rfl) (by kernel_rfl) (by kernel_rfl) (fun _ _ _ h => h) (Or.inl ⟨by kernel_rfl, ?_⟩) (by assumption) ?_
    rotate_left 1
    · (intro w hSw; (try dsimp only at hSw); go_simp) <;> (try with_reducible rfl)
    try simp only [Act.put, List.setIfInBounds_toArray, List.set_cons_zero, List.set_cons_succ, List.getElem_toArray, List.getElem_cons_succ, List.getElem_cons_zero]
    refine wpAnyH_take (i := 20) (v := ?_) rfl (by kernel_rfl) (by kernel_rfl) (by kernel_rfl) (fun _ _ _ h => h) (Or.inl ⟨by kernel_rfl, ?_⟩) (by assumption) ?_
    rotate_left 1
    · (intro w hSw; (try dsimp only at hSw); go_simp) <;> (try with_reducible rfl)
    try simp only [Act.put, List.setIfInBounds_toArray, List.set_cons_zero, List.set_cons_succ, List.getElem_toArray, List.getElem_cons_succ, List.getElem_cons_zero]
    refine wpAnyH_take (i := 23) (v := ?_) rfl (by kernel_rfl) (by kernel_rfl) (by kernel_rfl) (fun _ _ _ h => h) (Or.inl ⟨by kernel_rfl, ?_⟩) (by assumption) ?_
    rotate_left 1
    · (intro w hSw; (try dsimp only at hSw); go_simp) <;> (try with_reducible rfl)
    try simp only [Act.put, List.setIfInBounds_toArray, List.set_cons_zero, List.set_cons_succ, List.getElem_toArray, List.getElem_cons_succ, List.getElem_cons_zero]
    refine wpAnyH_ready (rs := [19]) (by kernel_rfl) (by simp) ?_
    refine AllReadyH.cons rfl (fun K hK => ?_) AllReadyH.nil
    go_simp
    refine (sumAdd xf yf _ _ _ kk4.2.1 kk4.2.2.1 (by omega) (by omega)).mono ?_
    rintro e ww5 ⟨u3, rfl, ⟨m3, M3, z3, l3⟩, bb5⟩
    have z3 := Lib.hid z3
    have bb50 := bb5
    have bb5 := bb4.trans (Below.mono bb5 bb4.size)
    have kk5 := K4.out _ bb5
    go_wp2_with fail
    refine hK.out _ _ ?_ (fun hHeld => ?_)
    · (try dsimp only); exact kk5.1
    clear hK K
    try simp only [Act.put, List.setIfInBounds_toArray, List.set_cons_zero, List.set_cons_succ, List.getElem_toArray, List.getElem_cons_succ, List.getElem_cons_zero]
    refine wpAnyH_ready (rs := [21]) (by kernel_rfl) (by simp) ?_
    refine AllReadyH.cons rfl (fun K hK => ?_) AllReadyH.nil
    go_simp
    refine (whNeg yf _ _ kk5.2.2.1 (by omega)).mono ?_
    rintro e ww6 ⟨m4, u4, rfl, M4, _, z4, l4, bb6⟩
    have z4 := Lib.hid z4
    have bb60 := bb6
    have bb6 := bb5.trans (Below.mono bb6 bb5.size)
    have kk6 := K4.out _ bb6
    have M3 := M3.frame bb60
    go_wp2_with fail
    refine hK.out _ _ ?_ (fun hHeld => ?_)
    · (try dsimp only); exact kk6.1
    clear hK K
    try simp only [Act.put, List.setIfInBounds_toArray, List.set_cons_zero, List.set_cons_succ, List.getElem_toArray, List.getElem_cons_succ, List.getElem_cons_zero]
    refine wpAnyH_ready (rs := [22]) (by kernel_rfl) (by simp) ?_
    refine AllReadyH.cons rfl (fun K hK => ?_) AllReadyH.nil
    go_simp
    refine (sumAdd m3 m4 _ _ _ M3 M4 (by omega) (by omega)).mono ?_
    rintro e ww7 ⟨u5, rfl, ⟨m5, M5, z5, l5⟩, bb7⟩
    have z5 := Lib.hid z5
    have bb70 := bb7
    have bb7 := bb6.trans (Below.mono bb7 bb6.size)
    have kk7 := K4.out _ bb7
    go_wp2_with fail
    refine hK.out _ _ ?_ (fun hHeld => ?_)
    · (try dsimp only); exact kk7.1
    clear hK K
    try simp only [Act.put, List.setIfInBounds_toArray, List.set_cons_zero, List.set_cons_succ, List.getElem_toArray, List.getElem_cons_succ, List.getElem_cons_zero]
    refine wpAnyH_ready (rs := [24]) (by kernel_rfl) (by simp) ?_
    refine AllReadyH.cons rfl (fun K hK => ?_) AllReadyH.nil
    go_simp
    refine (whCompare m5 xf _ _ _ M5 kk7.2.1 (by omega) (by omega)).mono ?_
    rw [show sg m5.z xf.z = 0 by rw [z5.out, z3.out, z4.out, show xf.z + yf.z + -yf.z = xf.z by omega]; exact sg_self _]
    rintro e ww8 ⟨rfl, bb8⟩
    have bb80 := bb8
    have bb8 := bb7.trans (Below.mono bb8 bb7.size)
    have kk8 := K4.out _ bb8
    go_wp2_with fail
    refine hK.out _ _ ?_ (fun hHeld => ?_)
    · (try dsimp only); exact kk8.1
    clear hK K
    try simp only [Act.put, List.setIfInBounds_toArray, List.set_cons_zero, List.set_cons_succ, List.getElem_toArray, List.getElem_cons_succ, List.getElem_cons_zero]
    refine wpAnyH_take (i := 25) (v := ?_) rfl (by kernel_rfl) (by kernel_rfl) (by kernel_rfl) (fun _ _ _ h => h) (Or.inl ⟨by kernel_rfl, ?_⟩) (by assumption) ?_
    rotate_left 1
    · (intro w hSw; (try dsimp only at hSw); go_simp) <;> (try with_reducible rfl)
    try simp only [Act.put, List.setIfInBounds_toArray, List.set_cons_zero, List.set_cons_succ, List.getElem_toArray, List.getElem_cons_succ, List.getElem_cons_zero]
    refine wpAnyH_take (i := 26) (v := ?_) rfl (by kernel_rfl) (by kernel_rfl) (by kernel_rfl) (fun _ _ _ h => h) (Or.inl ⟨by kernel_rfl, ?_⟩) (by assumption) ?_
    rotate_left 1
    · (intro w hSw; (try dsimp only at hSw); go_simp) <;> (try with_reducible rfl)
    try simp only [Act.put, List.setIfInBounds_toArray, List.set_cons_zero, List.set_cons_succ, List.getElem_toArray, List.getElem_cons_succ, List.getElem_cons_zero]
    refine wpAnyH_take (i := 27) (v := ?_) rfl (by kernel_rfl) (by kernel_rfl) (by kernel_rfl) (fun _ _ _ h => h) (Or.inl ⟨by kernel_rfl, ?_⟩) (by assumption) ?_
    rotate_left 1
    · (intro w hSw; (try dsimp only at hSw); go_simp) <;> (try with_reducible rfl)
    try simp only [Act.put, List.setIfInBounds_toArray, List.set_cons_zero, List.set_cons_succ, List.getElem_toArray, List.getElem_cons_succ, List.getElem_cons_zero]
    refine wpAnyH_take (i := 28) (v := ?_) rfl (by kernel_rfl) (by kernel_rfl) (by kernel_rfl) (fun _ _ _ h => h) (Or.inl ⟨by kernel_rfl, ?_⟩) (by assumption) ?_
    rotate_left 1
    · (intro w hSw; (try dsimp only at hSw); go_simp) <;> (try with_reducible rfl)
    try simp only [Act.put, List.setIfInBounds_toArray, List.set_cons_zero, List.set_cons_succ, List.getElem_toArray, List.getElem_cons_succ, List.getElem_cons_zero]
    refine wpAnyH_take (i := 29) (v := ?_) rfl (by kernel_rfl) (by kernel_rfl) (by kernel_rfl) (fun _ _ _ h => h) (Or.inl ⟨by kernel_rfl, ?_⟩) (by assumption) ?_
    rotate_left 1
    · (intro w hSw; (try dsimp only at hSw); go_simp) <;> (try with_reducible rfl)
    try simp only [Act.put, List.setIfInBounds_toArray, List.set_cons_zero, List.set_cons_succ, List.getElem_toArray, List.getElem_cons_succ, List.getElem_cons_zero]
    refine wpAnyH_take (i := 31) (v := ?_) rfl (by kernel_rfl) (by kernel_rfl) (by kernel_rfl) (fun _ _ _ h => h) (Or.inl ⟨by kernel_rfl, ?_⟩) (by assumption) ?_
    rotate_left 1
    · (intro w hSw; (try dsimp only at hSw); go_simp) <;> (try with_reducible rfl)
    try simp only [Act.put, List.setIfInBounds_toArray, List.set_cons_zero, List.set_cons_succ, List.getElem_toArray, List.getElem_cons_succ, List.getElem_cons_zero]
    refine wpAnyH_take (i := 32) (v := ?_) rfl (by kernel_rfl) (by kernel_rfl) (by kernel_rfl) (fun _ _ _ h => h) (Or.inl ⟨by kernel_rfl, ?_⟩) (by assumption) ?_
    rotate_left 1
    · (intro w hSw; (try dsimp only at hSw); go_simp) <;> (try with_reducible rfl)
    try simp only [Act.put, List.setIfInBounds_toArray, List.set_cons_zero, List.set_cons_succ, List.getElem_toArray, List.getElem_cons_succ, List.getElem_cons_zero]
    refine wpAnyH_take (i := 35) (v := ?_) rfl (by kernel_rfl) (by kernel_rfl) (by kernel_rfl) (fun _ _ _ h => h) (Or.inl ⟨by kernel_rfl, ?_⟩) (by assumption) ?_
    rotate_left 1
    · (intro w hSw; (try dsimp only at hSw); go_simp) <;> (try with_reducible rfl)
    try simp only [Act.put, List.setIfInBounds_toArray, List.set_cons_zero, List.set_cons_succ, List.getElem_toArray, List.getElem_cons_succ, List.getElem_cons_zero]
    refine wpAnyH_take (i := 36) (v := ?_) rfl (by kernel_rfl) (by kernel_rfl) (by kernel_rfl) (fun _ _ _ h => h) (Or.inl ⟨by kernel_rfl, ?_⟩) (by assumption) ?_
    rotate_left 1
    · (intro w hSw; (try dsimp only at hSw); go_simp) <;> (try with_reducible rfl)
    try simp only [Act.put, List.setIfInBounds_toArray, List.set_cons_zero, List.set_cons_succ, List.getElem_toArray, List.getElem_cons_succ, List.getElem_cons_zero]
    refine wpAnyH_ready (rs := [30]) (by kernel_rfl) (by simp) ?_
    refine AllReadyH.cons rfl (fun K hK => ?_) AllReadyH.nil
    go_simp
    refine (sumAdd xf zf _ _ _ kk8.2.1 kk8.2.2.2.1 (by omega) (by omega)).mono ?_
    rintro e ww9 ⟨u6, rfl, ⟨m6, M6, z6, l6⟩, bb9⟩
    have z6 := Lib.hid z6
    have bb90 := bb9
    have bb9 := bb8.trans (Below.mono bb9 bb8.size)
    have kk9 := K4.out _ bb9
    go_wp2_with fail
    refine hK.out _ _ ?_ (fun hHeld => ?_)
    · (try dsimp only); exact kk9.1
    clear hK K
    try simp only [Act.put, List.setIfInBounds_toArray, List.set_cons_zero, List.set_cons_succ, List.getElem_toArray, List.getElem_cons_succ, List.getElem_cons_zero]
    refine wpAnyH_ready (rs := [33]) (by kernel_rfl) (by simp) ?_
    refine AllReadyH.cons rfl (fun K hK => ?_) AllReadyH.nil
    go_simp
    refine (sumAdd yf zf _ _ _ kk9.2.2.1 kk9.2.2.2.1 (by omega) (by omega)).mono ?_
    rintro e ww10 ⟨u7, rfl, ⟨m7, M7, z7, l7⟩, bb10⟩
    have z7 := Lib.hid z7
    have bb100 := bb10
    have bb10 := bb9.trans (Below.mono bb10 bb9.size)
    have kk10 := K4.out _ bb10
    have M6 := M6.frame bb100
    go_wp2_with fail
    refine hK.out _ _ ?_ (fun hHeld => ?_)
    · (try dsimp only); exact kk10.1
    clear hK K
    try simp only [Act.put, List.setIfInBounds_toArray, List.set_cons_zero, List.set_cons_succ, List.getElem_toArray, List.getElem_cons_succ, List.getElem_cons_zero]
    refine wpAnyH_ready (rs := [34]) (by kernel_rfl) (by simp) ?_
    refine AllReadyH.cons rfl (fun K hK => ?_) AllReadyH.nil
    go_simp
    refine (whCompare m6 m7 _ _ _ M6 M7 (by omega) (by omega)).mono ?_
    rw [show sg m6.z m7.z = r by rw [z6.out, z7.out, sg_add]; exact ER.out]
    rintro e ww11 ⟨rfl, bb11⟩
    have bb110 := bb11
    have bb11 := bb10.trans (Below.mono bb11 bb10.size)
    have kk11 := K4.out _ bb11
    go_wp2_with fail
    refine hK.out _ _ ?_ (fun hHeld => ?_)
    · (try dsimp only); exact kk11.1
    clear hK K
    try simp only [Act.put, List.setIfInBounds_toArray, List.set_cons_zero, List.set_cons_succ, List.getElem_toArray, List.getElem_cons_succ, List.getElem_cons_zero]
    refine wpAnyH_ready (rs := [37]) (by kernel_rfl) (by simp) ?_
    refine AllReadyH.cons rfl (fun K hK => ?_) AllReadyH.nil
    go_simp
    refine (whCompare xf yf _ _ _ kk11.2.1 kk11.2.2.1 (by omega) (by omega)).mono ?_
    rw [ER.out]
    rintro e ww12 ⟨rfl, bb12⟩
    have bb120 := bb12
    have bb12 := bb11.trans (Below.mono bb12 bb11.size)
    have kk12 := K4.out _ bb12
    go_wp2_with fail
    refine hK.out _ _ ?_ (fun hHeld => ?_)
    · (try dsimp only); exact kk12.1
    clear hK K
    try simp only [Act.put, List.setIfInBounds_toArray, List.set_cons_zero, List.set_cons_succ, List.getElem_toArray, List.getElem_cons_succ, List.getElem_cons_zero]
    refine wpAnyH_take (i := 38) (v := ?_) rfl (by kernel_rfl) (by kernel_rfl) (by kernel_rfl) (fun _ _ _ h => h) (Or.inl ⟨by kernel_rfl, ?_⟩) (by assumption) ?_
    rotate_left 1
    · (intro w hSw; (try dsimp only at hSw); go_simp) <;> (try with_reducible rfl)
    try simp only [Act.put, List.setIfInBounds_toArray, List.set_cons_zero, List.set_cons_succ, List.getElem_toArray, List.getElem_cons_succ, List.getElem_cons_zero]
    refine wpAnyH_take (i := 39) (v := ?_) rfl (by kernel_rfl) (by kernel_rfl) (by kernel_rfl) (fun _ _ _ h => h) (Or.inl ⟨by kernel_rfl, ?_⟩) (by assumption) ?_
    rotate_left 1
    · (intro w hSw; (try dsimp only at hSw); go_simp) <;> (try with_reducible rfl)
    try simp only [Act.put, List.setIfInBounds_toArray, List.set_cons_zero, List.set_cons_succ, List.getElem_toArray, List.getElem_cons_succ, List.getElem_cons_zero]
    refine wpAnyH_take (i := 40) (v := ?_) rfl (by kernel_rfl) (by kernel_rfl) (by kernel_rfl) (fun _ _ _ h => h) (Or.inl ⟨by kernel_rfl, ?_⟩) (by assumption) ?_
    rotate_left 1
    · (intro w hSw; (try dsimp only at hSw); go_simp) <;> (try with_reducible rfl)
    try simp only [Act.put, List.setIfInBounds_toArray, List.set_cons_zero, List.set_cons_succ, List.getElem_toArray, List.getElem_cons_succ, List.getElem_cons_zero]
    refine wpAnyH_take (i := 41) (v := ?_) rfl (by kernel_rfl) (by kernel_rfl) (by kernel_rfl) (fun _ _ _ h => h) (Or.inl ⟨by kernel_rfl, ?_⟩) (by assumption) ?_
    rotate_left 1
    · (intro w hSw; (try dsimp only at hSw); go_simp) <;> (try with_reducible rfl)
    try simp only [Act.put, List.setIfInBounds_toArray, List.set_cons_zero, List.set_cons_succ, List.getElem_toArray, List.getElem_cons_succ, List.getElem_cons_zero]
    refine wpAnyH_take (i := 42) (v := ?_) rfl (by kernel_rfl) (by kernel_rfl) (by kernel_rfl) (fun _ _ _ h => h) (Or.inl ⟨by kernel_rfl, ?_⟩) (by assumption) ?_
    rotate_left 1
    · (intro w hSw; (try dsimp only at hSw); go_simp) <;> (try with_reducible rfl)
    try simp only [Act.put, List.setIfInBounds_toArray, List.set_cons_zero, List.set_cons_succ, List.getElem_toArray, List.getElem_cons_succ, List.getElem_cons_zero]
    refine wpAnyH_take (i := 44) (v := ?_) rfl (by kernel_rfl) (by kernel_rfl) (by kernel_rfl) (fun _ _ _ h => h) (Or.inl ⟨by kernel_rfl, ?_⟩) (by assumption) ?_
    rotate_left 1
    · (intro w hSw; (try dsimp only at hSw); go_simp) <;> (try with_reducible rfl)
    try simp only [Act.put, List.setIfInBounds_toArray, List.set_cons_zero, List.set_cons_succ, List.getElem_toArray, List.getElem_cons_succ, List.getElem_cons_zero]
    refine wpAnyH_take (i := 45) (v := ?_) rfl (by kernel_rfl) (by kernel_rfl) (by kernel_rfl) (fun _ _ _ h => h) (Or.inl ⟨by kernel_rfl, ?_⟩) (by assumption) ?_
    rotate_left 1
    · (intro w hSw; (try dsimp only at hSw); go_simp) <;> (try with_reducible rfl)
    try simp only [Act.put, List.setIfInBounds_toArray, List.set_cons_zero, List.set_cons_succ, List.getElem_toArray, List.getElem_cons_succ, List.getElem_cons_zero]
    refine wpAnyH_ready (rs := [43]) (by kernel_rfl) (by simp) ?_
    refine AllReadyH.cons rfl (fun K hK => ?_) AllReadyH.nil
    go_simp
    refine (whCompare yf xf _ _ _ kk12.2.2.1 kk12.2.1 (by omega) (by omega)).mono ?_
    rw [show sg yf.z xf.z = -r by rw [sg_turn, ER.out]]
    rintro e ww13 ⟨rfl, bb13⟩
    have bb130 := bb13
    have bb13 := bb12.trans (Below.mono bb13 bb12.size)
    have kk13 := K4.out _ bb13
    go_wp2_with fail
    refine hK.out _ _ ?_ (fun hHeld => ?_)
    · (try dsimp only); exact kk13.1
    clear hK K
    try simp only [Act.put, List.setIfInBounds_toArray, List.set_cons_zero, List.set_cons_succ, List.getElem_toArray, List.getElem_cons_succ, List.getElem_cons_zero]
    refine wpAnyH_ready (rs := [46]) (by kernel_rfl) (by simp) ?_
    refine AllReadyH.cons rfl (fun K hK => ?_) AllReadyH.nil
    go_simp
    refine (whCompare xf yf _ _ _ kk13.2.1 kk13.2.2.1 (by omega) (by omega)).mono ?_
    rw [ER.out]
    rintro e ww14 ⟨rfl, bb14⟩
    have bb140 := bb14
    have bb14 := bb13.trans (Below.mono bb14 bb13.size)
    have kk14 := K4.out _ bb14
    go_wp2_with fail
    refine hK.out _ _ ?_ (fun hHeld => ?_)
    · (try dsimp only); exact kk14.1
    clear hK K
    try simp only [Act.put, List.setIfInBounds_toArray, List.set_cons_zero, List.set_cons_succ, List.getElem_toArray, List.getElem_cons_succ, List.getElem_cons_zero]
    refine wpAnyH_take (i := 47) (v := ?_) rfl (by kernel_rfl) (by kernel_rfl) (by kernel_rfl) (fun _ _ _ h => h) (Or.inl ⟨by kernel_rfl, ?_⟩) (by assumption) ?_
    rotate_left 1
    · (intro w hSw; (try dsimp only at hSw); go_simp) <;> (try with_reducible rfl)
    try simp only [Act.put, List.setIfInBounds_toArray, List.set_cons_zero, List.set_cons_succ, List.getElem_toArray, List.getElem_cons_succ, List.getElem_cons_zero]
    refine wpAnyH_take (i := 48) (v := ?_) rfl (by kernel_rfl) (by kernel_rfl) (by kernel_rfl) (fun _ _ _ h => h) (Or.inl ⟨by kernel_rfl, ?_⟩) (by assumption) ?_
    rotate_left 1
    · (intro w hSw; (try dsimp only at hSw); go_simp) <;> (try with_reducible rfl)
    try simp only [Act.put, List.setIfInBounds_toArray, List.set_cons_zero, List.set_cons_succ, List.getElem_toArray, List.getElem_cons_succ, List.getElem_cons_zero]
    refine wpAnyH_take (i := 49) (v := ?_) rfl (by kernel_rfl) (by kernel_rfl) (by kernel_rfl) (fun _ _ _ h => h) (Or.inl ⟨by kernel_rfl, ?_⟩) (by assumption) ?_
    rotate_left 1
    · (intro w hSw; (try dsimp only at hSw); go_simp) <;> (try with_reducible rfl)
    try simp only [Act.put, List.setIfInBounds_toArray, List.set_cons_zero, List.set_cons_succ, List.getElem_toArray, List.getElem_cons_succ, List.getElem_cons_zero]
    refine wpAnyH_take (i := 50) (v := ?_) rfl (by kernel_rfl) (by kernel_rfl) (by kernel_rfl) (fun _ _ _ h => h) (Or.inl ⟨by kernel_rfl, ?_⟩) (by assumption) ?_
    rotate_left 1
    · (intro w hSw; (try dsimp only at hSw); go_simp) <;> (try with_reducible rfl)
    try simp only [Act.put, List.setIfInBounds_toArray, List.set_cons_zero, List.set_cons_succ, List.getElem_toArray, List.getElem_cons_succ, List.getElem_cons_zero]
    refine wpAnyH_done (by kernel_rfl) ?_ _
    go_wp2
    go_ret
    exact ⟨rfl, kk14.2.2.2.2.2.2.2⟩

end Go.Proofs.YtbjiknfebocepaaDoor
