/-
  The reference's sums and spans, one by one.
-/
import Derived.Test.YtlmmoinmlcpmnaaSa
import Derived.Test.YtlmmoinmlcpmnaaVal
namespace Go.Proofs.Ytlmmoinmlcpmnaa
open Go.RowKit
set_option linter.unusedVariables false
set_option linter.unusedSimpArgs false
set_option maxRecDepth 4000

theorem below_set {B : Nat} {w W : World} (hB : Below B w W) (hs : B ≤ W.heap.size) {R : Nat} (hR : B ≤ R) (i : Nat) (x : Value) : Below B w (W.setCell ⟨R, i, none⟩ x) :=
  Only.below ((Only.refl R W).setCell rfl x) hB hR hs
theorem Blk.two {w : World} {g : Nat} {t : TypeId} {a b : Value} (h : Blk w g t [a, b]) : (w.cell? ⟨g, 0, none⟩ = some a ∧ w.cell? ⟨g, 1, none⟩ = some b) ∧ w.frozen? ⟨g, 0, none⟩ = false ∧ w.frozen? ⟨g, 1, none⟩ = false :=
  ⟨⟨h.cell 0, h.cell 1⟩, h.free 0, h.free 1⟩
theorem Blk.put {w : World} {g : Nat} {t : TypeId} {a b : Value} (h : Blk w g t [a, b]) (x y : Value) : Blk ((w.setCell ⟨g, 0, none⟩ x).setCell ⟨g, 1, none⟩ y) g t [x, y] := (h.set 0 x).set 1 y

theorem Blk.fst (w : World) (a b : Value) (t : TypeId) : Blk (w.alloc (.cells #[a, b] t)) w.heap.size t [a, b] := Blk.new w [a, b] t
theorem Blk.snd (w : World) (o : Obj) (a b : Value) (t : TypeId) : Blk ((w.alloc o).alloc (.cells #[a, b] t)) (w.heap.size + 1) t [a, b] := by
  have := Blk.new (w.alloc o) [a, b] t
  simpa using this
theorem Blk.trd (w : World) (o o' : Obj) (a b : Value) (t : TypeId) : Blk (((w.alloc o).alloc o').alloc (.cells #[a, b] t)) (w.heap.size + 1 + 1) t [a, b] := by
  have := Blk.new ((w.alloc o).alloc o') [a, b] t
  simpa using this
/-- A struct of two cells is handed back. -/
theorem ret2 {P : Program} {fn : Func} {R : Ending → World → Prop} {a : Act} {W : World} {slot : Tmp} {t : TypeId} {g : Nat} {x y : Value} (hres : fn.results = #[.cell slot t])
    (hL : ∀ w : World, w.cell? ⟨g, 0, none⟩ = some x → w.cell? ⟨g, 1, none⟩ = some y → (loadVar t ⟨g, 0, none⟩).run P w = .ok (.agg #[x, y]) w)
    (hs : a.tmps.getD slot undef = .pointer (some ⟨g, 0, none⟩)) (hd : a.defers = []) (hB : Blk W g t [x, y]) (hR : R (.returned (.agg #[x, y])) W) : bodyPost P fn R .ret a W := by
  have h := hL W (hB.cell 0) (hB.cell 1)
  refine bodyPost_ret (v := .agg #[x, y]) ?_ hd hR
  rw [Array.getD_eq_getD_getElem?] at hs
  simp [results, hres, hs, h, asAddr]
theorem loadWide (g : Nat) (x y : Value) (w : World) (h0 : w.cell? ⟨g, 0, none⟩ = some x) (h1 : w.cell? ⟨g, 1, none⟩ = some y) : (loadVar 59 ⟨g, 0, none⟩).run Try.prog w = .ok (.agg #[x, y]) w := by
  go_simp
theorem loadR (g : Nat) (x y : Value) (w : World) (h0 : w.cell? ⟨g, 0, none⟩ = some x) (h1 : w.cell? ⟨g, 1, none⟩ = some y) : (loadVar 30 ⟨g, 0, none⟩).run Try.prog w = .ok (.agg #[x, y]) w := by
  go_simp
theorem loadS (g : Nat) (x y : Value) (w : World) (h0 : w.cell? ⟨g, 0, none⟩ = some x) (h1 : w.cell? ⟨g, 1, none⟩ = some y) : (loadVar 31 ⟨g, 0, none⟩).run Try.prog w = .ok (.agg #[x, y]) w := by
  go_simp

set_option maxHeartbeats 800000 in
theorem rfOf (n : Int) (w : World) (h0 : 0 ≤ n) (h1 : n ≤ 9223372036854775807) :
    Calls Try.prog 60 #[.int .i64 n] w fun e w' => e = .returned (.agg #[.int .i64 (n / 4294967296), .int .i64 (n % 4294967296)]) ∧ Below w.heap.size w w' := by
  have d : n.tmod 4294967296 = n % 4294967296 := Int.tmod_eq_emod_of_nonneg h0
  have d2 : (n - n % 4294967296).tdiv 4294967296 = n / 4294967296 := by rw [Int.tdiv_eq_ediv_of_nonneg (by omega)]; omega
  go_enter Try.func60, Try.ntmps60
  go_wp2
  refine bodyPost_ret (v := .agg #[.int .i64 (n / 4294967296), .int .i64 (n % 4294967296)]) (by simp [results, Try.results60, go_sem]) rfl ?_
  exact ⟨rfl, below_alloc1 _ _⟩

/-- A world in which a block of two cells was made, and what came then. -/
theorem two_late {w w1 : World} {t : TypeId} {a b : Value} (h : Below (w.alloc (.cells #[a, b] t)).heap.size (w.alloc (.cells #[a, b] t)) w1) :
    Blk w1 w.heap.size t [a, b] ∧ Below w.heap.size w w1 ∧ w.heap.size < w1.heap.size := by
  have h0 : Blk (w.alloc (.cells #[a, b] t)) w.heap.size t [a, b] := Blk.new w [a, b] t
  refine ⟨h0.below h, (below_alloc1 w _).trans (h.mono (by simp)), ?_⟩
  have := h.size
  simp at this; omega

set_option maxHeartbeats 800000 in
theorem rfWide (n : Int) (w : World) (hn : I64 n) :
    Calls Try.prog 39 #[.int .i64 n] w fun e w' => e = .returned (.agg #[.int .i64 (n / 4294967296), .int .i64 (n % 4294967296)]) ∧ Below w.heap.size w w' := by
  obtain ⟨h0, h1⟩ := hn
  have HO := Lib.hid (fun m W => rfOf m W)
  go_enter Try.func39, Try.ntmps39
  by_cases g : n < 0
  · go_wp2_with fail
    refine (HO.out _ _ (by omega) (by omega)).mono ?_
    rintro e w1 ⟨rfl, hb⟩
    obtain ⟨hB, hb2, hlt⟩ := two_late hb
    have HB := Lib.hid hb2
    have e1 : Hid (-((-(n + 1)) / 4294967296) - 1 = n / 4294967296) := by unfold Hid; omega
    have e2 : Hid (4294967295 - (-(n + 1)) % 4294967296 = n % 4294967296) := by unfold Hid; omega
    have HR : Hid (∀ x y : Int, x = n / 4294967296 → y = n % 4294967296 → Ending.returned (.agg #[.int .i64 x, .int .i64 y]) = Ending.returned (.agg #[.int .i64 (n / 4294967296), .int .i64 (n % 4294967296)])) := by
      rintro x y rfl rfl; rfl
    have b1 : 0 ≤ (-(n + 1)) / 4294967296 := by omega
    have b2 : (-(n + 1)) / 4294967296 ≤ 2147483648 := by omega
    have b3 : 0 ≤ (-(n + 1)) % 4294967296 := by omega
    have b4 : (-(n + 1)) % 4294967296 ≤ 4294967295 := by omega
    have HL := Lib.hid hlt
    have HBK := Lib.hid hB
    clear hb h0 h1 g hB hb2 hlt
    generalize (-(n + 1)) / 4294967296 = x at *
    generalize (-(n + 1)) % 4294967296 = y at *
    obtain ⟨⟨z0, z1⟩, z2, z3⟩ := ((HBK.out.alloc (.cells #[.int .i64 x, .int .i64 y] 59)).alloc (.cells #[.int .i64 (-x - 1), .int .i64 (4294967295 - y)] 59)).two
    go_wp2
    refine ret2 Try.results39 (loadWide _ _ _) rfl rfl (((HBK.out.alloc _).alloc _).put _ _) ?_
    refine ⟨HR.out _ _ e1.out e2.out, below_set (below_set ((HB.out.alloc ?_ _).alloc ?_ _) ?_ (Nat.le_refl _) _ _) ?_ (Nat.le_refl _) _ _⟩
    all_goals have := HL.out; simp [World.setCell]; try omega
  · go_wp2_with fail
    refine (HO.out _ _ (by omega) (by omega)).mono ?_
    rintro e w1 ⟨rfl, hb⟩
    obtain ⟨hB, hb2, hlt⟩ := two_late hb
    have HB := Lib.hid hb2
    have HL := Lib.hid hlt
    have HBK := Lib.hid hB
    obtain ⟨⟨z0, z1⟩, z2, z3⟩ := hB.two
    clear hb h0 h1 g hB hb2 hlt
    go_wp2
    refine ret2 Try.results39 (loadWide _ _ _) rfl rfl (HBK.out.put _ _) ?_
    refine ⟨rfl, below_set (below_set HB.out ?_ (Nat.le_refl _) _ _) ?_ (Nat.le_refl _) _ _⟩
    all_goals have := HL.out; simp [World.setCell]; try omega

set_option maxHeartbeats 800000 in
theorem rfBack (hi lo : Int) (w : World) (h1 : -4294967297 ≤ hi) (h2 : hi ≤ 4294967297) (h3 : 0 ≤ lo) (h4 : lo < 4294967296) :
    Calls Try.prog 40 #[.int .i64 hi, .int .i64 lo] w fun e w' => e = .returned (.int .i64 (sat (hi * 4294967296 + lo))) ∧ w' = w := by
  have fin : Hid (∀ q : Int, q = sat (hi * 4294967296 + lo) → Ending.returned (.int .i64 q) = .returned (.int .i64 (sat (hi * 4294967296 + lo)))) := by rintro q rfl; rfl
  go_enter Try.func40, Try.ntmps40
  by_cases g1 : 2147483648 ≤ hi
  · have hF : Hid (9223372036854775807 = sat (hi * 4294967296 + lo)) := by unfold Hid sat; (repeat' split) <;> omega
    go_wp2
    go_ret
    exact ⟨fin.out _ hF.out, rfl⟩
  · by_cases g2 : hi < -2147483648
    · have hF : Hid (-9223372036854775808 = sat (hi * 4294967296 + lo)) := by unfold Hid sat; (repeat' split) <;> omega
      go_wp2
      go_ret
      exact ⟨fin.out _ hF.out, rfl⟩
    · have hF : Hid (hi * 4294967296 + lo = sat (hi * 4294967296 + lo)) := by unfold Hid sat; (repeat' split) <;> omega
      have e1 : IntKind.i64.wrap (hi * 4294967296) = hi * 4294967296 := by simp [IntKind.wrap, IntKind.bits, IntKind.signed]; omega
      go_wp2
      go_ret
      exact ⟨fin.out _ hF.out, rfl⟩

/-- Below, behind an alloc and a call. -/
theorem bcall {B : Nat} {w W W' : World} (h : Below B w W) (hB : B ≤ W.heap.size) (k : Below W.heap.size W W') : Below B w W' := bstep h k hB

set_option maxHeartbeats 1600000 in
theorem rfPlus (a b : Int) (w : World) (ha : I64 a) (hb : I64 b) :
    Calls Try.prog 9 #[.int .i64 a, .int .i64 b] w fun e w' => e = .returned (.int .i64 (pls a b)) ∧ Below w.heap.size w w' := by
  have HW := Lib.hid (fun m W => rfWide m W)
  have HK := Lib.hid (fun x y W => rfBack x y W)
  have HA := Lib.hid ha
  have HB := Lib.hid hb
  have EA : Hid (a / 4294967296 * 4294967296 + a % 4294967296 = a) := by unfold Hid; omega
  have EB : Hid (b / 4294967296 * 4294967296 + b % 4294967296 = b) := by unfold Hid; omega
  obtain ⟨ha1, ha2⟩ := ha
  obtain ⟨hb1, hb2⟩ := hb
  have a1 : -2147483648 ≤ a / 4294967296 := by omega
  have a2 : a / 4294967296 < 2147483648 := by omega
  have a3 : 0 ≤ a % 4294967296 := by omega
  have a4 : a % 4294967296 < 4294967296 := by omega
  have b1 : -2147483648 ≤ b / 4294967296 := by omega
  have b2 : b / 4294967296 < 2147483648 := by omega
  have b3 : 0 ≤ b % 4294967296 := by omega
  have b4 : b % 4294967296 < 4294967296 := by omega
  clear ha1 ha2 hb1 hb2
  go_enter Try.func9, Try.ntmps9
  go_wp2_with fail
  refine (HW.out _ _ HA.out).mono ?_
  rintro e w1 ⟨rfl, hb⟩
  have B1 := Lib.hid hb
  clear hb
  go_wp2_with fail
  refine (HW.out _ _ HB.out).mono ?_
  rintro e w2 ⟨rfl, hb⟩
  have B2 := Lib.hid (bstep B1.out hb B1.out.size)
  have L2 : Hid (w.heap.size ≤ w2.heap.size) := B2.out.size
  clear hb B1 HA HB HW
  generalize a / 4294967296 = xa at *
  generalize a % 4294967296 = ya at *
  generalize b / 4294967296 = xb at *
  generalize b % 4294967296 = yb at *
  have K1 := (Blk.new w2 [.int .i64 xa, .int .i64 ya] 59).alloc (.cells #[.int .i64 xb, .int .i64 yb] 59)
  obtain ⟨⟨p0, p1⟩, _, _⟩ := K1.two
  have K2 := Blk.new (w2.alloc (.cells #[.int .i64 xa, .int .i64 ya] 59)) [.int .i64 xb, .int .i64 yb] 59
  obtain ⟨⟨q0, q1⟩, _, _⟩ := K2.two
  have B3 : Hid (∀ n, Below w.heap.size w (((w2.alloc (.cells #[.int .i64 xa, .int .i64 ya] 59)).alloc (.cells #[.int .i64 xb, .int .i64 yb] 59)).drewN n)) := fun n => below_drewN ((B2.out.alloc L2.out _).alloc (by have := L2.out; simp; omega) _) n
  have fin : Hid (∀ x y : Int, x * 4294967296 + y = a + b → Ending.returned (.int .i64 (sat (x * 4294967296 + y))) = .returned (.int .i64 (pls a b))) := by
    intro x y h; unfold pls; rw [h]
  clear K1 K2
  by_cases g : 4294967296 ≤ ya + yb
  · go_wp2
    go_quiet (fail)
    go_wp2_with fail
    refine (HK.out _ _ _ (by omega) (by omega) (by omega) (by omega)).mono ?_
    rintro e w3 ⟨rfl, rfl⟩
    go_wp2
    go_ret
    exact ⟨fin.out _ _ (by have := EA.out; have := EB.out; omega), B3.out _⟩
  · go_wp2
    go_quiet (fail)
    go_wp2_with fail
    refine (HK.out _ _ _ (by omega) (by omega) (by omega) (by omega)).mono ?_
    rintro e w3 ⟨rfl, rfl⟩
    go_wp2
    go_ret
    exact ⟨fin.out _ _ (by have := EA.out; have := EB.out; omega), B3.out _⟩
set_option maxHeartbeats 1600000 in
theorem rfMinus (a b : Int) (w : World) (ha : I64 a) (hb : I64 b) :
    Calls Try.prog 13 #[.int .i64 a, .int .i64 b] w fun e w' => e = .returned (.int .i64 (mns a b)) ∧ Below w.heap.size w w' := by
  have HW := Lib.hid (fun m W => rfWide m W)
  have HK := Lib.hid (fun x y W => rfBack x y W)
  have HA := Lib.hid ha
  have HB := Lib.hid hb
  have EA : Hid (a / 4294967296 * 4294967296 + a % 4294967296 = a) := by unfold Hid; omega
  have EB : Hid (b / 4294967296 * 4294967296 + b % 4294967296 = b) := by unfold Hid; omega
  obtain ⟨ha1, ha2⟩ := ha
  obtain ⟨hb1, hb2⟩ := hb
  have a1 : -2147483648 ≤ a / 4294967296 := by omega
  have a2 : a / 4294967296 < 2147483648 := by omega
  have a3 : 0 ≤ a % 4294967296 := by omega
  have a4 : a % 4294967296 < 4294967296 := by omega
  have b1 : -2147483648 ≤ b / 4294967296 := by omega
  have b2 : b / 4294967296 < 2147483648 := by omega
  have b3 : 0 ≤ b % 4294967296 := by omega
  have b4 : b % 4294967296 < 4294967296 := by omega
  clear ha1 ha2 hb1 hb2
  go_enter Try.func13, Try.ntmps13
  go_wp2_with fail
  refine (HW.out _ _ HA.out).mono ?_
  rintro e w1 ⟨rfl, hb⟩
  have B1 := Lib.hid hb
  clear hb
  go_wp2_with fail
  refine (HW.out _ _ HB.out).mono ?_
  rintro e w2 ⟨rfl, hb⟩
  have B2 := Lib.hid (bstep B1.out hb B1.out.size)
  have L2 : Hid (w.heap.size ≤ w2.heap.size) := B2.out.size
  clear hb B1 HA HB HW
  generalize a / 4294967296 = xa at *
  generalize a % 4294967296 = ya at *
  generalize b / 4294967296 = xb at *
  generalize b % 4294967296 = yb at *
  have K1 := (Blk.new w2 [.int .i64 xa, .int .i64 ya] 59).alloc (.cells #[.int .i64 xb, .int .i64 yb] 59)
  obtain ⟨⟨p0, p1⟩, _, _⟩ := K1.two
  have K2 := Blk.new (w2.alloc (.cells #[.int .i64 xa, .int .i64 ya] 59)) [.int .i64 xb, .int .i64 yb] 59
  obtain ⟨⟨q0, q1⟩, _, _⟩ := K2.two
  have B3 : Hid (∀ n, Below w.heap.size w (((w2.alloc (.cells #[.int .i64 xa, .int .i64 ya] 59)).alloc (.cells #[.int .i64 xb, .int .i64 yb] 59)).drewN n)) := fun n => below_drewN ((B2.out.alloc L2.out _).alloc (by have := L2.out; simp; omega) _) n
  have fin : Hid (∀ x y : Int, x * 4294967296 + y = a - b → Ending.returned (.int .i64 (sat (x * 4294967296 + y))) = .returned (.int .i64 (mns a b))) := by
    intro x y h; unfold mns; rw [h]
  clear K1 K2
  by_cases g : ya - yb < 0
  · go_wp2
    go_quiet (fail)
    go_wp2_with fail
    refine (HK.out _ _ _ (by omega) (by omega) (by omega) (by omega)).mono ?_
    rintro e w3 ⟨rfl, rfl⟩
    go_wp2
    go_ret
    exact ⟨fin.out _ _ (by have := EA.out; have := EB.out; omega), B3.out _⟩
  · go_wp2
    go_quiet (fail)
    go_wp2_with fail
    refine (HK.out _ _ _ (by omega) (by omega) (by omega) (by omega)).mono ?_
    rintro e w3 ⟨rfl, rfl⟩
    go_wp2
    go_ret
    exact ⟨fin.out _ _ (by have := EA.out; have := EB.out; omega), B3.out _⟩

set_option maxHeartbeats 800000 in
theorem rfEmpty (a b : Int) (w : World) :
    Calls Try.prog 17 #[.agg #[.int .i64 a, .int .i64 b]] w fun e w' => e = .returned (.bool (decide (b < a))) ∧ Below w.heap.size w w' := by
  go_enter Try.func17, Try.ntmps17
  go_wp2
  go_ret
  exact ⟨rfl, below_alloc1 _ _⟩

set_option maxHeartbeats 800000 in
theorem rfIn (a b t : Int) (w : World) :
    Calls Try.prog 19 #[.agg #[.int .i64 a, .int .i64 b], .int .i64 t] w fun e w' => e = .returned (.bool (decide (Inn (a, b) t))) ∧ Below w.heap.size w w' := by
  have fin : Hid (∀ q : Bool, (q = true ↔ Inn (a, b) t) → Ending.returned (.bool q) = .returned (.bool (decide (Inn (a, b) t)))) := by
    intro q hq; congr 2; by_cases h : Inn (a, b) t <;> simp_all
  go_enter Try.func19, Try.ntmps19
  by_cases g : a ≤ t
  · go_wp2
    go_ret
    exact ⟨fin.out _ (by unfold Inn; simp; omega), below_alloc1 _ _⟩
  · have g' : decide (a ≤ t) = false := by simpa using g
    go_wp2
    go_ret
    exact ⟨fin.out _ (by unfold Inn; simp; omega), below_alloc1 _ _⟩

set_option maxHeartbeats 800000 in
theorem rfRight (a b : Int) (w : World) :
    Calls Try.prog 18 #[.agg #[.int .i64 a, .int .i64 b]] w fun e w' => e = .returned (.agg #[.int .i64 (canon (a, b)).1, .int .i64 (canon (a, b)).2]) ∧ Below w.heap.size w w' := by
  have fin : Hid (∀ x y : Int, canon (a, b) = (x, y) → Ending.returned (.agg #[.int .i64 x, .int .i64 y]) = .returned (.agg #[.int .i64 (canon (a, b)).1, .int .i64 (canon (a, b)).2])) := by
    rintro x y h; rw [h]
  go_enter Try.func18, Try.ntmps18
  by_cases g : b < a
  · have hF : Hid (canon (a, b) = (1, 0)) := by unfold Hid canon; rw [if_pos g]
    go_wp2
    refine ret2 Try.results18 (loadR _ _ _) rfl rfl (Blk.snd _ _ _ _ _) ?_
    exact ⟨fin.out _ _ hF.out, below_alloc2 _ _ _⟩
  · have hF : Hid (canon (a, b) = (a, b)) := by unfold Hid canon; rw [if_neg g]
    have g' : decide (b < a) = false := by simpa using g
    go_wp2
    refine ret2 Try.results18 (loadR _ _ _) rfl rfl (Blk.snd _ _ _ _ _) ?_
    exact ⟨fin.out _ _ hF.out, below_alloc2 _ _ _⟩

set_option maxHeartbeats 800000 in
theorem lwTo (a b : Int) (w : World) :
    Calls Try.prog 16 #[.agg #[.int .i64 a, .int .i64 b]] w fun e w' => e = .returned (.agg #[.int .i64 a, .int .i64 b]) ∧ Below w.heap.size w w' := by
  go_enter Try.func16, Try.ntmps16
  go_wp2
  refine ret2 Try.results16 (loadS _ _ _) rfl rfl (Blk.snd _ _ _ _ _) ?_
  exact ⟨rfl, below_alloc2 _ _ _⟩

set_option maxHeartbeats 800000 in
theorem lwOf (a b : Int) (w : World) :
    Calls Try.prog 23 #[.agg #[.int .i64 a, .int .i64 b]] w fun e w' => e = .returned (.agg #[.int .i64 a, .int .i64 b]) ∧ Below w.heap.size w w' := by
  go_enter Try.func23, Try.ntmps23
  go_wp2
  refine ret2 Try.results23 (loadR _ _ _) rfl rfl (Blk.snd _ _ _ _ _) ?_
  exact ⟨rfl, below_alloc2 _ _ _⟩
end Go.Proofs.Ytlmmoinmlcpmnaa
