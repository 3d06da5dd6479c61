/-
  The contracts of the project's bits: mask, Right, Len, Has.
-/
import Derived.Test.YtjcddbcokiaehaaBt
import Derived.Test.YtjcddbcokiaehaaJoin
import Derived.Test.YtjcddbcokiaehaaTag
import Derived.Deep.RegionHeld3
import Derived.Deep.RegionWith
namespace Go.Proofs.Ytjcddbcokiaehaa
open Go.RowKit
set_option linter.unusedVariables false
set_option linter.unusedSimpArgs false
set_option maxRecDepth 4000

/-- The byte in which bit t alone is 1. -/
def mk8 (t : Nat) : Int := 2 ^ (7 - t)

set_option maxHeartbeats 800000 in
theorem btMask (i : Nat) (x : Int) (w : World) (hx : x = (i : Int)) (hi : i ≤ 1099511627776) :
    Calls Try.prog 46 #[.int .i64 x] w fun e w' => e = .returned (.int .u8 (mk8 (i % 8))) ∧ w' = w := by
  have h0 : 0 ≤ x := by omega
  have h1 : x ≤ 1099511627776 := by omega
  have hm : x % 8 = ((i % 8 : Nat) : Int) := by omega
  have hlt : i % 8 < 8 := Nat.mod_lt _ (by omega)
  generalize i % 8 = t at *
  clear hx
  rcases t8 hlt with rfl | rfl | rfl | rfl | rfl | rfl | rfl | rfl
  all_goals
    simp only [Int.ofNat_zero, Int.cast_ofNat_Int, Int.ofNat_one] at hm
    go_enter Try.func46, Try.ntmps46
    go_wp2
    go_ret
    exact ⟨rfl, rfl⟩

/-- A string in a block of the call's own. -/
def Own2 (W : World) (R : Nat) (a b : Value) : Prop :=
  W.cell? ⟨R, 0, none⟩ = some a ∧ W.cell? ⟨R, 1, none⟩ = some b ∧ W.frozen? ⟨R, 0, none⟩ = false ∧ W.frozen? ⟨R, 1, none⟩ = false
theorem Own2.new (w : World) (a b : Value) (t : TypeId) : Own2 (w.alloc (.cells #[a, b] t)) w.heap.size a b := by
  have hb := heap_alloc_new w (.cells #[a, b] t)
  exact ⟨by rw [blk_cell hb]; rfl, by rw [blk_cell hb]; rfl, blk_frozen hb _, blk_frozen hb _⟩
theorem Own2.below {W W' : World} {R : Nat} {a b : Value} (h : Own2 W R a b) (hb : Below W.heap.size W W') : Own2 W' R a b := by
  obtain ⟨h0, h1, f0, f1⟩ := h
  have keep : ∀ {p : Addr} {v : Value}, W.cell? p = some v → W'.cell? p = some v := fun hp => (hb.cell (World.block_lt_of_cell? W _ hp)).trans hp
  have keepf : ∀ {p : Addr} {v : Value}, W.cell? p = some v → W'.frozen? p = W.frozen? p := fun hp => hb.frozen (World.block_lt_of_cell? W _ hp)
  exact ⟨keep h0, keep h1, (keepf h0).trans f0, (keepf h1).trans f1⟩

theorem ret_mod {z m : Int} {a k : Nat} (hz : z = (a : Int)) (hm : m = (k : Int)) : Ending.returned (.bool (z % m == 0)) = .returned (.bool (a % k == 0)) := by
  subst hz hm
  have : ((a : Int) % (k : Int) == 0) = (a % k == 0) := by
    rw [← Int.natCast_emod]
    by_cases h : a % k = 0
    · rw [h]; rfl
    · have h' : ¬ ((a % k : Nat) : Int) = 0 := by omega
      rw [beq_eq_false_iff_ne.2 h, beq_eq_false_iff_ne.2 h']
  rw [this]

set_option maxHeartbeats 1600000 in
theorem btRight (u : Int) (A : Option Addr) (n c : Nat) (l : List UInt8) (w : World) (h : Bs w A n l) (hn : n ≤ 1099511627776) :
    Calls Try.prog 14 #[.agg #[.int .i64 u, .slice A n c]] w fun e w' => e = .returned (.bool (rightS u l)) ∧ Below w.heap.size w w' := by
  have hl := Lib.hid h.len
  by_cases h0 : n = 0
  · subst h0
    have hr := Lib.hid (rightS_nil (u := u) hl.out)
    go_enter Try.func14, Try.ntmps14
    go_wp2
    go_ret
    exact ⟨by rw [hr.out]; rfl, below_alloc1 _ _⟩
  · have hr := Lib.hid (rightS_cons (u := u) (l := l) (by rw [hl.out]; exact h0))
    have g0 : 0 < n := by omega
    have e0 : ((n : Int) == 0) = false := by simp; omega
    by_cases h1 : u < 0
    · have hF : Hid (rightS u l = false) := by unfold Hid; rw [hr.out]; simp; omega
      have d1 : decide (u < 0) = true := by simpa using h1
      go_enter Try.func14, Try.ntmps14
      go_wp2
      go_ret
      exact ⟨by rw [hF.out]; rfl, below_alloc1 _ _⟩
    · by_cases h2 : 8 ≤ u
      · have hF : Hid (rightS u l = false) := by unfold Hid; rw [hr.out]; simp; omega
        have d1 : decide (u < 0) = false := by simpa using h1
        have d2 : decide (8 ≤ u) = true := by simpa using h2
        go_enter Try.func14, Try.ntmps14
        go_wp2
        go_ret
        exact ⟨by rw [hF.out]; rfl, below_alloc1 _ _⟩
      · have d1 : decide (u < 0) = false := by simpa using h1
        have d2 : decide (8 ≤ u) = false := by simpa using h2
        have hF : Hid (rightS u l = (lastN l % 2 ^ u.toNat == 0)) := by
          unfold Hid; rw [hr.out, decide_eq_true (show 0 ≤ u by omega), decide_eq_true (show u < 8 by omega)]; simp
        have hz : Hid (nth l (n - 1) = (lastN l : Int)) := by unfold Hid; rw [nth_nthN]; unfold lastN; rw [hl.out]
        have hbd := nth_bound l (n - 1)
        have hu : u = 0 ∨ u = 1 ∨ u = 2 ∨ u = 3 ∨ u = 4 ∨ u = 5 ∨ u = 6 ∨ u = 7 := by omega
        have hb1 := h.below (below_alloc1 w (.cells #[.int .i64 u, .slice A n c] 25))
        clear h1 h2 hr h
        rcases hu with rfl | rfl | rfl | rfl | rfl | rfl | rfl | rfl
        all_goals
          obtain ⟨b, o, rfl, hc⟩ := hb1.at_ (k := n - 1) (by omega)
          clear hb1
          go_enter Try.func14, Try.ntmps14
          go_wp2
          go_ret
          refine ⟨?_, below_alloc1 _ _⟩
          rw [hF.out]
          first | exact ret_mod hz.out rfl | (simp [Nat.mod_one])

set_option maxHeartbeats 1600000 in
theorem btLenYes (u : Int) (A : Option Addr) (n c : Nat) (l : List UInt8) (w : World) (h : Bs w A n l) (hn : n ≤ 1099511627776) (hr : rightS u l = true) :
    Calls Try.prog 16 #[.agg #[.int .i64 u, .slice A n c]] w fun e w' => e = .returned (.int .i64 (lenS u l : Int)) ∧ Below w.heap.size w w' := by
  obtain ⟨h0, h8, hz, _⟩ := right_u hr
  have hl := Lib.hid h.len
  have hR := btRight u A n c l (w.alloc (.cells #[.int .i64 u, .slice A n c] 25)) (h.below (below_alloc1 _ _)) hn
  rw [hr] at hR
  have hO := Own2.new w (.int .i64 u) (.slice A n c) 25
  have hF : Hid ((lenS u l : Int) = 8 * (n : Int) - u) := by
    have := hl.out
    unfold Hid lenS
    by_cases hq : l.length = 0
    · have := hz hq; omega
    · omega
  clear hz
  go_enter Try.func16, Try.ntmps16
  go_wp2_with fail
  refine hR.mono ?_
  rintro e w1 ⟨rfl, hb⟩
  have hO1 := hO.below hb
  have hB : Below w.heap.size w w1 := (below_alloc1 _ _).trans (Below.mono hb (by simp))
  obtain ⟨o0, o1, _, _⟩ := hO1
  clear hO hR hb
  go_wp2
  go_ret
  exact ⟨by rw [hF.out]; rfl, hB⟩

set_option maxHeartbeats 1600000 in
theorem btLenNo (u : Int) (A : Option Addr) (n c : Nat) (l : List UInt8) (w : World) (h : Bs w A n l) (hn : n ≤ 1099511627776) (hr : rightS u l = false) :
    Calls Try.prog 16 #[.agg #[.int .i64 u, .slice A n c]] w fun e w' => e = .returned (.int .i64 0) ∧ Below w.heap.size w w' := by
  have hR := btRight u A n c l (w.alloc (.cells #[.int .i64 u, .slice A n c] 25)) (h.below (below_alloc1 _ _)) hn
  rw [hr] at hR
  go_enter Try.func16, Try.ntmps16
  go_wp2_with fail
  refine hR.mono ?_
  rintro e w1 ⟨rfl, hb⟩
  have hB : Below w.heap.size w w1 := (below_alloc1 _ _).trans (Below.mono hb (by simp))
  clear hR hb
  go_wp2
  go_ret
  exact ⟨rfl, hB⟩

/-- How many bits, of any string. -/
def lenA (u : Int) (l : List UInt8) : Nat := if rightS u l = true then lenS u l else 0
theorem btLen (u : Int) (A : Option Addr) (n c : Nat) (l : List UInt8) (w : World) (h : Bs w A n l) (hn : n ≤ 1099511627776) :
    Calls Try.prog 16 #[.agg #[.int .i64 u, .slice A n c]] w fun e w' => e = .returned (.int .i64 (lenA u l : Int)) ∧ Below w.heap.size w w' := by
  unfold lenA
  cases hr : rightS u l
  · exact btLenNo u A n c l w h hn hr
  · exact btLenYes u A n c l w h hn hr
theorem lenA_le (u : Int) (l : List UInt8) : lenA u l ≤ 8 * l.length := by unfold lenA lenS; split <;> omega
/-- Whether it has a bit i that is 1. -/
def hasS (u : Int) (l : List UInt8) (i : Int) : Bool := (decide (0 ≤ i) && decide (i < lenA u l)) && bitS l i.toNat

theorem and_mask {n t : Nat} (hn : n < 256) (ht : t < 8) : (bits BinOp.and IntKind.u8 (n : Int) (mk8 t) != 0) = (bitN n t == 1) := by
  have key : ∀ n : Nat, n < 256 → ∀ t : Nat, t < 8 → (bits BinOp.and IntKind.u8 (n : Int) (mk8 t) != 0) = (bitN n t == 1) := by decide +kernel
  exact key n hn t ht


end Go.Proofs.Ytjcddbcokiaehaa
