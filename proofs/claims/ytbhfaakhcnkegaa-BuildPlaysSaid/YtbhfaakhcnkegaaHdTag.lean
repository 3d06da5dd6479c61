/-
  The contracts of the project's head: the digits that a closure gathers, and the next tag.
-/
import Derived.Test.YtbhfaakhcnkegaaLen
import Derived.OneCell
import Derived.WalkMore
import Derived.Deep.LoopGhost
namespace Go.Proofs.Ytbhfaakhcnkegaa
open Go.RowKit
set_option linter.unusedVariables false
set_option linter.unusedSimpArgs false
set_option maxRecDepth 4000

/-- A variable of one int, at block g. -/
def Var (w : World) (g : Nat) (z : Int) : Prop := w.heap[g]? = some (.cells #[.int .i64 z] 3 (0, 0))
theorem Var.lt {w : World} {g : Nat} {z : Int} (h : Var w g z) : g < w.heap.size := (Array.getElem?_eq_some_iff.1 h).1
theorem Var.cell {w : World} {g : Nat} {z : Int} (h : Var w g z) : w.cell? ⟨g, 0, none⟩ = some (.int .i64 z) := by rw [blk_cell h]; rfl
theorem Var.free {w : World} {g : Nat} {z : Int} (h : Var w g z) : w.frozen? ⟨g, 0, none⟩ = false := blk_frozen h _
theorem Var.grown {w w' : World} {g : Nat} {z : Int} {row : Option Nat} (h : Var w g z) (hg : w.grownBy w' row) (hne : some g ≠ row) : Var w' g z := (hg.block g h.lt hne).trans h
theorem Var.set {w : World} {g : Nat} {z : Int} (h : Var w g z) (y : Int) : Var (w.setCell ⟨g, 0, none⟩ (.int .i64 y)) g y := by
  unfold Var at *
  simp [World.setCell, Array.getElem?_modify, h]

set_option maxHeartbeats 800000 in
theorem hdGather1 (gn gb : Nat) (z b d : Int) (w : World) (hn : Var w gn z) (hb : Var w gb b) (hbb : b = 128 ∨ b = 256) (hz0 : 0 ≤ z) (hz1 : z ≤ 1099511627776) (hd0 : 0 ≤ d) (hd1 : d < 256) :
    Calls Try.prog 116 #[.int .u8 d, .pointer (some ⟨gn, 0, none⟩), .pointer (some ⟨gb, 0, none⟩)] w fun e w' =>
      e = .returned (.int .i64 (b * z + d)) ∧ Var w' gn (b * z + d) ∧ Only gn w w' := by
  have c1 := hn.cell
  have c2 := hb.cell
  have f1 := hn.free
  rcases hbb with rfl | rfl
  · have hs := hn.set (z * 128 + d)
    go_enter Try.func116, Try.ntmps116
    go_wp2
    go_ret
    rw [Int.mul_comm 128 z]
    exact ⟨rfl, hs, (Only.refl gn w).setCell rfl _⟩
  · have hs := hn.set (z * 256 + d)
    go_enter Try.func116, Try.ntmps116
    go_wp2
    go_ret
    rw [Int.mul_comm 256 z]
    exact ⟨rfl, hs, (Only.refl gn w).setCell rfl _⟩

theorem hdGather (b : Int) (w : World) :
    Calls Try.prog 114 #[.int .i64 b] w fun e w' => ∃ gn gb, e = .returned (.func (.func 116) #[] #[.pointer (some ⟨gn, 0, none⟩), .pointer (some ⟨gb, 0, none⟩)]) ∧
      w.heap.size ≤ gn ∧ w.heap.size ≤ gb ∧ gn ≠ gb ∧ Var w' gn 0 ∧ Var w' gb b ∧ Below w.heap.size w w' := by
  go_enter Try.func114, Try.ntmps114
  go_wp2
  go_ret
  have h1 : Var (w.alloc (.cells #[.int .i64 b] 3)) w.heap.size b := heap_alloc_new _ _
  have h2 : Var ((w.alloc (.cells #[.int .i64 b] 3)).alloc (.cells #[.int .i64 0] 3)) (w.heap.size + 1) 0 := by
    have := heap_alloc_new (w.alloc (.cells #[.int .i64 b] 3)) (.cells #[.int .i64 0] 3)
    simpa [Var] using this
  have h3 : Var ((w.alloc (.cells #[.int .i64 b] 3)).alloc (.cells #[.int .i64 0] 3)) w.heap.size b :=
    ((below_alloc1 (w.alloc (.cells #[.int .i64 b] 3)) (.cells #[.int .i64 0] 3)).block _ h1.lt).trans h1
  exact ⟨w.heap.size + 1, w.heap.size, rfl, by omega, by omega, by omega, h2, h3, below_alloc2 _ _ _⟩

theorem digs_end (l : List UInt8) (k : Nat) (c : Int) (b : Bool) (f i : Nat) (z : Int) (h : l.length ≤ k + i) : digs2 l k c b f i z = (tg0, k, 3) := by
  cases f <;> (unfold digs2; rw [if_pos h])

/-- What reading a tag's number hands back. -/
def NumOk (w : World) (g : Nat) (s : Value) (l : List UInt8) (k : Nat) (c : Int) (b : Bool) (e : Ending) (w' : World) : Prop :=
  ∃ (n E : Int) (k' : Nat), e = .returned (.tuple #[.int .i64 n, .int .i64 E]) ∧ Cur w' g s l k' ∧ k ≤ k' ∧ Only g w w' ∧
    (digs2 l k c b 3 1 0).2.2 = E ∧ (E = 0 → digs2 l k c b 3 1 0 = (⟨c, n, b⟩, k', 0))
theorem NumOk.err {w : World} {g : Nat} {s : Value} {l : List UInt8} {k : Nat} {c : Int} {b : Bool} {w' : World} {E : Int} {k' : Nat} (hc : Cur w' g s l k') (hk : k ≤ k') (ho : Only g w w')
    (h : digs2 l k c b 3 1 0 = (tg0, k, E)) (hE : E ≠ 0) : NumOk w g s l k c b (.returned (.tuple #[.int .i64 0, .int .i64 E])) w' :=
  ⟨0, E, k', rfl, hc, hk, ho, by rw [h], fun e => absurd e hE⟩
theorem NumOk.ok {w : World} {g : Nat} {s : Value} {l : List UInt8} {k : Nat} {c : Int} {b : Bool} {w' : World} {n : Int} {k' : Nat} (hc : Cur w' g s l k') (hk : k ≤ k') (ho : Only g w w')
    (h : digs2 l k c b 3 1 0 = (⟨c, n, b⟩, k', 0)) : NumOk w g s l k c b (.returned (.tuple #[.int .i64 n, .int .i64 0])) w' :=
  ⟨n, 0, k', rfl, hc, hk, ho, by rw [h], fun _ => h⟩

set_option maxHeartbeats 1600000 in
theorem hdReadNumber (g k : Nat) (l : List UInt8) (c : Int) (mb : Bool) (w : World) {s : Value} (h : Cur w g s l (k + 1)) :
    Calls Try.prog 113 #[.pointer (some ⟨g, 0, none⟩)] w (NumOk w g s l k c mb) := by
  have hg := h.lt
  go_enter Try.func113, Try.ntmps113
  go_wp2
  go_step3
  go_wp2_with fail
  refine (hdGather 128 _).mono ?_
  rintro e w1 ⟨gn, gb, rfl, hn, hb, hnb, vn, vb, hB⟩
  have h1 := h.below hB
  have ho1 : Only g w w1 := Only.of_below hB
  go_wp2
  go_step3
  go_wp2
  go_loopw [5, 6] (fun v i wr => ∃ (m f : Nat) (z : Int), i = .int .i64 (m : Int) ∧ v = .int .i64 z ∧ m + f = 3 ∧ 0 ≤ z ∧ z < 2097152 ∧ (m = 0 → z = 0) ∧ (m = 1 → z < 128) ∧ (m = 2 → z < 16384) ∧ (m ≠ 0 → 1 ≤ z) ∧
      Hid (digs2 l k c mb 3 1 0 = digs2 l k c mb f (m + 1) z) ∧ Cur wr g s l (k + (m + 1)) ∧ Var wr gn z ∧ Var wr gb 128 ∧ Only g w wr) (fun _ i _ => 5 - (intOf i).toNat)
  case atStart => exact ⟨0, 3, 0, rfl, rfl, by omega, by omega, by omega, by omega, by omega, by omega, by omega, rfl, h1, vn, vb, ho1⟩
  case round =>
    obtain ⟨m, f, z, rfl, rfl, hmf, hz0, hz1, hz2, hz4, hz5, hz3, hd, hc, vn, vb, ho⟩ := hrel
    clear h1 ho1
    by_cases hend : l.length ≤ k + (m + 1)
    · have hR := Lib.hid (hd.out.trans (digs_end l k c mb f (m + 1) z hend))
      have hl : l.length = k + (m + 1) := by
        obtain ⟨_, _, _, _, _, _, hb, _, hk, _⟩ := hc; have := hb.len; omega
      have HL := Lib.hid hl
      rw [← hl] at hc
      clear hd
      go_wp2_with fail
      refine (curByteEnd g l _ hc).mono ?_
      rintro e w2 ⟨rfl, hq⟩
      go_wp2
      go_ret2
      exact NumOk.err (hc.qt hq) (by have := HL.out; omega) (ho.trans (Only.of_qt hq)) hR.out (by omega)
    · have hbd := nth_bound l (k + (m + 1))
      go_wp2_with fail
      refine (curByte g _ l _ hc (by omega)).mono ?_
      rintro e w2 ⟨rfl, hc2, ho2⟩
      have hne1 : gn ≠ g := by omega
      have hne2 : gb ≠ g := by omega
      have vn2 := vn.grown ho2 (by simpa using hne1)
      have vb2 := vb.grown ho2 (by simpa using hne2)
      have hO2 := ho.trans ho2
      clear hc vn vb ho ho2
      generalize hD : nth l (k + (m + 1)) = D at *
      have hDm : 0 ≤ D % 128 ∧ D % 128 < 128 := by omega
      go_wp2_with fail
      refine (hdGather1 gn gb z 128 (D % 128) _ vn2 vb2 (.inl rfl) hz0 (by omega) hDm.1 (by omega)).mono ?_
      rintro e w3 ⟨rfl, vn3, ho3⟩
      have hc3 := Cur.frame h hO2 hc2 ho3 (by intro b hb'; cases hb'; omega)
      have vb3 := vb2.grown ho3 (by simpa using hnb.symm)
      have hO3 := Only.grown hO2 ho3 (by intro b hb'; cases hb'; omega)
      clear hc2 vn2 vb2 hO2 ho3
      have hNb : 0 ≤ 128 * z + D % 128 ∧ 128 * z + D % 128 ≤ 268435455 := by omega
      have hun := hd.out
      clear hd
      rcases f with _ | f
      · obtain rfl : m = 3 := by omega
        have hR : digs2 l k c mb 3 1 0 = (tg0, k, 4) := by rw [hun]; unfold digs2; rw [if_neg hend]
        have HR := Lib.hid hR
        clear hR hun
        have e1 : (128 * z + D % 128 == 0) = false := by simp; omega
        generalize 128 * z + D % 128 = N at *
        go_wp2
        go_ret2
        exact NumOk.err hc3 (by omega) hO3 HR.out (by omega)
      · have hun1 : digs2 l k c mb 3 1 0 = if m + 1 = 1 ∧ D = 128 then (tg0, k, 4) else if D < 128 then
            (if 128 * z + D % 128 < 31 then (tg0, k, 4) else (⟨c, 128 * z + D % 128, mb⟩, k + (m + 1) + 1, 0)) else digs2 l k c mb f (m + 1 + 1) (128 * z + D % 128) := by
          rw [hun]; conv => lhs; unfold digs2
          rw [if_neg hend, hD]
        clear hun
        have e3 : ((m : Int) == 3) = false := by simp; omega
        by_cases q1 : m = 0 ∧ D % 128 = 0
        · have hR : digs2 l k c mb 3 1 0 = (tg0, k, 4) := by
            have := hz2 q1.1
            rw [hun1]
            by_cases q2 : D = 128
            · rw [if_pos ⟨by omega, q2⟩]
            · rw [if_neg (by omega), if_pos (by omega), if_pos (by omega)]
          have HR := Lib.hid hR
          have hN : 128 * z + D % 128 = 0 := by have := hz2 q1.1; omega
          clear hR hun1 hD
          rw [hN] at vn3 ⊢
          clear hN
          go_wp2
          go_ret2
          exact NumOk.err hc3 (by omega) hO3 HR.out (by omega)
        · rw [if_neg (by omega)] at hun1
          have e1 : (128 * z + D % 128 == 0) = false := by
            simp
            by_cases q2 : m = 0
            · have := hz2 q2; omega
            · have := hz3 q2; omega
          have hNz : 1 ≤ 128 * z + D % 128 := by simp at e1; omega
          have hNt : 128 * z + D % 128 < 2097152 := by omega
          have hN1 : m + 1 = 1 → 128 * z + D % 128 < 128 := by omega
          have hN2 : m + 1 = 2 → 128 * z + D % 128 < 16384 := by omega
          clear hD
          by_cases q3 : D < 128
          · rw [if_pos q3] at hun1
            by_cases q4 : 128 * z + D % 128 < 31
            · rw [if_pos q4] at hun1
              have HR := Lib.hid hun1
              clear hun1
              generalize 128 * z + D % 128 = N at *
              go_wp2
              go_ret2
              exact NumOk.err hc3 (by omega) hO3 HR.out (by omega)
            · rw [if_neg q4] at hun1
              have HR := Lib.hid hun1
              clear hun1
              generalize 128 * z + D % 128 = N at *
              go_wp2
              go_ret2
              exact NumOk.ok hc3 (by omega) hO3 HR.out
          · rw [if_neg q3] at hun1
            have HR := Lib.hid hun1
            clear hun1
            generalize 128 * z + D % 128 = N at *
            go_wp2
            go_roundw
            case rel => exact ⟨m + 1, f, N, by go_num, rfl, by omega, by omega, by omega, by omega, hN1, hN2, by omega, HR, hc3, vn3, vb3, hO3⟩
            case measure => simp [intOf]; omega

end Go.Proofs.Ytbhfaakhcnkegaa
