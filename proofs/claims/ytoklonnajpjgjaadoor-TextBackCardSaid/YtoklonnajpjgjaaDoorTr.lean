/-
  The contracts of the project's text: Write, Least.
-/
import Derived.Test.YtoklonnajpjgjaaDoorTp
import Derived.Test.YtoklonnajpjgjaaDoorHdWrapB
import Derived.Deep.RegionWith
namespace Go.Proofs.YtoklonnajpjgjaaDoor
open Go.RowKit Go.Shelf
set_option linter.unusedVariables false
set_option linter.unusedSimpArgs false
set_option maxRecDepth 4000

def tg6 (z : Int) : Tg := ⟨0, z, z == 16 || z == 17⟩
theorem tg6_right {k : Int} (hk : isK k = true) : (tg6 k).rightB = true := by
  rcases isK_cases hk with rfl | rfl | rfl | rfl | rfl | rfl <;> decide
theorem Bss.new1 {w : World} {A1 : Option Addr} {n1 c1 : Nat} {l1 : List UInt8} (t : TypeId) (h1 : Bs w A1 n1 l1) (k1 : n1 ≤ c1) :
    Bss (w.alloc (.cells #[.slice A1 n1 c1] t)) (some ⟨w.heap.size, 0, none⟩) 1 [l1] := by
  have hb := heap_alloc_new w (.cells #[.slice A1 n1 c1] t)
  refine ⟨rfl, fun i l hl => ?_⟩
  match i, hl with
  | 0, hl => cases hl; exact ⟨_, _, A1, n1, c1, rfl, by rw [blk_cell hb]; rfl, h1.below (below_alloc1 _ _), k1⟩
theorem short1 {b : List UInt8} {N : Nat} (h : b.length ≤ N) : Short N [b] := by
  intro k
  rcases k with _ | k
  · simpa [rowL] using h
  · simp [rowL]

set_option maxHeartbeats 1600000 in
theorem txWriteNo (k : Int) (A : Option Addr) (m c : Nat) (l : List UInt8) (w : World) (hT : Tb w) (h : Bs w A m l) (hm : m ≤ 1099511) (hmc : m ≤ c) (hr : rightT k l = false) :
    Calls Tryd.prog 24 #[.agg #[.int .i64 k, .slice A m c]] w fun e w' => e = .returned (.tuple #[.slice none 0 0, .int .i64 6]) ∧ Below w.heap.size w w' := by
  have hb0 := below_alloc1 w (.cells #[.int .i64 k, .slice A m c] 25)
  have hR := txRight k A m c l _ (hT.below hb0) (h.below hb0) hm hmc
  rw [hr] at hR
  obtain ⟨o0, o1, _, _⟩ := (Blk.new2 w (.int .i64 k) (.slice A m c) 25).two
  go_enter Tryd.func24, Tryd.ntmps24
  go_wp2_with fail
  refine hR.mono ?_
  rintro e w1 ⟨rfl, hb⟩
  have hB : Below w.heap.size w w1 := hb0.trans (Below.mono hb (by simp))
  clear o0 o1 hR hb hb0 h hT
  go_wp2
  go_ret2
  exact ⟨rfl, hB⟩

set_option maxHeartbeats 3200000 in
theorem txWriteYes (k : Int) (A : Option Addr) (m c : Nat) (l : List UInt8) (w : World) (hT : Tb w) (h : Bs w A m l) (hm : m ≤ 1099511) (hmc : m ≤ c) (hr : rightT k l = true) :
    Calls Tryd.prog 24 #[.agg #[.int .i64 k, .slice A m c]] w (NewBs2 w (wrapB (tg6 k) l)) := by
  have hk : isK k = true := by unfold rightT at hr; simp only [Bool.and_eq_true] at hr; exact hr.1
  have hHk := Lib.hid (tg6_right hk)
  have hHl := Lib.hid h.len
  have hb0 := below_alloc1 w (.cells #[.int .i64 k, .slice A m c] 25)
  have hO := Blk.new2 w (.int .i64 k) (.slice A m c) 25
  have hR := txRight k A m c l _ (hT.below hb0) (h.below hb0) hm hmc
  rw [hr] at hR
  obtain ⟨o0, o1, _, _⟩ := hO.two
  have hHm := Lib.hid hmc
  have hHm2 := Lib.hid hm
  go_enter Tryd.func24, Tryd.ntmps24
  go_wp2_with fail
  refine hR.mono ?_
  rintro e w1 ⟨rfl, hb⟩
  have hB : Below w.heap.size w w1 := hb0.trans (Below.mono hb (by simp))
  have hO1 := hO.below hb
  have h1 := h.below hB
  have KX : Hid (∀ W : World, Below w1.heap.size w1 W → W.cell? ⟨w.heap.size, 0, none⟩ = some (.int .i64 k) ∧ W.cell? ⟨w.heap.size, 1, none⟩ = some (.slice A m c)) := Lib.hid (fun W hW => ⟨(hO1.below hW).two.1, (hO1.below hW).two.2.1⟩)
  have WR : Hid (∀ (W : World) (g : Nat), Bss W (some ⟨g, 0, none⟩) 1 [l] → Calls Tryd.prog 44 #[(tg6 k).v, .slice (some ⟨g, 0, none⟩) 1 1] W (NewBs2 W (wrapB (tg6 k) l))) := Lib.hid (fun W g hW => by
    have hW2 := hdWrap (tg6 k) _ 1 1 [l] _ hHk.out hW (by omega) (by have := hHl.out; have := hHm2.out; simp; omega) (short1 (by have := hHl.out; have := hHm2.out; omega))
    simp only [List.flatten_cons, List.flatten_nil, List.append_nil] at hW2
    exact hW2)
  have hOf := Lib.hid (fun W => hdOf k W)
  have hwA := Lib.hid (fun (W : World) (hW : Below w1.heap.size w1 W) => Bss.new1 22 (h1.below hW) hHm.out)
  clear o0 o1 hR hb hb0 h hT hO hk hr hmc hm
  obtain ⟨o0, o1, _, _⟩ := hO1.two
  have hB1a := Lib.hid (below_alloc1 w1 (.cells #[.slice A m c] 22))
  obtain ⟨p0, p1⟩ := KX.out _ hB1a.out
  clear hO1 h1
  go_wp2
  go_region_with (first
    | (go_at_call 45; refine (hOf.out _).mono ?_; rintro e w2 ⟨rfl, b2⟩; have hbb : Below w1.heap.size w1 w2 := (by first | exact ⟨b2.os, b2.tape, b2.output, b2.size, b2.block⟩ | exact hB1a.out.trans (Below.mono (⟨b2.os, b2.tape, b2.output, b2.size, b2.block⟩ : Below (w1.alloc (.cells #[.slice A m c] 22)).heap.size (w1.alloc (.cells #[.slice A m c] 22)) w2) hB1a.out.size)); obtain ⟨z0, z1⟩ := KX.out w2 hbb)
    | (go_at_call 44; refine (WR.out _ _ (by first | exact hwA.out _ hbb | exact (hwA.out w1 (Below.refl _ _)).below (⟨b2.os, b2.tape, b2.output, b2.size, b2.block⟩ : Below (w1.alloc (.cells #[.slice A m c] 22)).heap.size (w1.alloc (.cells #[.slice A m c] 22)) w2))).mono ?_; rintro e w3 ⟨A3, n3, c3, rfl, hob3, hb3⟩))
  all_goals
    have hb4 : Below w1.heap.size w1 w3 := by
      first
        | exact hbb.trans (Below.mono ((below_alloc1 w2 (.cells #[.slice A m c] 22)).trans (Below.mono hb3 (by simp))) hbb.size)
        | exact hbb.trans (Below.mono hb3 hbb.size)
    have hob4 := hob3.mono (base' := w.heap.size) (by have := hB.size; have := hbb.size; first | omega | (simp; omega))
    have hB4 := hB.trans (Below.mono hb4 hB.size)
    clear z0 z1 o0 o1 p0 p1 hob3 hb3 hbb b2 hb4
    go_wp2
    go_ret2
    exact ⟨_, _, _, rfl, hob4, hB4⟩

end Go.Proofs.YtoklonnajpjgjaaDoor
