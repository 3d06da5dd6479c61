/-
  For every two dates of ints, the Go call quittancelaw09.DateOrders(a, b) returns true and leaves its arguments as they were.
-/
import Derived.Test.YteljhijnablphaaRows
import Derived.Test.YteljhijnablphaaLwB
import Derived.Test.YteljhijnablphaaOpen
import Derived.WalkKit
import Derived.ProofKit
import Derived.OpenShut
import Derived.ShutString
import Derived.ChangeOld
import Derived.Below
import Derived.Lib.SmallJoins
namespace Go.Proofs.Yteljhijnablphaa.dateOrders
open Go.ChangeShapes Go.WideShapes Go.ChangeAt Go.RowKit Go.Joins
open Go.ChangeMaps (open_string shut_string)
set_option linter.unusedVariables false
set_option linter.unusedSimpArgs false

theorem own : ownKnob Try.prog.godebug = none := by kernel_rfl
theorem laidOut : laidOutB Try.prog = true := by kernel_rfl

theorem cellsDate : Try.prog.cellsOf 23 = 3 := by kernel_rfl

set_option maxRecDepth 100000 in
theorem lifted (os : Os) (started : os.Started) (H : Type) (enc : TypeId × Value → H) :
    ReturnsInHanded {} Try.checked os 6 .any (Rows.dateOrdersSpec.pre6 enc Try.prog Try.f6 Rows.dateOrdersRow.domain false) (Rows.dateOrdersSpec.post enc Try.prog Try.f6 false true false false) := by
  refine returnsInHanded_of_change (C := Try.checked) own started (by kernel_rfl) Try.func6
    (ChangeSpec.witness6 (enc := enc) (C := Try.checked) false ⟨#[], #[.agg #[.int .i64 0, .int .i64 0, .int .i64 0], .agg #[.int .i64 0, .int .i64 0, .int .i64 0]], []⟩ 8 (by kernel_rfl) (by kernel_rfl) (by kernel_rfl) (by kernel_rfl)) ?_
  intro W base args ds gs before hval0 hW hcnd _
  have hval : ∀ (j : Nat) t v, Try.f6.params[j]? = some t → args[j]? = some v → Value.okWide Try.prog W .any base t v := hval0
  have hW' := hW
  obtain ⟨p, q, hA0, hV, rfl, hfz, hnd⟩ := hW
  have hA : DataW.TrodAll enc Try.prog W 0 (fun _ => true) true Try.f6.params.toList args.toList ds p := hA0
  rw [Try.params6] at hA hval
  obtain ⟨v0, vs0, d0, ds0, p0, q0, hargs, rfl, rfl, h0, r0⟩ := trodAll_cons hA
  obtain ⟨v1, vs1, d1, ds1, p1, q1, rfl, rfl, rfl, h1, r1⟩ := trodAll_cons r0
  obtain ⟨rfl, rfl, rfl⟩ := trodAll_nil r1
  obtain rfl : args = #[v0, v1] := by cases args; simp_all
  obtain ⟨rfl, rfl⟩ := trodVars_none hV
  have k0 := h0
  have lt0 : ∀ x ∈ p0, x.block < W.heap.size := by obtain ⟨m, hm⟩ := k0; exact DataW.trod_lt m _ _ _ hm
  obtain ⟨ca0, cb0, cc0, ya0, yb0, yc0, m0, rfl, rfl, rfl, hya0, hyb0, hyc0⟩ := open_agg3 Try.underlying23 (by kernel_rfl) cellsDate (hval 0 23 v0 rfl rfl) h0
  obtain ⟨x0, ea0, rfl, wx0⟩ := DataW.trod_int Try.underlying3 hya0
  obtain ⟨y0, eb0, rfl, wy0⟩ := DataW.trod_int Try.underlying3 hyb0
  obtain ⟨z0, ec0, rfl, wz0⟩ := DataW.trod_int Try.underlying3 hyc0
  simp at ea0 eb0 ec0
  subst ea0 eb0 ec0
  have k1 := h1
  have lt1 : ∀ x ∈ p1, x.block < W.heap.size := by obtain ⟨m, hm⟩ := k1; exact DataW.trod_lt m _ _ _ hm
  obtain ⟨ca1, cb1, cc1, ya1, yb1, yc1, m1, rfl, rfl, rfl, hya1, hyb1, hyc1⟩ := open_agg3 Try.underlying23 (by kernel_rfl) cellsDate (hval 1 23 v1 rfl rfl) h1
  obtain ⟨x1, ea1, rfl, wx1⟩ := DataW.trod_int Try.underlying3 hya1
  obtain ⟨y1, eb1, rfl, wy1⟩ := DataW.trod_int Try.underlying3 hyb1
  obtain ⟨z1, ec1, rfl, wz1⟩ := DataW.trod_int Try.underlying3 hyc1
  simp at ea1 eb1 ec1
  subst ea1 eb1 ec1
  clear hA0 hval0
  refine (lawOrders x0 y0 z0 x1 y1 z1 W (bounds_i64 wx0) (bounds_i64 wy0) (bounds_i64 wz0) (bounds_i64 wx1) (bounds_i64 wy1) (bounds_i64 wz1)).mono fun e W' ⟨he, bel⟩ => ?_
  subst he
  exact ⟨_, rfl, _, _, _, [], _, [], hW', trodAll_mk1 (shut_bool Try.underlying4 _), (trodAll_cons_mk (Below.trod laidOut (by kernel_rfl) (of_decide_eq_true (by kernel_rfl)) k0 bel lt0) (trodAll_cons_mk (Below.trod laidOut (by kernel_rfl) (of_decide_eq_true (by kernel_rfl)) k1 bel lt1) trodAll_mk0)), rfl, bel.frame _, fun h => by cases h⟩

theorem over : Rows.dateOrdersRow.holds Try.pinned (OpenSpec.ofChange Rows.dateOrdersSpec) :=
  OpenClaim.holds_of_wide 6 Try.f6 rfl rfl rfl rfl rfl rfl rfl ⟨rfl, rfl, rfl, rfl, rfl⟩ rfl rfl rfl rfl rfl (by kernel_rfl) Try.func6 (by kernel_rfl)
    (of_decide_eq_true (by kernel_rfl)) (by unfold Func.isWrapper; first | (rw [if_pos (by decide +kernel)]; kernel_rfl) | (rw [if_neg (by decide +kernel)]; exact ⟨rfl, rfl⟩))
    (fun os started H enc _ => lifted os started H enc)

theorem proved : Rows.DateOrdersSaid := over
#print axioms proved
end Go.Proofs.Yteljhijnablphaa.dateOrders
