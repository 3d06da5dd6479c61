/-
  The reference: Two, Four, Text.
-/
import Derived.Test.YtepbjjhidemaiaaDq
namespace Go.Proofs.Ytepbjjhidemaiaa
open Go.RowKit
set_option linter.unusedVariables false
set_option linter.unusedSimpArgs false
set_option maxRecDepth 4000

set_option maxHeartbeats 800000 in
theorem rf9Two (z : Int) (w : World) (h0 : 0 ≤ z) (h1 : z < 100) :
    Calls Try.prog 36 #[.int .i64 z] w fun e w' => e = .returned (strV (tw z)) ∧ Below w.heap.size w w' := by
  unfold strV
  have q1 : z.tdiv 10 = z / 10 := Int.tdiv_eq_ediv_of_nonneg h0
  have q2 : z.tmod 10 = z % 10 := Int.tmod_eq_emod_of_nonneg h0
  have q3 : (z / 10).tmod 10 = z / 10 := by rw [Int.tmod_eq_emod_of_nonneg (by omega)]; omega
  have q5 : (48 + z / 10) % 256 = 48 + z / 10 := by omega
  have q6 : (48 + z % 10) % 256 = 48 + z % 10 := by omega
  have hbs := Bs.new2 w (UInt8.ofNat (48 + z / 10).toNat) (UInt8.ofNat (48 + z % 10).toNat) (48 + z / 10) (48 + z % 10) 5 (by rw [UInt8.toNat_ofNat']; omega) (by rw [UInt8.toNat_ofNat']; omega)
  have hcv := hbs.convert (P := Try.prog) 2 24 9 5 Try.underlying24 Try.underlying5 Try.underlying9
  clear hbs
  go_enter Try.func36, Try.ntmps36
  go_wp2
  go_ret
  exact ⟨rfl, below_alloc1 _ _⟩

set_option maxHeartbeats 800000 in
theorem rf9Four (z : Int) (w : World) (h0 : 0 ≤ z) (h1 : z < 10000) :
    Calls Try.prog 35 #[.int .i64 z] w fun e w' => e = .returned (strV (tw (z / 100) ++ tw (z % 100))) ∧ Below w.heap.size w w' := by
  unfold strV
  have HTw := Lib.hid (fun x W h0 h1 => rf9Two x W h0 h1)
  unfold strV at HTw
  have q1 : z.tdiv 100 = z / 100 := Int.tdiv_eq_ediv_of_nonneg h0
  have q2 : z.tmod 100 = z % 100 := Int.tmod_eq_emod_of_nonneg h0
  have l1 : (tw (z / 100)).length ≤ 2 := by simp [tw]
  have l2 : (tw (z % 100)).length ≤ 2 := by simp [tw]
  have y1 : ¬ 9223372036854775807 < (tw (z / 100)).length + (tw (z % 100)).length := by omega
  have FIN : Hid ((⟨(tw (z / 100)).toArray⟩ : ByteArray) ++ ⟨(tw (z % 100)).toArray⟩ = ⟨(tw (z / 100) ++ tw (z % 100)).toArray⟩) := by
    unfold Hid; apply ByteArray.ext; simp
  generalize hX : tw (z / 100) = X at *
  generalize hY : tw (z % 100) = Y at *
  have HX := Lib.hid hX
  have HY := Lib.hid hY
  clear hX hY
  go_enter Try.func35, Try.ntmps35
  go_wp2_with fail
  refine (HTw.out _ _ (by omega) (by omega)).mono ?_
  rintro e w1 ⟨rfl, hB1⟩
  rw [HX.out]
  have HB1 := Lib.hid hB1
  clear hB1
  go_wp2_with fail
  refine (HTw.out _ _ (by omega) (by omega)).mono ?_
  rintro e w2 ⟨rfl, hB2⟩
  rw [HY.out]
  have HB2 := Lib.hid (HB1.out.trans (hB2.mono HB1.out.size))
  clear hB2
  go_wp2
  go_ret
  exact ⟨by rw [← FIN.out]; rfl, HB2.out⟩

end Go.Proofs.Ytepbjjhidemaiaa
