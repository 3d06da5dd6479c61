/-
  Layer 3's law: the chapter's examples.
-/
import Derived.Test.YtbjiknfebocepaaDoorWh
import Derived.Test.YtbjiknfebocepaaDoorWi
import Derived.Test.YtbjiknfebocepaaDoorWu
import Derived.Test.YtbjiknfebocepaaDoorHex
namespace Go.Proofs.YtbjiknfebocepaaDoor
open Go.RowKit Go.Joins
set_option linter.unusedVariables false
set_option linter.unusedSimpArgs false
set_option maxRecDepth 4000

theorem nm_of {x : Nm} {l : List UInt8} {b : Bool} (h : x.ok) (h' : Nm.ok ⟨b, l⟩) (hz : x.z = Nm.z ⟨b, l⟩) : x = ⟨b, l⟩ := Nm.inj h h' hz
theorem cont128 (x : Nm) (u : Value) (w : World) (hx : NumV w x u) (hok : x.ok) (hz : x.z = 128) :
    Calls Tryd.prog 10 #[u] w fun e w' => ∃ A c, e = .returned (.tuple #[.slice A 2 c, .int .i64 0]) ∧ Bs w' A 2 [0, 128] ∧ Below w.heap.size w w' := by
  obtain rfl := nm_of (l := [128]) (b := false) hok ⟨rfl, fun h => by simp at h⟩ (by rw [hz]; rfl)
  refine (whContents _ u w hx (by decide)).mono ?_
  rintro e w' ⟨s, hs, hsz, _, _, h2, hB⟩
  obtain rfl := nm_of (l := [128]) (b := false) hs ⟨rfl, fun h => by simp at h⟩ (by rw [hsz]; decide)
  obtain ⟨A, c, rfl, hb, _⟩ := h2 (by decide)
  exact ⟨A, c, rfl, hb, hB⟩
theorem cont_128 (x : Nm) (u : Value) (w : World) (hx : NumV w x u) (hok : x.ok) (hz : x.z = -128) :
    Calls Tryd.prog 10 #[u] w fun e w' => ∃ A c, e = .returned (.tuple #[.slice A 1 c, .int .i64 0]) ∧ Bs w' A 1 [128] ∧ Below w.heap.size w w' := by
  obtain rfl := nm_of (l := [128]) (b := true) hok ⟨rfl, fun h => by simp at h⟩ (by rw [hz]; rfl)
  refine (whContents _ u w hx (by decide)).mono ?_
  rintro e w' ⟨s, hs, hsz, _, _, h2, hB⟩
  obtain rfl := nm_of (l := [127]) (b := false) hs ⟨rfl, fun h => by simp at h⟩ (by rw [hsz]; decide)
  obtain ⟨A, c, rfl, hb, _⟩ := h2 (by decide)
  exact ⟨A, c, rfl, hb, hB⟩

set_option maxHeartbeats 3200000 in
theorem known3 (w : World) (ht : Tab w) :
    Calls Tryd.prog 15 #[] w fun e w' => e = .returned (.bool true) ∧ Below w.heap.size w w' := by
  go_enter Tryd.func15, Tryd.ntmps15
  go_wp2_with fail
  refine (whOf 128 w (by omega) (by omega)).mono ?_
  rintro e w1 ⟨s1, v1, rfl, hv1, ho1, hz1, _, b1⟩
  go_wp2_with fail
  refine (cont128 s1 v1 w1 hv1 ho1 hz1).mono ?_
  rintro e w2 ⟨A2, c2, rfl, h2, hB2⟩
  have b2 : Below w.heap.size w w2 := b1.trans (Below.mono hB2 b1.size)
  clear hv1 ho1 hz1 b1 hB2
  go_wp2_with fail
  refine (whOf (-128) w2 (by omega) (by omega)).mono ?_
  rintro e w3 ⟨s3, v3, rfl, hv3, ho3, hz3, _, hB3⟩
  have b3 : Below w.heap.size w w3 := b2.trans (Below.mono hB3 b2.size)
  have h2' := h2.below hB3
  clear h2 hB3
  go_wp2_with fail
  refine (cont_128 s3 v3 w3 hv3 ho3 hz3).mono ?_
  rintro e w4 ⟨A4, c4, rfl, h4, hB4⟩
  have b4 : Below w.heap.size w w4 := b3.trans (Below.mono hB4 b3.size)
  have h2 := h2'.below hB4
  clear hv3 ho3 hz3 b3 hB4 h2' b2
  have p5 := Bs.newL w4 [0, 127] 5
  have P5 := whParseI _ 2 _ _ p5 (by decide)
  have hBa := below_alloc1 w4 (.cells #[.int .u8 0, .int .u8 127] 5)
  go_wp2_with fail
  refine P5.mono ?_
  rintro e w5 ⟨rfl, hB5⟩
  have hB5' : Below w4.heap.size w4 w5 := hBa.trans (Below.mono hB5 (by simp))
  have b5 : Below w.heap.size w w5 := b4.trans (Below.mono hB5' b4.size)
  have h2' := h2.below hB5'
  have h4' := h4.below hB5'
  clear p5 P5 hBa hB5 hB5' h2 h4 b4
  have hBa := below_alloc1 w5 (.cells #[.bool false, .slice none 0 0] 30)
  go_upto_region 4 with (fail)
  generalize (w5.alloc (Obj.cells #[Value.bool false, Value.slice none 0 0] 30)) = w6 at *
  have b6 : Below w.heap.size w w6 := b5.trans (Below.mono hBa b5.size)
  have h2 := h2'.below hBa
  have h4 := h4'.below hBa
  clear hBa h2' h4' b5
  have p5 := Bs.newL w6 [255, 128] 5
  have P5 := whParseI _ 2 _ _ p5 (by decide)
  have hBa := below_alloc1 w6 (.cells #[.int .u8 255, .int .u8 128] 5)
  go_wp2_with fail
  refine P5.mono ?_
  rintro e w7 ⟨rfl, hB5⟩
  have hB5' : Below w6.heap.size w6 w7 := hBa.trans (Below.mono hB5 (by simp))
  have b7 : Below w.heap.size w w7 := b6.trans (Below.mono hB5' b6.size)
  have h2' := h2.below hB5'
  have h4' := h4.below hB5'
  clear p5 P5 hBa hB5 hB5' h2 h4 b6
  have hBa := below_alloc1 w7 (.cells #[.bool false, .slice none 0 0] 30)
  go_upto_region 5 with (fail)
  generalize (w7.alloc (Obj.cells #[Value.bool false, Value.slice none 0 0] 30)) = w8 at *
  have b8 : Below w.heap.size w w8 := b7.trans (Below.mono hBa b7.size)
  have h2 := h2'.below hBa
  have h4 := h4'.below hBa
  clear hBa h2' h4' b7
  have H1 := octHex A2 2 c2 _ w8 h2 (by omega)
  rw [show hexL [0, 128] = [48, 48, 56, 48] by decide] at H1
  go_wp2_with fail
  refine H1.mono ?_
  rintro e w9 ⟨rfl, hB9⟩
  have b9 : Below w.heap.size w w9 := b8.trans (Below.mono hB9 b8.size)
  have h4' := h4.below hB9
  clear H1 hB9 h2 h4 b8
  have H2 := octHex A4 1 c4 _ w9 h4' (by omega)
  rw [show hexL [128] = [56, 48] by decide] at H2
  go_wp2_with fail
  refine H2.mono ?_
  rintro e w10 ⟨rfl, hB10⟩
  have b10 : Below w.heap.size w w10 := b9.trans (Below.mono hB10 b9.size)
  clear H2 hB10 h4' b9
  go_wp2_with fail
  refine (whOf (-256) w10 (by omega) (by omega)).mono ?_
  rintro e w11 ⟨s11, v11, rfl, hv11, ho11, hz11, _, hB11⟩
  have b11 : Below w.heap.size w w11 := b10.trans (Below.mono hB11 b10.size)
  clear hB11
  go_wp2_with fail
  refine (whText256 s11 v11 w11 hv11 ho11 hz11 (ht.below b11)).mono ?_
  rintro e w12 ⟨rfl, hB12⟩
  have b12 : Below w.heap.size w w12 := b11.trans (Below.mono hB12 b11.size)
  have heq : (S256m.toList == [45, 50, 53, 54]) = true := by decide +kernel
  go_wp2
  go_ret
  exact ⟨rfl, b12⟩
end Go.Proofs.YtbjiknfebocepaaDoor
