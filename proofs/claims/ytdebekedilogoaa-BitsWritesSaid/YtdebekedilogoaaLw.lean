/-
  The law BitsWrites.
-/
import Derived.Test.YtdebekedilogoaaBu
namespace Go.Proofs.Ytdebekedilogoaa
open Go.RowKit
set_option linter.unusedVariables false
set_option linter.unusedSimpArgs false
set_option maxRecDepth 4000

theorem wrap_len3 (b : List UInt8) : (wrapB (tg5 3) b).length ≤ b.length + 9 := by
  have h1 := tagB_len (tg5 3)
  have h2 := lenB_len (b.length : Int)
  unfold wrapB
  rw [List.length_append, List.length_append]
  omega
theorem wrap_len4 (b : List UInt8) : (wrapB (tg5 4) b).length ≤ b.length + 9 := by
  have h1 := tagB_len (tg5 4)
  have h2 := lenB_len (b.length : Int)
  unfold wrapB
  rw [List.length_append, List.length_append]
  omega

set_option maxHeartbeats 3200000 in
theorem lawWritesFN (u : Int) (A B : Option Addr) (n0 n c m0 m d : Nat) (l b : List UInt8) (w : World) (hn0 : n = min n0 300) (hm0 : m = min m0 300) (ha : Bs w A n l) (hbb : Bs w B m b) (hc0 : n0 ≤ c) (hd0 : m0 ≤ d) (hr : rightS u l = false) :
    Calls Try.prog 7 #[.agg #[.int .i64 u, .slice A n0 c], .bool false, .slice B m0 d] w fun e w' => e = .returned (.bool true) ∧ Below w.heap.size w w' := by
  have hc : n ≤ c := by omega
  have hn : n ≤ 300 := by omega
  have hd : m ≤ d := by omega
  have hm : m ≤ 300 := by omega
  have HL := Lib.hid ha.len
  have HB := Lib.hid hbb.len
  have tr3 : (tg5 3).right := by unfold Tg.right tg5; simp
  have tr4 : (tg5 4).right := by unfold Tg.right tg5; simp
  have hmin : min (m0 : Int) 300 = (m : Int) := by omega
  have hmin2 : (if (300 : Int) < (m0 : Int) then (300 : Int) else (m0 : Int)) = (m : Int) := by split <;> omega
  have m1 : (m : Int) ≤ (d : Int) := by omega
  have hR := Blk.new2 w (.int .i64 u) (.slice A n0 c) 24
  have b0 := below_alloc1 w (.cells #[.int .i64 u, .slice A n0 c] 24)
  have ha0 := ha.below b0
  have hb0 := hbb.below b0
  clear hm0
  go_enter Try.func7, Try.ntmps7
  go_upto_region 2 with (fail)
  generalize (w.alloc (Obj.cells #[.int .i64 u, .slice A n0 c] 24)) = W0 at *
  have ST0 : Hid (∀ W, Below W0.heap.size W0 W → (W.cell? ⟨w.heap.size, 0, none⟩ = some (.int .i64 u) ∧ W.cell? ⟨w.heap.size, 1, none⟩ = some (.slice A n0 c)) ∧ Bs W A n l ∧ Bs W B m b ∧ Below w.heap.size w W) :=
    fun W hW => ⟨⟨(hR.below hW).two.1, (hR.below hW).two.2.1⟩, ha0.below hW, hb0.below hW, below_st b0 hW⟩
  have SEC : Hid (∀ W, Below W0.heap.size W0 W → Below w.heap.size w W ∧ Bs W B m b) := fun W hW => ⟨(ST0.out W hW).2.2.2, (ST0.out W hW).2.2.1⟩
  obtain ⟨⟨r0, r1⟩, _, _, _⟩ := ST0.out _ (Below.refl _ _)
  clear hR ha0 hb0 b0 ha hbb
  have TO := Lib.hid (fun W => lw5To u A n0 c W hc0)
  rw [← hn0] at TO
  clear hn0
  go_wp2_with fail
  refine (TO.out _).mono ?_
  rintro e y1 ⟨rfl, Y1⟩
  clear r0 r1
  obtain ⟨⟨r0, r1⟩, ha1, _, _⟩ := ST0.out _ Y1
  go_wp2_with fail
  refine (btWriteNo u A n c l _ ha1 (by omega) hr).mono ?_
  rintro e y2 ⟨rfl, y⟩
  have Y2 := below_st Y1 y
  clear r0 r1 ha1
  obtain ⟨⟨r0, r1⟩, _, _, _⟩ := ST0.out _ Y2
  go_wp2_with fail
  refine (TO.out _).mono ?_
  rintro e y3 ⟨rfl, y⟩
  have Y3 := below_st Y2 y
  clear r0 r1
  go_wp2_with fail
  refine (lw5Of u A n c _).mono ?_
  rintro e y4 ⟨rfl, y'⟩
  have Y4 := below_st Y3 y'
  have RT4 := rf5Right u A n c l y4 (ST0.out _ Y4).2.1 hc (by omega)
  rw [hr] at RT4
  go_wp2_with fail
  refine RT4.mono ?_
  rintro e y5 ⟨rfl, y''⟩
  have Y5 := below_st Y4 y''
  obtain ⟨⟨r0, r1⟩, _, _, _⟩ := ST0.out _ Y5
  · go_upto_region 12 with (fail)
    have ZZ := Y5
    clear r0 r1 RT4 TO ST0
    -- the second half
    obtain ⟨bW, hbW⟩ := SEC.out _ ZZ
    clear ZZ
    go_wp2_with fail
    refine (btWriteBool false _).mono ?_
    rintro e w1 ⟨A1, n1, c1, rfl, o1, z1⟩
    have s1 := o1.bs.1
    obtain rfl : n1 = 3 := s1.len.symm
    have b1 := below_st bW z1
    have hb1 := hbW.below z1
    go_wp2_with fail
    refine (octNew A1 3 c1 _ w1 s1 (by omega)).mono ?_
    rintro e w2 ⟨g2, sv2, rfl, hg2, hc2, z2⟩
    have RB := btReadBool g2 0 _ w2 hc2 (by simp)
    rw [show rdBool [1, 1, tb false] 0 = (false, 3, 0) by decide +kernel] at RB
    go_wp2_with fail
    refine RB.mono ?_
    rintro e w3 ⟨rfl, _, o3⟩
    have z3 : Below w1.heap.size w1 w3 := Only.below o3 z2 hg2 z2.size
    have b3 := below_st b1 z3
    have hb3 := hb1.below z3
    clear hb1 b1 z3 o3 RB hc2 z2 s1 o1 hbW bW z1
    go_wp2_with fail
    refine (btWriteOctets B m d b _ hb3 hd (by omega)).mono ?_
    rintro e w4 ⟨A4, n4, c4, rfl, o4, z4⟩
    have s4 := o4.bs.1
    have b4 := below_st b3 z4
    have hb4 := hb3.below z4
    have hwl4 := wrap_len4 b
    have n4l : n4 ≤ 400 := by have := s4.len; have := HB.out; omega
    clear hb3 b3
    go_wp2_with fail
    refine (octNew A4 n4 c4 _ w4 s4 (by omega)).mono ?_
    rintro e w5 ⟨g5, sv5, rfl, hg5, hc5, z5⟩
    have RO := btReadOctets g5 0 _ w5 hc5 (by have := HB.out; omega)
    rw [show rOpen (wrapB (tg5 4) b) 0 (tg5 4) = (b, (wrapB (tg5 4) b).length, 0) by simpa using rOpen_wrapB [] [] b (tg5 4) tr4 (by have := HB.out; omega)] at RO
    go_wp2_with fail
    refine RO.mono ?_
    rintro e w6 ⟨A6, n6, c6, rfl, s6, hk6, _, o6⟩
    have z6 : Below w4.heap.size w4 w6 := Only.below o6 z5 hg5 z5.size
    have b6 := below_st b4 z6
    have hb6 := hb4.below z6
    have s46 := s4.below z6
    clear hb4 b4 z6 o6 RO hc5 z5 o4 z4 s4
    go_wp2_with fail
    refine (known5 _).mono ?_
    rintro e w7 ⟨rfl, z7⟩
    have b7 := below_st b6 z7
    have hb7 := hb6.below z7
    have s47 := s46.below z7
    have s67 := s6.below z7
    clear hb6 b6 s46 s6 z7
    go_wp2_with fail
    refine (btWriteBool false _).mono ?_
    rintro e w8 ⟨A8, n8, c8, rfl, o8, z8⟩
    have s8 := o8.bs.1
    obtain rfl : n8 = 3 := s8.len.symm
    have b8 := below_st b7 z8
    have hb8 := hb7.below z8
    have s48 := s47.below z8
    have s68 := s67.below z8
    clear hb7 b7 s47 s67 z8 o8
    have p9 := Bs.newL w8 [1, 1, tb false] 5
    have a9 := below_alloc1 w8 (.cells ([1, 1, tb false].map byteV).toArray 5)
    have SM9 := refSame A8 _ 3 3 c8 3 _ _ _ (s8.below a9) p9 (by omega) (by omega)
    rw [decide_eq_true (show [1, 1, tb false] = [1, 1, tb false] from rfl)] at SM9
    have b9 := below_st b8 a9
    have hb9 := hb8.below a9
    have s49 := s48.below a9
    have s69 := s68.below a9
    go_wp2_with fail
    refine SM9.mono ?_
    rintro e w9 ⟨rfl, q9⟩
    have b10 := b9.trans q9.below
    have hb10 := hb9.qt q9
    have s410 := s49.qt q9
    have s610 := s69.qt q9
    clear hb8 b8 s48 s68 p9 a9 SM9 b9 hb9 s49 s69 s8
    go_wp2_with fail
    refine (btWriteNull _).mono ?_
    rintro e w11 ⟨A11, n11, c11, rfl, o11, z11⟩
    have s11 := o11.bs.1
    obtain rfl : n11 = 2 := s11.len.symm
    have b11 := below_st b10 z11
    have hb11 := hb10.below z11
    have s411 := s410.below z11
    have s611 := s610.below z11
    clear hb10 b10 s410 s610 z11 o11
    have p12 := Bs.new2 w11 5 0 5 0 5 rfl rfl
    have a12 := below_alloc1 w11 (.cells #[.int .u8 5, .int .u8 0] 5)
    have SM12 := refSame A11 _ 2 2 c11 2 _ _ _ (s11.below a12) p12 (by omega) (by omega)
    rw [decide_eq_true (show ([5, 0] : List UInt8) = [5, 0] from rfl)] at SM12
    have b12 := below_st b11 a12
    have hb12 := hb11.below a12
    have s412 := s411.below a12
    have s612 := s611.below a12
    go_wp2_with fail
    refine SM12.mono ?_
    rintro e w12 ⟨rfl, q12⟩
    have b13 := b12.trans q12.below
    have hb13 := hb12.qt q12
    have s413 := s412.qt q12
    have s613 := s612.qt q12
    clear hb11 b11 s411 s611 p12 a12 SM12 b12 hb12 s412 s612 s11
    go_wp2_with fail
    refine (btWriteNull _).mono ?_
    rintro e w14 ⟨A14, n14, c14, rfl, o14, z14⟩
    have s14 := o14.bs.1
    obtain rfl : n14 = 2 := s14.len.symm
    have b14 := below_st b13 z14
    have hb14 := hb13.below z14
    have s414 := s413.below z14
    have s614 := s613.below z14
    clear hb13 b13 s413 s613 z14 o14
    go_wp2_with fail
    refine (octNew A14 2 c14 _ w14 s14 (by omega)).mono ?_
    rintro e w15 ⟨g15, sv15, rfl, hg15, hc15, z15⟩
    have RN := btReadNull g15 0 _ w15 hc15 (by simp)
    rw [show rdNull [5, 0] 0 = (2, 0) by decide +kernel] at RN
    go_wp2_with fail
    refine RN.mono ?_
    rintro e w16 ⟨rfl, _, o16⟩
    have z16 : Below w14.heap.size w14 w16 := Only.below o16 z15 hg15 z15.size
    have b16 := below_st b14 z16
    have hb16 := hb14.below z16
    have s416 := s414.below z16
    have s616 := s614.below z16
    clear hb14 b14 s414 s614 z16 o16 RN hc15 z15 s14
    go_wp2_with fail
    refine (refOf 4 _).mono ?_
    rintro e w17 ⟨rfl, z17⟩
    have b17 := below_st b16 z17
    have hb17 := hb16.below z17
    have s417 := s416.below z17
    have s617 := s616.below z17
    clear hb16 b16 s416 s616 z17
    go_wp2_with fail
    refine (refWrap (tg5 4) B m d b _ tr4 hb17 (by omega)).mono ?_
    rintro e w18 ⟨A18, n18, c18, rfl, o18, z18⟩
    have s18 := o18.bs.1
    have b18 := below_st b17 z18
    have hb18 := hb17.below z18
    have s418 := s417.below z18
    have s618 := s617.below z18
    clear hb17 b17 s417 s617 z18 o18
    have SM18 := refSame A4 A18 n4 n18 c4 c18 _ _ w18 s418 s18 (by omega) (by have h1 := s18.len; have h2 := s418.len; omega)
    rw [decide_eq_true (show wrapB (tg5 4) b = wrapB (tg5 4) b from rfl)] at SM18
    go_wp2_with fail
    refine SM18.mono ?_
    rintro e w19 ⟨rfl, q19⟩
    have b19 := b18.trans q19.below
    have hb19 := hb18.qt q19
    have s619 := s618.qt q19
    clear hb18 b18 s418 s618 SM18 s18
    have SM19 := refSame A6 B n6 m c6 d b b w19 s619 hb19 (by have h1 := s619.len; have := HB.out; omega) (by omega)
    rw [decide_eq_true (show b = b from rfl)] at SM19
    go_wp2_with fail
    refine SM19.mono ?_
    rintro e w20 ⟨rfl, q20⟩
    have b20 := b19.trans q20.below
    go_wp2
    go_ret
    exact ⟨rfl, b20⟩

set_option maxHeartbeats 3200000 in
theorem lawWritesFR (u : Int) (A B : Option Addr) (n0 n c m0 m d : Nat) (l b : List UInt8) (w : World) (hn0 : n = min n0 300) (hm0 : m = min m0 300) (ha : Bs w A n l) (hbb : Bs w B m b) (hc0 : n0 ≤ c) (hd0 : m0 ≤ d) (hr : rightS u l = true) :
    Calls Try.prog 7 #[.agg #[.int .i64 u, .slice A n0 c], .bool false, .slice B m0 d] w fun e w' => e = .returned (.bool true) ∧ Below w.heap.size w w' := by
  have hc : n ≤ c := by omega
  have hn : n ≤ 300 := by omega
  have hd : m ≤ d := by omega
  have hm : m ≤ 300 := by omega
  have HL := Lib.hid ha.len
  have HB := Lib.hid hbb.len
  have tr3 : (tg5 3).right := by unfold Tg.right tg5; simp
  have tr4 : (tg5 4).right := by unfold Tg.right tg5; simp
  have hmin : min (m0 : Int) 300 = (m : Int) := by omega
  have hmin2 : (if (300 : Int) < (m0 : Int) then (300 : Int) else (m0 : Int)) = (m : Int) := by split <;> omega
  have m1 : (m : Int) ≤ (d : Int) := by omega
  have hR := Blk.new2 w (.int .i64 u) (.slice A n0 c) 24
  have b0 := below_alloc1 w (.cells #[.int .i64 u, .slice A n0 c] 24)
  have ha0 := ha.below b0
  have hb0 := hbb.below b0
  clear hm0
  go_enter Try.func7, Try.ntmps7
  go_upto_region 2 with (fail)
  generalize (w.alloc (Obj.cells #[.int .i64 u, .slice A n0 c] 24)) = W0 at *
  have ST0 : Hid (∀ W, Below W0.heap.size W0 W → (W.cell? ⟨w.heap.size, 0, none⟩ = some (.int .i64 u) ∧ W.cell? ⟨w.heap.size, 1, none⟩ = some (.slice A n0 c)) ∧ Bs W A n l ∧ Bs W B m b ∧ Below w.heap.size w W) :=
    fun W hW => ⟨⟨(hR.below hW).two.1, (hR.below hW).two.2.1⟩, ha0.below hW, hb0.below hW, below_st b0 hW⟩
  have SEC : Hid (∀ W, Below W0.heap.size W0 W → Below w.heap.size w W ∧ Bs W B m b) := fun W hW => ⟨(ST0.out W hW).2.2.2, (ST0.out W hW).2.2.1⟩
  obtain ⟨⟨r0, r1⟩, _, _, _⟩ := ST0.out _ (Below.refl _ _)
  clear hR ha0 hb0 b0 ha hbb
  have TO := Lib.hid (fun W => lw5To u A n0 c W hc0)
  rw [← hn0] at TO
  clear hn0
  go_wp2_with fail
  refine (TO.out _).mono ?_
  rintro e y1 ⟨rfl, Y1⟩
  clear r0 r1
  obtain ⟨⟨r0, r1⟩, ha1, _, _⟩ := ST0.out _ Y1
  obtain ⟨cl, hcl⟩ : ∃ cl, contS u l = cl := ⟨_, rfl⟩
  have hcll : cl.length ≤ 301 := by rw [← hcl, contS_len]; have := HL.out; omega
  have hprs : prsS cl = some (u, l) := by rw [← hcl]; exact prs_cont5 hr
  have WR := btWrite u A n c l y1 ha1 hc (by omega) hr
  rw [hcl] at WR
  go_wp2_with fail
  refine WR.mono ?_
  rintro e y2 ⟨A7, n7, c7, rfl, o7, y⟩
  have Y2 := below_st Y1 y
  have s7 := o7.bs.1
  have hwl := wrap_len3 cl
  have hn7 : n7 ≤ 1099511627776 := by have := s7.len; omega
  have hn7' : n7 ≤ 400 := by have := s7.len; omega
  clear r0 r1 ha1 o7 WR
  obtain ⟨⟨r0, r1⟩, _, _, _⟩ := ST0.out _ Y2
  go_wp2_with fail
  refine (TO.out _).mono ?_
  rintro e y3 ⟨rfl, y⟩
  have Y3 := below_st Y2 y
  clear r0 r1
  go_wp2_with fail
  refine (lw5Of u A n c _).mono ?_
  rintro e y4 ⟨rfl, y'⟩
  have Y4 := below_st Y3 y'
  have RT4 := rf5Right u A n c l y4 (ST0.out _ Y4).2.1 hc (by omega)
  rw [hr] at RT4
  go_wp2_with fail
  refine RT4.mono ?_
  rintro e y5 ⟨rfl, y''⟩
  have Y5 := below_st Y4 y''
  obtain ⟨⟨r0, r1⟩, _, _, _⟩ := ST0.out _ Y5
  have s75 := ((s7.below y).below y').below y''
  clear RT4 s7 y y' y''
  go_wp2_with fail
  refine (octNew A7 n7 c7 _ y5 s75 hn7).mono ?_
  rintro e y6 ⟨g6, sv6, rfl, hg6, hc6, z6⟩
  have RD := btRead g6 0 _ y6 hc6 (by omega)
  go_wp2_with fail
  refine RD.mono ?_
  rintro e y7 ⟨o7, _, _, c3⟩
  have hop : rOpen (wrapB (tg5 3) cl) 0 (tg5 3) = (cl, (wrapB (tg5 3) cl).length, 0) := by simpa using rOpen_wrapB [] [] cl (tg5 3) tr3 (by omega)
  rw [hop] at c3
  obtain ⟨⟨A9, n9, c9, rfl, s9, k9⟩, _⟩ := c3 rfl u l hprs
  have z7 : Below y5.heap.size y5 y7 := Only.below o7 z6 hg6 z6.size
  have Y7 := below_st Y5 z7
  have s77 := s75.below z7
  clear r0 r1 c3 hop o7 RD hc6 z6 s75 z7
  have hX := Blk.new2 y7 (.int .i64 u) (.slice A9 n9 c9) 25
  have Y8 := Y7.alloc (by have := Y7.size; omega) (.cells #[.int .i64 u, .slice A9 n9 c9] 25)
  have s78 := s77.below (below_alloc1 y7 (.cells #[.int .i64 u, .slice A9 n9 c9] 25))
  have s98 := s9.below (below_alloc1 y7 (.cells #[.int .i64 u, .slice A9 n9 c9] 25))
  go_upto_region 5 with (fail)
  generalize (y7.alloc (Obj.cells #[.int .i64 u, .slice A9 n9 c9] 25)) = W5 at *
  generalize y7.heap.size = g9 at *
  clear Y7 s77 s9
  have ST5 : Hid (∀ W, Below W5.heap.size W5 W → (W.cell? ⟨w.heap.size, 0, none⟩ = some (.int .i64 u) ∧ W.cell? ⟨w.heap.size, 1, none⟩ = some (.slice A n0 c) ∧ W.cell? ⟨g9, 0, none⟩ = some (.int .i64 u) ∧ W.cell? ⟨g9, 1, none⟩ = some (.slice A9 n9 c9)) ∧ Bs W A n l ∧ Bs W A7 n7 (wrapB (tg5 3) cl) ∧ Bs W A9 n9 l ∧ Below W0.heap.size W0 W) := by
    intro W hW
    have k := ST0.out _ (below_st Y8 hW)
    exact ⟨⟨k.1.1, k.1.2, (hX.below hW).two.1, (hX.below hW).two.2.1⟩, k.2.1, s78.below hW, s98.below hW, below_st Y8 hW⟩
  · skip
    refine wp_region_held_drew (S := fun w' => w'.cell? ⟨w.heap.size, 0, none⟩ = some (.int .i64 u) ∧ w'.cell? ⟨w.heap.size, 1, none⟩ = some (.slice A n0 c) ∧ w'.cell? ⟨g9, 0, none⟩ = some (.int .i64 u) ∧ w'.cell? ⟨g9, 1, none⟩ = some (.slice A9 n9 c9)) (by kernel_rfl) ?_ (fun hHeld => ?_)
    · (try dsimp only); exact (ST5.out _ (Below.refl _ _)).1
    refine wpAnyH_take (i := 0) (v := ?_) rfl (by kernel_rfl) (by kernel_rfl) (by kernel_rfl) (fun _ _ _ h => h) (Or.inl ⟨by kernel_rfl, ?_⟩) (by assumption) ?_
    rotate_left 1
    · (intro w hSw; (try dsimp only at hSw); go_simp) <;> (try with_reducible rfl)
    try simp only [Act.put, List.setIfInBounds_toArray, List.set_cons_zero, List.set_cons_succ, List.getElem_toArray, List.getElem_cons_succ, List.getElem_cons_zero]
    refine wpAnyH_take (i := 1) (v := ?_) rfl (by kernel_rfl) (by kernel_rfl) (by kernel_rfl) (fun _ _ _ h => h) (Or.inl ⟨by kernel_rfl, ?_⟩) (by assumption) ?_
    rotate_left 1
    · (intro w hSw; (try dsimp only at hSw); go_simp) <;> (try with_reducible rfl)
    try simp only [Act.put, List.setIfInBounds_toArray, List.set_cons_zero, List.set_cons_succ, List.getElem_toArray, List.getElem_cons_succ, List.getElem_cons_zero]
    refine wpAnyH_take (i := 2) (v := ?_) rfl (by kernel_rfl) (by kernel_rfl) (by kernel_rfl) (fun _ _ _ h => h) (Or.inl ⟨by kernel_rfl, ?_⟩) (by assumption) ?_
    rotate_left 1
    · (intro w hSw; (try dsimp only at hSw); go_simp) <;> (try with_reducible rfl)
    try simp only [Act.put, List.setIfInBounds_toArray, List.set_cons_zero, List.set_cons_succ, List.getElem_toArray, List.getElem_cons_succ, List.getElem_cons_zero]
    refine wpAnyH_take (i := 3) (v := ?_) rfl (by kernel_rfl) (by kernel_rfl) (by kernel_rfl) (fun _ _ _ h => h) (Or.inl ⟨by kernel_rfl, ?_⟩) (by assumption) ?_
    rotate_left 1
    · (intro w hSw; (try dsimp only at hSw); go_simp) <;> (try with_reducible rfl)
    try simp only [Act.put, List.setIfInBounds_toArray, List.set_cons_zero, List.set_cons_succ, List.getElem_toArray, List.getElem_cons_succ, List.getElem_cons_zero]
    refine wpAnyH_take (i := 5) (v := ?_) rfl (by kernel_rfl) (by kernel_rfl) (by kernel_rfl) (fun _ _ _ h => h) (Or.inl ⟨by kernel_rfl, ?_⟩) (by assumption) ?_
    rotate_left 1
    · (intro w hSw; (try dsimp only at hSw); go_simp) <;> (try with_reducible rfl)
    try simp only [Act.put, List.setIfInBounds_toArray, List.set_cons_zero, List.set_cons_succ, List.getElem_toArray, List.getElem_cons_succ, List.getElem_cons_zero]
    refine wpAnyH_ready (rs := [4]) (by kernel_rfl) (by simp) ?_
    refine AllReadyH.cons rfl (fun K hK => ?_) AllReadyH.nil
    go_simp
    refine (refOf 3 _).mono ?_
    rintro e v4 ⟨rfl, z4⟩
    have Z4 : Below W5.heap.size W5 v4 := Below.trans (Below.drew (Below.refl _ _)) z4
    go_wp2_with fail
    refine hK.out _ _ ?_ (fun hHeld => ?_)
    · (try dsimp only); exact (ST5.out _ Z4).1
    clear hK K
    try simp only [Act.put, List.setIfInBounds_toArray, List.set_cons_zero, List.set_cons_succ, List.getElem_toArray, List.getElem_cons_succ, List.getElem_cons_zero]
    refine wpAnyH_ready (rs := [6]) (by kernel_rfl) (by simp) ?_
    refine AllReadyH.cons rfl (fun K hK => ?_) AllReadyH.nil
    go_simp
    refine (TO.out _).mono ?_
    rintro e v6 ⟨rfl, z6⟩
    have Z6 := below_st Z4 z6
    go_wp2_with fail
    refine hK.out _ _ ?_ (fun hHeld => ?_)
    · (try dsimp only); exact (ST5.out _ Z6).1
    clear hK K
    try simp only [Act.put, List.setIfInBounds_toArray, List.set_cons_zero, List.set_cons_succ, List.getElem_toArray, List.getElem_cons_succ, List.getElem_cons_zero]
    refine wpAnyH_ready (rs := [7]) (by kernel_rfl) (by simp) ?_
    refine AllReadyH.cons rfl (fun K hK => ?_) AllReadyH.nil
    go_simp
    refine (lw5Of u A n c _).mono ?_
    rintro e v7 ⟨rfl, z7⟩
    have Z7 := below_st Z6 z7
    go_wp2_with fail
    refine hK.out _ _ ?_ (fun hHeld => ?_)
    · (try dsimp only); exact (ST5.out _ Z7).1
    clear hK K
    try simp only [Act.put, List.setIfInBounds_toArray, List.set_cons_zero, List.set_cons_succ, List.getElem_toArray, List.getElem_cons_succ, List.getElem_cons_zero]
    refine wpAnyH_ready (rs := [8]) (by kernel_rfl) (by simp) ?_
    refine AllReadyH.cons rfl (fun K hK => ?_) AllReadyH.nil
    go_simp
    refine (rf5Contents u A n c l _ (ST5.out _ Z7).2.1 (by omega) hr).mono ?_
    rintro e v8 ⟨A8, n8, c8, rfl, o8, z8⟩
    have Z8 := below_st Z7 z8
    go_wp2_with fail
    refine hK.out _ _ ?_ (fun hHeld => ?_)
    · (try dsimp only); exact (ST5.out _ Z8).1
    clear hK K
    try simp only [Act.put, List.setIfInBounds_toArray, List.set_cons_zero, List.set_cons_succ, List.getElem_toArray, List.getElem_cons_succ, List.getElem_cons_zero]
    refine wpAnyH_ready (rs := [9]) (by kernel_rfl) (by simp) ?_
    refine AllReadyH.cons rfl (fun K hK => ?_) AllReadyH.nil
    go_simp
    have hn8 : n8 ≤ 16777217 := by have := o8.bs.1.len; rw [contS_len] at this; have := HL.out; omega
    refine (refWrap (tg5 3) A8 n8 c8 cl _ tr3 (by have := o8.bs.1; rw [hcl] at this; exact this) hn8).mono ?_
    rintro e v9 ⟨A9', n9', c9', rfl, o9, z9⟩
    have Z9 := below_st Z8 z9
    go_wp2_with fail
    refine hK.out _ _ ?_ (fun hHeld => ?_)
    · (try dsimp only); exact (ST5.out _ Z9).1
    clear hK K
    try simp only [Act.put, List.setIfInBounds_toArray, List.set_cons_zero, List.set_cons_succ, List.getElem_toArray, List.getElem_cons_succ, List.getElem_cons_zero]
    refine wpAnyH_ready (rs := [10]) (by kernel_rfl) (by simp) ?_
    refine AllReadyH.cons rfl (fun K hK => ?_) AllReadyH.nil
    go_simp
    have SM10 := refSame A7 A9' n7 n9' c7 c9' _ _ v9 ((ST5.out _ Z9).2.2.1) o9.bs.1 hn7 (by have h1 := o9.bs.1.len; omega)
    rw [decide_eq_true (show wrapB (tg5 3) cl = wrapB (tg5 3) cl from rfl)] at SM10
    refine (SM10).mono ?_
    rintro e v10 ⟨rfl, q10⟩
    have Z10 := Z9.trans q10.below
    go_wp2_with fail
    refine hK.out _ _ ?_ (fun hHeld => ?_)
    · (try dsimp only); exact (ST5.out _ Z10).1
    clear hK K
    try simp only [Act.put, List.setIfInBounds_toArray, List.set_cons_zero, List.set_cons_succ, List.getElem_toArray, List.getElem_cons_succ, List.getElem_cons_zero]
    refine wpAnyH_take (i := 11) (v := ?_) rfl (by kernel_rfl) (by kernel_rfl) (by kernel_rfl) (fun _ _ _ h => h) (Or.inl ⟨by kernel_rfl, ?_⟩) (by assumption) ?_
    rotate_left 1
    · (intro w hSw; (try dsimp only at hSw); go_simp) <;> (try with_reducible rfl)
    try simp only [Act.put, List.setIfInBounds_toArray, List.set_cons_zero, List.set_cons_succ, List.getElem_toArray, List.getElem_cons_succ, List.getElem_cons_zero]
    refine wpAnyH_take (i := 12) (v := ?_) rfl (by kernel_rfl) (by kernel_rfl) (by kernel_rfl) (fun _ _ _ h => h) (Or.inl ⟨by kernel_rfl, ?_⟩) (by assumption) ?_
    rotate_left 1
    · (intro w hSw; (try dsimp only at hSw); go_simp) <;> (try with_reducible rfl)
    try simp only [Act.put, List.setIfInBounds_toArray, List.set_cons_zero, List.set_cons_succ, List.getElem_toArray, List.getElem_cons_succ, List.getElem_cons_zero]
    refine wpAnyH_take (i := 13) (v := ?_) rfl (by kernel_rfl) (by kernel_rfl) (by kernel_rfl) (fun _ _ _ h => h) (Or.inl ⟨by kernel_rfl, ?_⟩) (by assumption) ?_
    rotate_left 1
    · (intro w hSw; (try dsimp only at hSw); go_simp) <;> (try with_reducible rfl)
    try simp only [Act.put, List.setIfInBounds_toArray, List.set_cons_zero, List.set_cons_succ, List.getElem_toArray, List.getElem_cons_succ, List.getElem_cons_zero]
    refine wpAnyH_take (i := 14) (v := ?_) rfl (by kernel_rfl) (by kernel_rfl) (by kernel_rfl) (fun _ _ _ h => h) (Or.inl ⟨by kernel_rfl, ?_⟩) (by assumption) ?_
    rotate_left 1
    · (intro w hSw; (try dsimp only at hSw); go_simp) <;> (try with_reducible rfl)
    try simp only [Act.put, List.setIfInBounds_toArray, List.set_cons_zero, List.set_cons_succ, List.getElem_toArray, List.getElem_cons_succ, List.getElem_cons_zero]
    refine wpAnyH_take (i := 15) (v := ?_) rfl (by kernel_rfl) (by kernel_rfl) (by kernel_rfl) (fun _ _ _ h => h) (Or.inl ⟨by kernel_rfl, ?_⟩) (by assumption) ?_
    rotate_left 1
    · (intro w hSw; (try dsimp only at hSw); go_simp) <;> (try with_reducible rfl)
    try simp only [Act.put, List.setIfInBounds_toArray, List.set_cons_zero, List.set_cons_succ, List.getElem_toArray, List.getElem_cons_succ, List.getElem_cons_zero]
    refine wpAnyH_take (i := 16) (v := ?_) rfl (by kernel_rfl) (by kernel_rfl) (by kernel_rfl) (fun _ _ _ h => h) (Or.inl ⟨by kernel_rfl, ?_⟩) (by assumption) ?_
    rotate_left 1
    · (intro w hSw; (try dsimp only at hSw); go_simp) <;> (try with_reducible rfl)
    try simp only [Act.put, List.setIfInBounds_toArray, List.set_cons_zero, List.set_cons_succ, List.getElem_toArray, List.getElem_cons_succ, List.getElem_cons_zero]
    refine wpAnyH_take (i := 17) (v := ?_) rfl (by kernel_rfl) (by kernel_rfl) (by kernel_rfl) (fun _ _ _ h => h) (Or.inl ⟨by kernel_rfl, ?_⟩) (by assumption) ?_
    rotate_left 1
    · (intro w hSw; (try dsimp only at hSw); go_simp) <;> (try with_reducible rfl)
    try simp only [Act.put, List.setIfInBounds_toArray, List.set_cons_zero, List.set_cons_succ, List.getElem_toArray, List.getElem_cons_succ, List.getElem_cons_zero]
    refine wpAnyH_take (i := 18) (v := ?_) rfl (by kernel_rfl) (by kernel_rfl) (by kernel_rfl) (fun _ _ _ h => h) (Or.inl ⟨by kernel_rfl, ?_⟩) (by assumption) ?_
    rotate_left 1
    · (intro w hSw; (try dsimp only at hSw); go_simp) <;> (try with_reducible rfl)
    try simp only [Act.put, List.setIfInBounds_toArray, List.set_cons_zero, List.set_cons_succ, List.getElem_toArray, List.getElem_cons_succ, List.getElem_cons_zero]
    refine wpAnyH_take (i := 20) (v := ?_) rfl (by kernel_rfl) (by kernel_rfl) (by kernel_rfl) (fun _ _ _ h => h) (Or.inl ⟨by kernel_rfl, ?_⟩) (by assumption) ?_
    rotate_left 1
    · (intro w hSw; (try dsimp only at hSw); go_simp) <;> (try with_reducible rfl)
    try simp only [Act.put, List.setIfInBounds_toArray, List.set_cons_zero, List.set_cons_succ, List.getElem_toArray, List.getElem_cons_succ, List.getElem_cons_zero]
    refine wpAnyH_ready (rs := [19]) (by kernel_rfl) (by simp) ?_
    refine AllReadyH.cons rfl (fun K hK => ?_) AllReadyH.nil
    go_simp
    refine (lw5Of u A9 n9 c9 _).mono ?_
    rintro e v19 ⟨rfl, z19⟩
    have Z19 := below_st Z10 z19
    go_wp2_with fail
    refine hK.out _ _ ?_ (fun hHeld => ?_)
    · (try dsimp only); exact (ST5.out _ Z19).1
    clear hK K
    try simp only [Act.put, List.setIfInBounds_toArray, List.set_cons_zero, List.set_cons_succ, List.getElem_toArray, List.getElem_cons_succ, List.getElem_cons_zero]
    refine wpAnyH_ready (rs := [21]) (by kernel_rfl) (by simp) ?_
    refine AllReadyH.cons rfl (fun K hK => ?_) AllReadyH.nil
    go_simp
    refine (TO.out _).mono ?_
    rintro e v21 ⟨rfl, z21⟩
    have Z21 := below_st Z19 z21
    go_wp2_with fail
    refine hK.out _ _ ?_ (fun hHeld => ?_)
    · (try dsimp only); exact (ST5.out _ Z21).1
    clear hK K
    try simp only [Act.put, List.setIfInBounds_toArray, List.set_cons_zero, List.set_cons_succ, List.getElem_toArray, List.getElem_cons_succ, List.getElem_cons_zero]
    refine wpAnyH_ready (rs := [22]) (by kernel_rfl) (by simp) ?_
    refine AllReadyH.cons rfl (fun K hK => ?_) AllReadyH.nil
    go_simp
    refine (lw5Of u A n c _).mono ?_
    rintro e v22 ⟨rfl, z22⟩
    have Z22 := below_st Z21 z22
    go_wp2_with fail
    refine hK.out _ _ ?_ (fun hHeld => ?_)
    · (try dsimp only); exact (ST5.out _ Z22).1
    clear hK K
    try simp only [Act.put, List.setIfInBounds_toArray, List.set_cons_zero, List.set_cons_succ, List.getElem_toArray, List.getElem_cons_succ, List.getElem_cons_zero]
    refine wpAnyH_ready (rs := [23]) (by kernel_rfl) (by simp) ?_
    refine AllReadyH.cons rfl (fun K hK => ?_) AllReadyH.nil
    go_simp
    have SM23 := rf5Same u u A9 A n9 n c9 c l l _ (ST5.out _ Z22).2.2.2.1 (ST5.out _ Z22).2.1
    rw [decide_eq_true (show (u, l) = (u, l) from rfl)] at SM23
    refine SM23.mono ?_
    rintro e v23 ⟨rfl, z23⟩
    have Z23 := below_st Z22 z23
    go_wp2_with fail
    refine hK.out _ _ ?_ (fun hHeld => ?_)
    · (try dsimp only); exact (ST5.out _ Z23).1
    clear hK K
    try simp only [Act.put, List.setIfInBounds_toArray, List.set_cons_zero, List.set_cons_succ, List.getElem_toArray, List.getElem_cons_succ, List.getElem_cons_zero]
    refine wpAnyH_take (i := 24) (v := ?_) rfl (by kernel_rfl) (by kernel_rfl) (by kernel_rfl) (fun _ _ _ h => h) (Or.inl ⟨by kernel_rfl, ?_⟩) (by assumption) ?_
    rotate_left 1
    · (intro w hSw; (try dsimp only at hSw); go_simp) <;> (try with_reducible rfl)
    try simp only [Act.put, List.setIfInBounds_toArray, List.set_cons_zero, List.set_cons_succ, List.getElem_toArray, List.getElem_cons_succ, List.getElem_cons_zero]
    refine wpAnyH_take (i := 25) (v := ?_) rfl (by kernel_rfl) (by kernel_rfl) (by kernel_rfl) (fun _ _ _ h => h) (Or.inl ⟨by kernel_rfl, ?_⟩) (by assumption) ?_
    rotate_left 1
    · (intro w hSw; (try dsimp only at hSw); go_simp) <;> (try with_reducible rfl)
    try simp only [Act.put, List.setIfInBounds_toArray, List.set_cons_zero, List.set_cons_succ, List.getElem_toArray, List.getElem_cons_succ, List.getElem_cons_zero]
    refine wpAnyH_done (by kernel_rfl) ?_ _
    have ZZ := (ST5.out _ Z23).2.2.2.2
    clear ST5 TO ST0 s78 s98 hX Y8
    go_upto_region 12 with (fail)
    -- the second half
    obtain ⟨bW, hbW⟩ := SEC.out _ ZZ
    clear ZZ
    go_wp2_with fail
    refine (btWriteBool false _).mono ?_
    rintro e w1 ⟨A1, n1, c1, rfl, o1, z1⟩
    have s1 := o1.bs.1
    obtain rfl : n1 = 3 := s1.len.symm
    have b1 := below_st bW z1
    have hb1 := hbW.below z1
    go_wp2_with fail
    refine (octNew A1 3 c1 _ w1 s1 (by omega)).mono ?_
    rintro e w2 ⟨g2, sv2, rfl, hg2, hc2, z2⟩
    have RB := btReadBool g2 0 _ w2 hc2 (by simp)
    rw [show rdBool [1, 1, tb false] 0 = (false, 3, 0) by decide +kernel] at RB
    go_wp2_with fail
    refine RB.mono ?_
    rintro e w3 ⟨rfl, _, o3⟩
    have z3 : Below w1.heap.size w1 w3 := Only.below o3 z2 hg2 z2.size
    have b3 := below_st b1 z3
    have hb3 := hb1.below z3
    clear hb1 b1 z3 o3 RB hc2 z2 s1 o1 hbW bW z1
    go_wp2_with fail
    refine (btWriteOctets B m d b _ hb3 hd (by omega)).mono ?_
    rintro e w4 ⟨A4, n4, c4, rfl, o4, z4⟩
    have s4 := o4.bs.1
    have b4 := below_st b3 z4
    have hb4 := hb3.below z4
    have hwl4 := wrap_len4 b
    have n4l : n4 ≤ 400 := by have := s4.len; have := HB.out; omega
    clear hb3 b3
    go_wp2_with fail
    refine (octNew A4 n4 c4 _ w4 s4 (by omega)).mono ?_
    rintro e w5 ⟨g5, sv5, rfl, hg5, hc5, z5⟩
    have RO := btReadOctets g5 0 _ w5 hc5 (by have := HB.out; omega)
    rw [show rOpen (wrapB (tg5 4) b) 0 (tg5 4) = (b, (wrapB (tg5 4) b).length, 0) by simpa using rOpen_wrapB [] [] b (tg5 4) tr4 (by have := HB.out; omega)] at RO
    go_wp2_with fail
    refine RO.mono ?_
    rintro e w6 ⟨A6, n6, c6, rfl, s6, hk6, _, o6⟩
    have z6 : Below w4.heap.size w4 w6 := Only.below o6 z5 hg5 z5.size
    have b6 := below_st b4 z6
    have hb6 := hb4.below z6
    have s46 := s4.below z6
    clear hb4 b4 z6 o6 RO hc5 z5 o4 z4 s4
    go_wp2_with fail
    refine (known5 _).mono ?_
    rintro e w7 ⟨rfl, z7⟩
    have b7 := below_st b6 z7
    have hb7 := hb6.below z7
    have s47 := s46.below z7
    have s67 := s6.below z7
    clear hb6 b6 s46 s6 z7
    go_wp2_with fail
    refine (btWriteBool false _).mono ?_
    rintro e w8 ⟨A8, n8, c8, rfl, o8, z8⟩
    have s8 := o8.bs.1
    obtain rfl : n8 = 3 := s8.len.symm
    have b8 := below_st b7 z8
    have hb8 := hb7.below z8
    have s48 := s47.below z8
    have s68 := s67.below z8
    clear hb7 b7 s47 s67 z8 o8
    have p9 := Bs.newL w8 [1, 1, tb false] 5
    have a9 := below_alloc1 w8 (.cells ([1, 1, tb false].map byteV).toArray 5)
    have SM9 := refSame A8 _ 3 3 c8 3 _ _ _ (s8.below a9) p9 (by omega) (by omega)
    rw [decide_eq_true (show [1, 1, tb false] = [1, 1, tb false] from rfl)] at SM9
    have b9 := below_st b8 a9
    have hb9 := hb8.below a9
    have s49 := s48.below a9
    have s69 := s68.below a9
    go_wp2_with fail
    refine SM9.mono ?_
    rintro e w9 ⟨rfl, q9⟩
    have b10 := b9.trans q9.below
    have hb10 := hb9.qt q9
    have s410 := s49.qt q9
    have s610 := s69.qt q9
    clear hb8 b8 s48 s68 p9 a9 SM9 b9 hb9 s49 s69 s8
    go_wp2_with fail
    refine (btWriteNull _).mono ?_
    rintro e w11 ⟨A11, n11, c11, rfl, o11, z11⟩
    have s11 := o11.bs.1
    obtain rfl : n11 = 2 := s11.len.symm
    have b11 := below_st b10 z11
    have hb11 := hb10.below z11
    have s411 := s410.below z11
    have s611 := s610.below z11
    clear hb10 b10 s410 s610 z11 o11
    have p12 := Bs.new2 w11 5 0 5 0 5 rfl rfl
    have a12 := below_alloc1 w11 (.cells #[.int .u8 5, .int .u8 0] 5)
    have SM12 := refSame A11 _ 2 2 c11 2 _ _ _ (s11.below a12) p12 (by omega) (by omega)
    rw [decide_eq_true (show ([5, 0] : List UInt8) = [5, 0] from rfl)] at SM12
    have b12 := below_st b11 a12
    have hb12 := hb11.below a12
    have s412 := s411.below a12
    have s612 := s611.below a12
    go_wp2_with fail
    refine SM12.mono ?_
    rintro e w12 ⟨rfl, q12⟩
    have b13 := b12.trans q12.below
    have hb13 := hb12.qt q12
    have s413 := s412.qt q12
    have s613 := s612.qt q12
    clear hb11 b11 s411 s611 p12 a12 SM12 b12 hb12 s412 s612 s11
    go_wp2_with fail
    refine (btWriteNull _).mono ?_
    rintro e w14 ⟨A14, n14, c14, rfl, o14, z14⟩
    have s14 := o14.bs.1
    obtain rfl : n14 = 2 := s14.len.symm
    have b14 := below_st b13 z14
    have hb14 := hb13.below z14
    have s414 := s413.below z14
    have s614 := s613.below z14
    clear hb13 b13 s413 s613 z14 o14
    go_wp2_with fail
    refine (octNew A14 2 c14 _ w14 s14 (by omega)).mono ?_
    rintro e w15 ⟨g15, sv15, rfl, hg15, hc15, z15⟩
    have RN := btReadNull g15 0 _ w15 hc15 (by simp)
    rw [show rdNull [5, 0] 0 = (2, 0) by decide +kernel] at RN
    go_wp2_with fail
    refine RN.mono ?_
    rintro e w16 ⟨rfl, _, o16⟩
    have z16 : Below w14.heap.size w14 w16 := Only.below o16 z15 hg15 z15.size
    have b16 := below_st b14 z16
    have hb16 := hb14.below z16
    have s416 := s414.below z16
    have s616 := s614.below z16
    clear hb14 b14 s414 s614 z16 o16 RN hc15 z15 s14
    go_wp2_with fail
    refine (refOf 4 _).mono ?_
    rintro e w17 ⟨rfl, z17⟩
    have b17 := below_st b16 z17
    have hb17 := hb16.below z17
    have s417 := s416.below z17
    have s617 := s616.below z17
    clear hb16 b16 s416 s616 z17
    go_wp2_with fail
    refine (refWrap (tg5 4) B m d b _ tr4 hb17 (by omega)).mono ?_
    rintro e w18 ⟨A18, n18, c18, rfl, o18, z18⟩
    have s18 := o18.bs.1
    have b18 := below_st b17 z18
    have hb18 := hb17.below z18
    have s418 := s417.below z18
    have s618 := s617.below z18
    clear hb17 b17 s417 s617 z18 o18
    have SM18 := refSame A4 A18 n4 n18 c4 c18 _ _ w18 s418 s18 (by omega) (by have h1 := s18.len; have h2 := s418.len; omega)
    rw [decide_eq_true (show wrapB (tg5 4) b = wrapB (tg5 4) b from rfl)] at SM18
    go_wp2_with fail
    refine SM18.mono ?_
    rintro e w19 ⟨rfl, q19⟩
    have b19 := b18.trans q19.below
    have hb19 := hb18.qt q19
    have s619 := s618.qt q19
    clear hb18 b18 s418 s618 SM18 s18
    have SM19 := refSame A6 B n6 m c6 d b b w19 s619 hb19 (by have h1 := s619.len; have := HB.out; omega) (by omega)
    rw [decide_eq_true (show b = b from rfl)] at SM19
    go_wp2_with fail
    refine SM19.mono ?_
    rintro e w20 ⟨rfl, q20⟩
    have b20 := b19.trans q20.below
    go_wp2
    go_ret
    exact ⟨rfl, b20⟩

set_option maxHeartbeats 3200000 in
theorem lawWritesTN (u : Int) (A B : Option Addr) (n0 n c m0 m d : Nat) (l b : List UInt8) (w : World) (hn0 : n = min n0 300) (hm0 : m = min m0 300) (ha : Bs w A n l) (hbb : Bs w B m b) (hc0 : n0 ≤ c) (hd0 : m0 ≤ d) (hr : rightS u l = false) :
    Calls Try.prog 7 #[.agg #[.int .i64 u, .slice A n0 c], .bool true, .slice B m0 d] w fun e w' => e = .returned (.bool true) ∧ Below w.heap.size w w' := by
  have hc : n ≤ c := by omega
  have hn : n ≤ 300 := by omega
  have hd : m ≤ d := by omega
  have hm : m ≤ 300 := by omega
  have HL := Lib.hid ha.len
  have HB := Lib.hid hbb.len
  have tr3 : (tg5 3).right := by unfold Tg.right tg5; simp
  have tr4 : (tg5 4).right := by unfold Tg.right tg5; simp
  have hmin : min (m0 : Int) 300 = (m : Int) := by omega
  have hmin2 : (if (300 : Int) < (m0 : Int) then (300 : Int) else (m0 : Int)) = (m : Int) := by split <;> omega
  have m1 : (m : Int) ≤ (d : Int) := by omega
  have hR := Blk.new2 w (.int .i64 u) (.slice A n0 c) 24
  have b0 := below_alloc1 w (.cells #[.int .i64 u, .slice A n0 c] 24)
  have ha0 := ha.below b0
  have hb0 := hbb.below b0
  clear hm0
  go_enter Try.func7, Try.ntmps7
  go_upto_region 2 with (fail)
  generalize (w.alloc (Obj.cells #[.int .i64 u, .slice A n0 c] 24)) = W0 at *
  have ST0 : Hid (∀ W, Below W0.heap.size W0 W → (W.cell? ⟨w.heap.size, 0, none⟩ = some (.int .i64 u) ∧ W.cell? ⟨w.heap.size, 1, none⟩ = some (.slice A n0 c)) ∧ Bs W A n l ∧ Bs W B m b ∧ Below w.heap.size w W) :=
    fun W hW => ⟨⟨(hR.below hW).two.1, (hR.below hW).two.2.1⟩, ha0.below hW, hb0.below hW, below_st b0 hW⟩
  have SEC : Hid (∀ W, Below W0.heap.size W0 W → Below w.heap.size w W ∧ Bs W B m b) := fun W hW => ⟨(ST0.out W hW).2.2.2, (ST0.out W hW).2.2.1⟩
  obtain ⟨⟨r0, r1⟩, _, _, _⟩ := ST0.out _ (Below.refl _ _)
  clear hR ha0 hb0 b0 ha hbb
  have TO := Lib.hid (fun W => lw5To u A n0 c W hc0)
  rw [← hn0] at TO
  clear hn0
  go_wp2_with fail
  refine (TO.out _).mono ?_
  rintro e y1 ⟨rfl, Y1⟩
  clear r0 r1
  obtain ⟨⟨r0, r1⟩, ha1, _, _⟩ := ST0.out _ Y1
  go_wp2_with fail
  refine (btWriteNo u A n c l _ ha1 (by omega) hr).mono ?_
  rintro e y2 ⟨rfl, y⟩
  have Y2 := below_st Y1 y
  clear r0 r1 ha1
  obtain ⟨⟨r0, r1⟩, _, _, _⟩ := ST0.out _ Y2
  go_wp2_with fail
  refine (TO.out _).mono ?_
  rintro e y3 ⟨rfl, y⟩
  have Y3 := below_st Y2 y
  clear r0 r1
  go_wp2_with fail
  refine (lw5Of u A n c _).mono ?_
  rintro e y4 ⟨rfl, y'⟩
  have Y4 := below_st Y3 y'
  have RT4 := rf5Right u A n c l y4 (ST0.out _ Y4).2.1 hc (by omega)
  rw [hr] at RT4
  go_wp2_with fail
  refine RT4.mono ?_
  rintro e y5 ⟨rfl, y''⟩
  have Y5 := below_st Y4 y''
  obtain ⟨⟨r0, r1⟩, _, _, _⟩ := ST0.out _ Y5
  · go_upto_region 12 with (fail)
    have ZZ := Y5
    clear r0 r1 RT4 TO ST0
    -- the second half
    obtain ⟨bW, hbW⟩ := SEC.out _ ZZ
    clear ZZ
    go_wp2_with fail
    refine (btWriteBool true _).mono ?_
    rintro e w1 ⟨A1, n1, c1, rfl, o1, z1⟩
    have s1 := o1.bs.1
    obtain rfl : n1 = 3 := s1.len.symm
    have b1 := below_st bW z1
    have hb1 := hbW.below z1
    go_wp2_with fail
    refine (octNew A1 3 c1 _ w1 s1 (by omega)).mono ?_
    rintro e w2 ⟨g2, sv2, rfl, hg2, hc2, z2⟩
    have RB := btReadBool g2 0 _ w2 hc2 (by simp)
    rw [show rdBool [1, 1, tb true] 0 = (true, 3, 0) by decide +kernel] at RB
    go_wp2_with fail
    refine RB.mono ?_
    rintro e w3 ⟨rfl, _, o3⟩
    have z3 : Below w1.heap.size w1 w3 := Only.below o3 z2 hg2 z2.size
    have b3 := below_st b1 z3
    have hb3 := hb1.below z3
    clear hb1 b1 z3 o3 RB hc2 z2 s1 o1 hbW bW z1
    go_wp2_with fail
    refine (btWriteOctets B m d b _ hb3 hd (by omega)).mono ?_
    rintro e w4 ⟨A4, n4, c4, rfl, o4, z4⟩
    have s4 := o4.bs.1
    have b4 := below_st b3 z4
    have hb4 := hb3.below z4
    have hwl4 := wrap_len4 b
    have n4l : n4 ≤ 400 := by have := s4.len; have := HB.out; omega
    clear hb3 b3
    go_wp2_with fail
    refine (octNew A4 n4 c4 _ w4 s4 (by omega)).mono ?_
    rintro e w5 ⟨g5, sv5, rfl, hg5, hc5, z5⟩
    have RO := btReadOctets g5 0 _ w5 hc5 (by have := HB.out; omega)
    rw [show rOpen (wrapB (tg5 4) b) 0 (tg5 4) = (b, (wrapB (tg5 4) b).length, 0) by simpa using rOpen_wrapB [] [] b (tg5 4) tr4 (by have := HB.out; omega)] at RO
    go_wp2_with fail
    refine RO.mono ?_
    rintro e w6 ⟨A6, n6, c6, rfl, s6, hk6, _, o6⟩
    have z6 : Below w4.heap.size w4 w6 := Only.below o6 z5 hg5 z5.size
    have b6 := below_st b4 z6
    have hb6 := hb4.below z6
    have s46 := s4.below z6
    clear hb4 b4 z6 o6 RO hc5 z5 o4 z4 s4
    go_wp2_with fail
    refine (known5 _).mono ?_
    rintro e w7 ⟨rfl, z7⟩
    have b7 := below_st b6 z7
    have hb7 := hb6.below z7
    have s47 := s46.below z7
    have s67 := s6.below z7
    clear hb6 b6 s46 s6 z7
    go_wp2_with fail
    refine (btWriteBool true _).mono ?_
    rintro e w8 ⟨A8, n8, c8, rfl, o8, z8⟩
    have s8 := o8.bs.1
    obtain rfl : n8 = 3 := s8.len.symm
    have b8 := below_st b7 z8
    have hb8 := hb7.below z8
    have s48 := s47.below z8
    have s68 := s67.below z8
    clear hb7 b7 s47 s67 z8 o8
    have p9 := Bs.newL w8 [1, 1, tb true] 5
    have a9 := below_alloc1 w8 (.cells ([1, 1, tb true].map byteV).toArray 5)
    have SM9 := refSame A8 _ 3 3 c8 3 _ _ _ (s8.below a9) p9 (by omega) (by omega)
    rw [decide_eq_true (show [1, 1, tb true] = [1, 1, tb true] from rfl)] at SM9
    have b9 := below_st b8 a9
    have hb9 := hb8.below a9
    have s49 := s48.below a9
    have s69 := s68.below a9
    go_wp2_with fail
    refine SM9.mono ?_
    rintro e w9 ⟨rfl, q9⟩
    have b10 := b9.trans q9.below
    have hb10 := hb9.qt q9
    have s410 := s49.qt q9
    have s610 := s69.qt q9
    clear hb8 b8 s48 s68 p9 a9 SM9 b9 hb9 s49 s69 s8
    go_wp2_with fail
    refine (btWriteNull _).mono ?_
    rintro e w11 ⟨A11, n11, c11, rfl, o11, z11⟩
    have s11 := o11.bs.1
    obtain rfl : n11 = 2 := s11.len.symm
    have b11 := below_st b10 z11
    have hb11 := hb10.below z11
    have s411 := s410.below z11
    have s611 := s610.below z11
    clear hb10 b10 s410 s610 z11 o11
    have p12 := Bs.new2 w11 5 0 5 0 5 rfl rfl
    have a12 := below_alloc1 w11 (.cells #[.int .u8 5, .int .u8 0] 5)
    have SM12 := refSame A11 _ 2 2 c11 2 _ _ _ (s11.below a12) p12 (by omega) (by omega)
    rw [decide_eq_true (show ([5, 0] : List UInt8) = [5, 0] from rfl)] at SM12
    have b12 := below_st b11 a12
    have hb12 := hb11.below a12
    have s412 := s411.below a12
    have s612 := s611.below a12
    go_wp2_with fail
    refine SM12.mono ?_
    rintro e w12 ⟨rfl, q12⟩
    have b13 := b12.trans q12.below
    have hb13 := hb12.qt q12
    have s413 := s412.qt q12
    have s613 := s612.qt q12
    clear hb11 b11 s411 s611 p12 a12 SM12 b12 hb12 s412 s612 s11
    go_wp2_with fail
    refine (btWriteNull _).mono ?_
    rintro e w14 ⟨A14, n14, c14, rfl, o14, z14⟩
    have s14 := o14.bs.1
    obtain rfl : n14 = 2 := s14.len.symm
    have b14 := below_st b13 z14
    have hb14 := hb13.below z14
    have s414 := s413.below z14
    have s614 := s613.below z14
    clear hb13 b13 s413 s613 z14 o14
    go_wp2_with fail
    refine (octNew A14 2 c14 _ w14 s14 (by omega)).mono ?_
    rintro e w15 ⟨g15, sv15, rfl, hg15, hc15, z15⟩
    have RN := btReadNull g15 0 _ w15 hc15 (by simp)
    rw [show rdNull [5, 0] 0 = (2, 0) by decide +kernel] at RN
    go_wp2_with fail
    refine RN.mono ?_
    rintro e w16 ⟨rfl, _, o16⟩
    have z16 : Below w14.heap.size w14 w16 := Only.below o16 z15 hg15 z15.size
    have b16 := below_st b14 z16
    have hb16 := hb14.below z16
    have s416 := s414.below z16
    have s616 := s614.below z16
    clear hb14 b14 s414 s614 z16 o16 RN hc15 z15 s14
    go_wp2_with fail
    refine (refOf 4 _).mono ?_
    rintro e w17 ⟨rfl, z17⟩
    have b17 := below_st b16 z17
    have hb17 := hb16.below z17
    have s417 := s416.below z17
    have s617 := s616.below z17
    clear hb16 b16 s416 s616 z17
    go_wp2_with fail
    refine (refWrap (tg5 4) B m d b _ tr4 hb17 (by omega)).mono ?_
    rintro e w18 ⟨A18, n18, c18, rfl, o18, z18⟩
    have s18 := o18.bs.1
    have b18 := below_st b17 z18
    have hb18 := hb17.below z18
    have s418 := s417.below z18
    have s618 := s617.below z18
    clear hb17 b17 s417 s617 z18 o18
    have SM18 := refSame A4 A18 n4 n18 c4 c18 _ _ w18 s418 s18 (by omega) (by have h1 := s18.len; have h2 := s418.len; omega)
    rw [decide_eq_true (show wrapB (tg5 4) b = wrapB (tg5 4) b from rfl)] at SM18
    go_wp2_with fail
    refine SM18.mono ?_
    rintro e w19 ⟨rfl, q19⟩
    have b19 := b18.trans q19.below
    have hb19 := hb18.qt q19
    have s619 := s618.qt q19
    clear hb18 b18 s418 s618 SM18 s18
    have SM19 := refSame A6 B n6 m c6 d b b w19 s619 hb19 (by have h1 := s619.len; have := HB.out; omega) (by omega)
    rw [decide_eq_true (show b = b from rfl)] at SM19
    go_wp2_with fail
    refine SM19.mono ?_
    rintro e w20 ⟨rfl, q20⟩
    have b20 := b19.trans q20.below
    go_wp2
    go_ret
    exact ⟨rfl, b20⟩

set_option maxHeartbeats 3200000 in
theorem lawWritesTR (u : Int) (A B : Option Addr) (n0 n c m0 m d : Nat) (l b : List UInt8) (w : World) (hn0 : n = min n0 300) (hm0 : m = min m0 300) (ha : Bs w A n l) (hbb : Bs w B m b) (hc0 : n0 ≤ c) (hd0 : m0 ≤ d) (hr : rightS u l = true) :
    Calls Try.prog 7 #[.agg #[.int .i64 u, .slice A n0 c], .bool true, .slice B m0 d] w fun e w' => e = .returned (.bool true) ∧ Below w.heap.size w w' := by
  have hc : n ≤ c := by omega
  have hn : n ≤ 300 := by omega
  have hd : m ≤ d := by omega
  have hm : m ≤ 300 := by omega
  have HL := Lib.hid ha.len
  have HB := Lib.hid hbb.len
  have tr3 : (tg5 3).right := by unfold Tg.right tg5; simp
  have tr4 : (tg5 4).right := by unfold Tg.right tg5; simp
  have hmin : min (m0 : Int) 300 = (m : Int) := by omega
  have hmin2 : (if (300 : Int) < (m0 : Int) then (300 : Int) else (m0 : Int)) = (m : Int) := by split <;> omega
  have m1 : (m : Int) ≤ (d : Int) := by omega
  have hR := Blk.new2 w (.int .i64 u) (.slice A n0 c) 24
  have b0 := below_alloc1 w (.cells #[.int .i64 u, .slice A n0 c] 24)
  have ha0 := ha.below b0
  have hb0 := hbb.below b0
  clear hm0
  go_enter Try.func7, Try.ntmps7
  go_upto_region 2 with (fail)
  generalize (w.alloc (Obj.cells #[.int .i64 u, .slice A n0 c] 24)) = W0 at *
  have ST0 : Hid (∀ W, Below W0.heap.size W0 W → (W.cell? ⟨w.heap.size, 0, none⟩ = some (.int .i64 u) ∧ W.cell? ⟨w.heap.size, 1, none⟩ = some (.slice A n0 c)) ∧ Bs W A n l ∧ Bs W B m b ∧ Below w.heap.size w W) :=
    fun W hW => ⟨⟨(hR.below hW).two.1, (hR.below hW).two.2.1⟩, ha0.below hW, hb0.below hW, below_st b0 hW⟩
  have SEC : Hid (∀ W, Below W0.heap.size W0 W → Below w.heap.size w W ∧ Bs W B m b) := fun W hW => ⟨(ST0.out W hW).2.2.2, (ST0.out W hW).2.2.1⟩
  obtain ⟨⟨r0, r1⟩, _, _, _⟩ := ST0.out _ (Below.refl _ _)
  clear hR ha0 hb0 b0 ha hbb
  have TO := Lib.hid (fun W => lw5To u A n0 c W hc0)
  rw [← hn0] at TO
  clear hn0
  go_wp2_with fail
  refine (TO.out _).mono ?_
  rintro e y1 ⟨rfl, Y1⟩
  clear r0 r1
  obtain ⟨⟨r0, r1⟩, ha1, _, _⟩ := ST0.out _ Y1
  obtain ⟨cl, hcl⟩ : ∃ cl, contS u l = cl := ⟨_, rfl⟩
  have hcll : cl.length ≤ 301 := by rw [← hcl, contS_len]; have := HL.out; omega
  have hprs : prsS cl = some (u, l) := by rw [← hcl]; exact prs_cont5 hr
  have WR := btWrite u A n c l y1 ha1 hc (by omega) hr
  rw [hcl] at WR
  go_wp2_with fail
  refine WR.mono ?_
  rintro e y2 ⟨A7, n7, c7, rfl, o7, y⟩
  have Y2 := below_st Y1 y
  have s7 := o7.bs.1
  have hwl := wrap_len3 cl
  have hn7 : n7 ≤ 1099511627776 := by have := s7.len; omega
  have hn7' : n7 ≤ 400 := by have := s7.len; omega
  clear r0 r1 ha1 o7 WR
  obtain ⟨⟨r0, r1⟩, _, _, _⟩ := ST0.out _ Y2
  go_wp2_with fail
  refine (TO.out _).mono ?_
  rintro e y3 ⟨rfl, y⟩
  have Y3 := below_st Y2 y
  clear r0 r1
  go_wp2_with fail
  refine (lw5Of u A n c _).mono ?_
  rintro e y4 ⟨rfl, y'⟩
  have Y4 := below_st Y3 y'
  have RT4 := rf5Right u A n c l y4 (ST0.out _ Y4).2.1 hc (by omega)
  rw [hr] at RT4
  go_wp2_with fail
  refine RT4.mono ?_
  rintro e y5 ⟨rfl, y''⟩
  have Y5 := below_st Y4 y''
  obtain ⟨⟨r0, r1⟩, _, _, _⟩ := ST0.out _ Y5
  have s75 := ((s7.below y).below y').below y''
  clear RT4 s7 y y' y''
  go_wp2_with fail
  refine (octNew A7 n7 c7 _ y5 s75 hn7).mono ?_
  rintro e y6 ⟨g6, sv6, rfl, hg6, hc6, z6⟩
  have RD := btRead g6 0 _ y6 hc6 (by omega)
  go_wp2_with fail
  refine RD.mono ?_
  rintro e y7 ⟨o7, _, _, c3⟩
  have hop : rOpen (wrapB (tg5 3) cl) 0 (tg5 3) = (cl, (wrapB (tg5 3) cl).length, 0) := by simpa using rOpen_wrapB [] [] cl (tg5 3) tr3 (by omega)
  rw [hop] at c3
  obtain ⟨⟨A9, n9, c9, rfl, s9, k9⟩, _⟩ := c3 rfl u l hprs
  have z7 : Below y5.heap.size y5 y7 := Only.below o7 z6 hg6 z6.size
  have Y7 := below_st Y5 z7
  have s77 := s75.below z7
  clear r0 r1 c3 hop o7 RD hc6 z6 s75 z7
  have hX := Blk.new2 y7 (.int .i64 u) (.slice A9 n9 c9) 25
  have Y8 := Y7.alloc (by have := Y7.size; omega) (.cells #[.int .i64 u, .slice A9 n9 c9] 25)
  have s78 := s77.below (below_alloc1 y7 (.cells #[.int .i64 u, .slice A9 n9 c9] 25))
  have s98 := s9.below (below_alloc1 y7 (.cells #[.int .i64 u, .slice A9 n9 c9] 25))
  go_upto_region 5 with (fail)
  generalize (y7.alloc (Obj.cells #[.int .i64 u, .slice A9 n9 c9] 25)) = W5 at *
  generalize y7.heap.size = g9 at *
  clear Y7 s77 s9
  have ST5 : Hid (∀ W, Below W5.heap.size W5 W → (W.cell? ⟨w.heap.size, 0, none⟩ = some (.int .i64 u) ∧ W.cell? ⟨w.heap.size, 1, none⟩ = some (.slice A n0 c) ∧ W.cell? ⟨g9, 0, none⟩ = some (.int .i64 u) ∧ W.cell? ⟨g9, 1, none⟩ = some (.slice A9 n9 c9)) ∧ Bs W A n l ∧ Bs W A7 n7 (wrapB (tg5 3) cl) ∧ Bs W A9 n9 l ∧ Below W0.heap.size W0 W) := by
    intro W hW
    have k := ST0.out _ (below_st Y8 hW)
    exact ⟨⟨k.1.1, k.1.2, (hX.below hW).two.1, (hX.below hW).two.2.1⟩, k.2.1, s78.below hW, s98.below hW, below_st Y8 hW⟩
  · skip
    refine wp_region_held_drew (S := fun w' => w'.cell? ⟨w.heap.size, 0, none⟩ = some (.int .i64 u) ∧ w'.cell? ⟨w.heap.size, 1, none⟩ = some (.slice A n0 c) ∧ w'.cell? ⟨g9, 0, none⟩ = some (.int .i64 u) ∧ w'.cell? ⟨g9, 1, none⟩ = some (.slice A9 n9 c9)) (by kernel_rfl) ?_ (fun hHeld => ?_)
    · (try dsimp only); exact (ST5.out _ (Below.refl _ _)).1
    refine wpAnyH_take (i := 0) (v := ?_) rfl (by kernel_rfl) (by kernel_rfl) (by kernel_rfl) (fun _ _ _ h => h) (Or.inl ⟨by kernel_rfl, ?_⟩) (by assumption) ?_
    rotate_left 1
    · (intro w hSw; (try dsimp only at hSw); go_simp) <;> (try with_reducible rfl)
    try simp only [Act.put, List.setIfInBounds_toArray, List.set_cons_zero, List.set_cons_succ, List.getElem_toArray, List.getElem_cons_succ, List.getElem_cons_zero]
    refine wpAnyH_take (i := 1) (v := ?_) rfl (by kernel_rfl) (by kernel_rfl) (by kernel_rfl) (fun _ _ _ h => h) (Or.inl ⟨by kernel_rfl, ?_⟩) (by assumption) ?_
    rotate_left 1
    · (intro w hSw; (try dsimp only at hSw); go_simp) <;> (try with_reducible rfl)
    try simp only [Act.put, List.setIfInBounds_toArray, List.set_cons_zero, List.set_cons_succ, List.getElem_toArray, List.getElem_cons_succ, List.getElem_cons_zero]
    refine wpAnyH_take (i := 2) (v := ?_) rfl (by kernel_rfl) (by kernel_rfl) (by kernel_rfl) (fun _ _ _ h => h) (Or.inl ⟨by kernel_rfl, ?_⟩) (by assumption) ?_
    rotate_left 1
    · (intro w hSw; (try dsimp only at hSw); go_simp) <;> (try with_reducible rfl)
    try simp only [Act.put, List.setIfInBounds_toArray, List.set_cons_zero, List.set_cons_succ, List.getElem_toArray, List.getElem_cons_succ, List.getElem_cons_zero]
    refine wpAnyH_take (i := 3) (v := ?_) rfl (by kernel_rfl) (by kernel_rfl) (by kernel_rfl) (fun _ _ _ h => h) (Or.inl ⟨by kernel_rfl, ?_⟩) (by assumption) ?_
    rotate_left 1
    · (intro w hSw; (try dsimp only at hSw); go_simp) <;> (try with_reducible rfl)
    try simp only [Act.put, List.setIfInBounds_toArray, List.set_cons_zero, List.set_cons_succ, List.getElem_toArray, List.getElem_cons_succ, List.getElem_cons_zero]
    refine wpAnyH_take (i := 5) (v := ?_) rfl (by kernel_rfl) (by kernel_rfl) (by kernel_rfl) (fun _ _ _ h => h) (Or.inl ⟨by kernel_rfl, ?_⟩) (by assumption) ?_
    rotate_left 1
    · (intro w hSw; (try dsimp only at hSw); go_simp) <;> (try with_reducible rfl)
    try simp only [Act.put, List.setIfInBounds_toArray, List.set_cons_zero, List.set_cons_succ, List.getElem_toArray, List.getElem_cons_succ, List.getElem_cons_zero]
    refine wpAnyH_ready (rs := [4]) (by kernel_rfl) (by simp) ?_
    refine AllReadyH.cons rfl (fun K hK => ?_) AllReadyH.nil
    go_simp
    refine (refOf 3 _).mono ?_
    rintro e v4 ⟨rfl, z4⟩
    have Z4 : Below W5.heap.size W5 v4 := Below.trans (Below.drew (Below.refl _ _)) z4
    go_wp2_with fail
    refine hK.out _ _ ?_ (fun hHeld => ?_)
    · (try dsimp only); exact (ST5.out _ Z4).1
    clear hK K
    try simp only [Act.put, List.setIfInBounds_toArray, List.set_cons_zero, List.set_cons_succ, List.getElem_toArray, List.getElem_cons_succ, List.getElem_cons_zero]
    refine wpAnyH_ready (rs := [6]) (by kernel_rfl) (by simp) ?_
    refine AllReadyH.cons rfl (fun K hK => ?_) AllReadyH.nil
    go_simp
    refine (TO.out _).mono ?_
    rintro e v6 ⟨rfl, z6⟩
    have Z6 := below_st Z4 z6
    go_wp2_with fail
    refine hK.out _ _ ?_ (fun hHeld => ?_)
    · (try dsimp only); exact (ST5.out _ Z6).1
    clear hK K
    try simp only [Act.put, List.setIfInBounds_toArray, List.set_cons_zero, List.set_cons_succ, List.getElem_toArray, List.getElem_cons_succ, List.getElem_cons_zero]
    refine wpAnyH_ready (rs := [7]) (by kernel_rfl) (by simp) ?_
    refine AllReadyH.cons rfl (fun K hK => ?_) AllReadyH.nil
    go_simp
    refine (lw5Of u A n c _).mono ?_
    rintro e v7 ⟨rfl, z7⟩
    have Z7 := below_st Z6 z7
    go_wp2_with fail
    refine hK.out _ _ ?_ (fun hHeld => ?_)
    · (try dsimp only); exact (ST5.out _ Z7).1
    clear hK K
    try simp only [Act.put, List.setIfInBounds_toArray, List.set_cons_zero, List.set_cons_succ, List.getElem_toArray, List.getElem_cons_succ, List.getElem_cons_zero]
    refine wpAnyH_ready (rs := [8]) (by kernel_rfl) (by simp) ?_
    refine AllReadyH.cons rfl (fun K hK => ?_) AllReadyH.nil
    go_simp
    refine (rf5Contents u A n c l _ (ST5.out _ Z7).2.1 (by omega) hr).mono ?_
    rintro e v8 ⟨A8, n8, c8, rfl, o8, z8⟩
    have Z8 := below_st Z7 z8
    go_wp2_with fail
    refine hK.out _ _ ?_ (fun hHeld => ?_)
    · (try dsimp only); exact (ST5.out _ Z8).1
    clear hK K
    try simp only [Act.put, List.setIfInBounds_toArray, List.set_cons_zero, List.set_cons_succ, List.getElem_toArray, List.getElem_cons_succ, List.getElem_cons_zero]
    refine wpAnyH_ready (rs := [9]) (by kernel_rfl) (by simp) ?_
    refine AllReadyH.cons rfl (fun K hK => ?_) AllReadyH.nil
    go_simp
    have hn8 : n8 ≤ 16777217 := by have := o8.bs.1.len; rw [contS_len] at this; have := HL.out; omega
    refine (refWrap (tg5 3) A8 n8 c8 cl _ tr3 (by have := o8.bs.1; rw [hcl] at this; exact this) hn8).mono ?_
    rintro e v9 ⟨A9', n9', c9', rfl, o9, z9⟩
    have Z9 := below_st Z8 z9
    go_wp2_with fail
    refine hK.out _ _ ?_ (fun hHeld => ?_)
    · (try dsimp only); exact (ST5.out _ Z9).1
    clear hK K
    try simp only [Act.put, List.setIfInBounds_toArray, List.set_cons_zero, List.set_cons_succ, List.getElem_toArray, List.getElem_cons_succ, List.getElem_cons_zero]
    refine wpAnyH_ready (rs := [10]) (by kernel_rfl) (by simp) ?_
    refine AllReadyH.cons rfl (fun K hK => ?_) AllReadyH.nil
    go_simp
    have SM10 := refSame A7 A9' n7 n9' c7 c9' _ _ v9 ((ST5.out _ Z9).2.2.1) o9.bs.1 hn7 (by have h1 := o9.bs.1.len; omega)
    rw [decide_eq_true (show wrapB (tg5 3) cl = wrapB (tg5 3) cl from rfl)] at SM10
    refine (SM10).mono ?_
    rintro e v10 ⟨rfl, q10⟩
    have Z10 := Z9.trans q10.below
    go_wp2_with fail
    refine hK.out _ _ ?_ (fun hHeld => ?_)
    · (try dsimp only); exact (ST5.out _ Z10).1
    clear hK K
    try simp only [Act.put, List.setIfInBounds_toArray, List.set_cons_zero, List.set_cons_succ, List.getElem_toArray, List.getElem_cons_succ, List.getElem_cons_zero]
    refine wpAnyH_take (i := 11) (v := ?_) rfl (by kernel_rfl) (by kernel_rfl) (by kernel_rfl) (fun _ _ _ h => h) (Or.inl ⟨by kernel_rfl, ?_⟩) (by assumption) ?_
    rotate_left 1
    · (intro w hSw; (try dsimp only at hSw); go_simp) <;> (try with_reducible rfl)
    try simp only [Act.put, List.setIfInBounds_toArray, List.set_cons_zero, List.set_cons_succ, List.getElem_toArray, List.getElem_cons_succ, List.getElem_cons_zero]
    refine wpAnyH_take (i := 12) (v := ?_) rfl (by kernel_rfl) (by kernel_rfl) (by kernel_rfl) (fun _ _ _ h => h) (Or.inl ⟨by kernel_rfl, ?_⟩) (by assumption) ?_
    rotate_left 1
    · (intro w hSw; (try dsimp only at hSw); go_simp) <;> (try with_reducible rfl)
    try simp only [Act.put, List.setIfInBounds_toArray, List.set_cons_zero, List.set_cons_succ, List.getElem_toArray, List.getElem_cons_succ, List.getElem_cons_zero]
    refine wpAnyH_take (i := 13) (v := ?_) rfl (by kernel_rfl) (by kernel_rfl) (by kernel_rfl) (fun _ _ _ h => h) (Or.inl ⟨by kernel_rfl, ?_⟩) (by assumption) ?_
    rotate_left 1
    · (intro w hSw; (try dsimp only at hSw); go_simp) <;> (try with_reducible rfl)
    try simp only [Act.put, List.setIfInBounds_toArray, List.set_cons_zero, List.set_cons_succ, List.getElem_toArray, List.getElem_cons_succ, List.getElem_cons_zero]
    refine wpAnyH_take (i := 14) (v := ?_) rfl (by kernel_rfl) (by kernel_rfl) (by kernel_rfl) (fun _ _ _ h => h) (Or.inl ⟨by kernel_rfl, ?_⟩) (by assumption) ?_
    rotate_left 1
    · (intro w hSw; (try dsimp only at hSw); go_simp) <;> (try with_reducible rfl)
    try simp only [Act.put, List.setIfInBounds_toArray, List.set_cons_zero, List.set_cons_succ, List.getElem_toArray, List.getElem_cons_succ, List.getElem_cons_zero]
    refine wpAnyH_take (i := 15) (v := ?_) rfl (by kernel_rfl) (by kernel_rfl) (by kernel_rfl) (fun _ _ _ h => h) (Or.inl ⟨by kernel_rfl, ?_⟩) (by assumption) ?_
    rotate_left 1
    · (intro w hSw; (try dsimp only at hSw); go_simp) <;> (try with_reducible rfl)
    try simp only [Act.put, List.setIfInBounds_toArray, List.set_cons_zero, List.set_cons_succ, List.getElem_toArray, List.getElem_cons_succ, List.getElem_cons_zero]
    refine wpAnyH_take (i := 16) (v := ?_) rfl (by kernel_rfl) (by kernel_rfl) (by kernel_rfl) (fun _ _ _ h => h) (Or.inl ⟨by kernel_rfl, ?_⟩) (by assumption) ?_
    rotate_left 1
    · (intro w hSw; (try dsimp only at hSw); go_simp) <;> (try with_reducible rfl)
    try simp only [Act.put, List.setIfInBounds_toArray, List.set_cons_zero, List.set_cons_succ, List.getElem_toArray, List.getElem_cons_succ, List.getElem_cons_zero]
    refine wpAnyH_take (i := 17) (v := ?_) rfl (by kernel_rfl) (by kernel_rfl) (by kernel_rfl) (fun _ _ _ h => h) (Or.inl ⟨by kernel_rfl, ?_⟩) (by assumption) ?_
    rotate_left 1
    · (intro w hSw; (try dsimp only at hSw); go_simp) <;> (try with_reducible rfl)
    try simp only [Act.put, List.setIfInBounds_toArray, List.set_cons_zero, List.set_cons_succ, List.getElem_toArray, List.getElem_cons_succ, List.getElem_cons_zero]
    refine wpAnyH_take (i := 18) (v := ?_) rfl (by kernel_rfl) (by kernel_rfl) (by kernel_rfl) (fun _ _ _ h => h) (Or.inl ⟨by kernel_rfl, ?_⟩) (by assumption) ?_
    rotate_left 1
    · (intro w hSw; (try dsimp only at hSw); go_simp) <;> (try with_reducible rfl)
    try simp only [Act.put, List.setIfInBounds_toArray, List.set_cons_zero, List.set_cons_succ, List.getElem_toArray, List.getElem_cons_succ, List.getElem_cons_zero]
    refine wpAnyH_take (i := 20) (v := ?_) rfl (by kernel_rfl) (by kernel_rfl) (by kernel_rfl) (fun _ _ _ h => h) (Or.inl ⟨by kernel_rfl, ?_⟩) (by assumption) ?_
    rotate_left 1
    · (intro w hSw; (try dsimp only at hSw); go_simp) <;> (try with_reducible rfl)
    try simp only [Act.put, List.setIfInBounds_toArray, List.set_cons_zero, List.set_cons_succ, List.getElem_toArray, List.getElem_cons_succ, List.getElem_cons_zero]
    refine wpAnyH_ready (rs := [19]) (by kernel_rfl) (by simp) ?_
    refine AllReadyH.cons rfl (fun K hK => ?_) AllReadyH.nil
    go_simp
    refine (lw5Of u A9 n9 c9 _).mono ?_
    rintro e v19 ⟨rfl, z19⟩
    have Z19 := below_st Z10 z19
    go_wp2_with fail
    refine hK.out _ _ ?_ (fun hHeld => ?_)
    · (try dsimp only); exact (ST5.out _ Z19).1
    clear hK K
    try simp only [Act.put, List.setIfInBounds_toArray, List.set_cons_zero, List.set_cons_succ, List.getElem_toArray, List.getElem_cons_succ, List.getElem_cons_zero]
    refine wpAnyH_ready (rs := [21]) (by kernel_rfl) (by simp) ?_
    refine AllReadyH.cons rfl (fun K hK => ?_) AllReadyH.nil
    go_simp
    refine (TO.out _).mono ?_
    rintro e v21 ⟨rfl, z21⟩
    have Z21 := below_st Z19 z21
    go_wp2_with fail
    refine hK.out _ _ ?_ (fun hHeld => ?_)
    · (try dsimp only); exact (ST5.out _ Z21).1
    clear hK K
    try simp only [Act.put, List.setIfInBounds_toArray, List.set_cons_zero, List.set_cons_succ, List.getElem_toArray, List.getElem_cons_succ, List.getElem_cons_zero]
    refine wpAnyH_ready (rs := [22]) (by kernel_rfl) (by simp) ?_
    refine AllReadyH.cons rfl (fun K hK => ?_) AllReadyH.nil
    go_simp
    refine (lw5Of u A n c _).mono ?_
    rintro e v22 ⟨rfl, z22⟩
    have Z22 := below_st Z21 z22
    go_wp2_with fail
    refine hK.out _ _ ?_ (fun hHeld => ?_)
    · (try dsimp only); exact (ST5.out _ Z22).1
    clear hK K
    try simp only [Act.put, List.setIfInBounds_toArray, List.set_cons_zero, List.set_cons_succ, List.getElem_toArray, List.getElem_cons_succ, List.getElem_cons_zero]
    refine wpAnyH_ready (rs := [23]) (by kernel_rfl) (by simp) ?_
    refine AllReadyH.cons rfl (fun K hK => ?_) AllReadyH.nil
    go_simp
    have SM23 := rf5Same u u A9 A n9 n c9 c l l _ (ST5.out _ Z22).2.2.2.1 (ST5.out _ Z22).2.1
    rw [decide_eq_true (show (u, l) = (u, l) from rfl)] at SM23
    refine SM23.mono ?_
    rintro e v23 ⟨rfl, z23⟩
    have Z23 := below_st Z22 z23
    go_wp2_with fail
    refine hK.out _ _ ?_ (fun hHeld => ?_)
    · (try dsimp only); exact (ST5.out _ Z23).1
    clear hK K
    try simp only [Act.put, List.setIfInBounds_toArray, List.set_cons_zero, List.set_cons_succ, List.getElem_toArray, List.getElem_cons_succ, List.getElem_cons_zero]
    refine wpAnyH_take (i := 24) (v := ?_) rfl (by kernel_rfl) (by kernel_rfl) (by kernel_rfl) (fun _ _ _ h => h) (Or.inl ⟨by kernel_rfl, ?_⟩) (by assumption) ?_
    rotate_left 1
    · (intro w hSw; (try dsimp only at hSw); go_simp) <;> (try with_reducible rfl)
    try simp only [Act.put, List.setIfInBounds_toArray, List.set_cons_zero, List.set_cons_succ, List.getElem_toArray, List.getElem_cons_succ, List.getElem_cons_zero]
    refine wpAnyH_take (i := 25) (v := ?_) rfl (by kernel_rfl) (by kernel_rfl) (by kernel_rfl) (fun _ _ _ h => h) (Or.inl ⟨by kernel_rfl, ?_⟩) (by assumption) ?_
    rotate_left 1
    · (intro w hSw; (try dsimp only at hSw); go_simp) <;> (try with_reducible rfl)
    try simp only [Act.put, List.setIfInBounds_toArray, List.set_cons_zero, List.set_cons_succ, List.getElem_toArray, List.getElem_cons_succ, List.getElem_cons_zero]
    refine wpAnyH_done (by kernel_rfl) ?_ _
    have ZZ := (ST5.out _ Z23).2.2.2.2
    clear ST5 TO ST0 s78 s98 hX Y8
    go_upto_region 12 with (fail)
    -- the second half
    obtain ⟨bW, hbW⟩ := SEC.out _ ZZ
    clear ZZ
    go_wp2_with fail
    refine (btWriteBool true _).mono ?_
    rintro e w1 ⟨A1, n1, c1, rfl, o1, z1⟩
    have s1 := o1.bs.1
    obtain rfl : n1 = 3 := s1.len.symm
    have b1 := below_st bW z1
    have hb1 := hbW.below z1
    go_wp2_with fail
    refine (octNew A1 3 c1 _ w1 s1 (by omega)).mono ?_
    rintro e w2 ⟨g2, sv2, rfl, hg2, hc2, z2⟩
    have RB := btReadBool g2 0 _ w2 hc2 (by simp)
    rw [show rdBool [1, 1, tb true] 0 = (true, 3, 0) by decide +kernel] at RB
    go_wp2_with fail
    refine RB.mono ?_
    rintro e w3 ⟨rfl, _, o3⟩
    have z3 : Below w1.heap.size w1 w3 := Only.below o3 z2 hg2 z2.size
    have b3 := below_st b1 z3
    have hb3 := hb1.below z3
    clear hb1 b1 z3 o3 RB hc2 z2 s1 o1 hbW bW z1
    go_wp2_with fail
    refine (btWriteOctets B m d b _ hb3 hd (by omega)).mono ?_
    rintro e w4 ⟨A4, n4, c4, rfl, o4, z4⟩
    have s4 := o4.bs.1
    have b4 := below_st b3 z4
    have hb4 := hb3.below z4
    have hwl4 := wrap_len4 b
    have n4l : n4 ≤ 400 := by have := s4.len; have := HB.out; omega
    clear hb3 b3
    go_wp2_with fail
    refine (octNew A4 n4 c4 _ w4 s4 (by omega)).mono ?_
    rintro e w5 ⟨g5, sv5, rfl, hg5, hc5, z5⟩
    have RO := btReadOctets g5 0 _ w5 hc5 (by have := HB.out; omega)
    rw [show rOpen (wrapB (tg5 4) b) 0 (tg5 4) = (b, (wrapB (tg5 4) b).length, 0) by simpa using rOpen_wrapB [] [] b (tg5 4) tr4 (by have := HB.out; omega)] at RO
    go_wp2_with fail
    refine RO.mono ?_
    rintro e w6 ⟨A6, n6, c6, rfl, s6, hk6, _, o6⟩
    have z6 : Below w4.heap.size w4 w6 := Only.below o6 z5 hg5 z5.size
    have b6 := below_st b4 z6
    have hb6 := hb4.below z6
    have s46 := s4.below z6
    clear hb4 b4 z6 o6 RO hc5 z5 o4 z4 s4
    go_wp2_with fail
    refine (known5 _).mono ?_
    rintro e w7 ⟨rfl, z7⟩
    have b7 := below_st b6 z7
    have hb7 := hb6.below z7
    have s47 := s46.below z7
    have s67 := s6.below z7
    clear hb6 b6 s46 s6 z7
    go_wp2_with fail
    refine (btWriteBool true _).mono ?_
    rintro e w8 ⟨A8, n8, c8, rfl, o8, z8⟩
    have s8 := o8.bs.1
    obtain rfl : n8 = 3 := s8.len.symm
    have b8 := below_st b7 z8
    have hb8 := hb7.below z8
    have s48 := s47.below z8
    have s68 := s67.below z8
    clear hb7 b7 s47 s67 z8 o8
    have p9 := Bs.newL w8 [1, 1, tb true] 5
    have a9 := below_alloc1 w8 (.cells ([1, 1, tb true].map byteV).toArray 5)
    have SM9 := refSame A8 _ 3 3 c8 3 _ _ _ (s8.below a9) p9 (by omega) (by omega)
    rw [decide_eq_true (show [1, 1, tb true] = [1, 1, tb true] from rfl)] at SM9
    have b9 := below_st b8 a9
    have hb9 := hb8.below a9
    have s49 := s48.below a9
    have s69 := s68.below a9
    go_wp2_with fail
    refine SM9.mono ?_
    rintro e w9 ⟨rfl, q9⟩
    have b10 := b9.trans q9.below
    have hb10 := hb9.qt q9
    have s410 := s49.qt q9
    have s610 := s69.qt q9
    clear hb8 b8 s48 s68 p9 a9 SM9 b9 hb9 s49 s69 s8
    go_wp2_with fail
    refine (btWriteNull _).mono ?_
    rintro e w11 ⟨A11, n11, c11, rfl, o11, z11⟩
    have s11 := o11.bs.1
    obtain rfl : n11 = 2 := s11.len.symm
    have b11 := below_st b10 z11
    have hb11 := hb10.below z11
    have s411 := s410.below z11
    have s611 := s610.below z11
    clear hb10 b10 s410 s610 z11 o11
    have p12 := Bs.new2 w11 5 0 5 0 5 rfl rfl
    have a12 := below_alloc1 w11 (.cells #[.int .u8 5, .int .u8 0] 5)
    have SM12 := refSame A11 _ 2 2 c11 2 _ _ _ (s11.below a12) p12 (by omega) (by omega)
    rw [decide_eq_true (show ([5, 0] : List UInt8) = [5, 0] from rfl)] at SM12
    have b12 := below_st b11 a12
    have hb12 := hb11.below a12
    have s412 := s411.below a12
    have s612 := s611.below a12
    go_wp2_with fail
    refine SM12.mono ?_
    rintro e w12 ⟨rfl, q12⟩
    have b13 := b12.trans q12.below
    have hb13 := hb12.qt q12
    have s413 := s412.qt q12
    have s613 := s612.qt q12
    clear hb11 b11 s411 s611 p12 a12 SM12 b12 hb12 s412 s612 s11
    go_wp2_with fail
    refine (btWriteNull _).mono ?_
    rintro e w14 ⟨A14, n14, c14, rfl, o14, z14⟩
    have s14 := o14.bs.1
    obtain rfl : n14 = 2 := s14.len.symm
    have b14 := below_st b13 z14
    have hb14 := hb13.below z14
    have s414 := s413.below z14
    have s614 := s613.below z14
    clear hb13 b13 s413 s613 z14 o14
    go_wp2_with fail
    refine (octNew A14 2 c14 _ w14 s14 (by omega)).mono ?_
    rintro e w15 ⟨g15, sv15, rfl, hg15, hc15, z15⟩
    have RN := btReadNull g15 0 _ w15 hc15 (by simp)
    rw [show rdNull [5, 0] 0 = (2, 0) by decide +kernel] at RN
    go_wp2_with fail
    refine RN.mono ?_
    rintro e w16 ⟨rfl, _, o16⟩
    have z16 : Below w14.heap.size w14 w16 := Only.below o16 z15 hg15 z15.size
    have b16 := below_st b14 z16
    have hb16 := hb14.below z16
    have s416 := s414.below z16
    have s616 := s614.below z16
    clear hb14 b14 s414 s614 z16 o16 RN hc15 z15 s14
    go_wp2_with fail
    refine (refOf 4 _).mono ?_
    rintro e w17 ⟨rfl, z17⟩
    have b17 := below_st b16 z17
    have hb17 := hb16.below z17
    have s417 := s416.below z17
    have s617 := s616.below z17
    clear hb16 b16 s416 s616 z17
    go_wp2_with fail
    refine (refWrap (tg5 4) B m d b _ tr4 hb17 (by omega)).mono ?_
    rintro e w18 ⟨A18, n18, c18, rfl, o18, z18⟩
    have s18 := o18.bs.1
    have b18 := below_st b17 z18
    have hb18 := hb17.below z18
    have s418 := s417.below z18
    have s618 := s617.below z18
    clear hb17 b17 s417 s617 z18 o18
    have SM18 := refSame A4 A18 n4 n18 c4 c18 _ _ w18 s418 s18 (by omega) (by have h1 := s18.len; have h2 := s418.len; omega)
    rw [decide_eq_true (show wrapB (tg5 4) b = wrapB (tg5 4) b from rfl)] at SM18
    go_wp2_with fail
    refine SM18.mono ?_
    rintro e w19 ⟨rfl, q19⟩
    have b19 := b18.trans q19.below
    have hb19 := hb18.qt q19
    have s619 := s618.qt q19
    clear hb18 b18 s418 s618 SM18 s18
    have SM19 := refSame A6 B n6 m c6 d b b w19 s619 hb19 (by have h1 := s619.len; have := HB.out; omega) (by omega)
    rw [decide_eq_true (show b = b from rfl)] at SM19
    go_wp2_with fail
    refine SM19.mono ?_
    rintro e w20 ⟨rfl, q20⟩
    have b20 := b19.trans q20.below
    go_wp2
    go_ret
    exact ⟨rfl, b20⟩

theorem lawWrites (u : Int) (x : Bool) (A B : Option Addr) (n c m d : Nat) (l b : List UInt8) (w : World) (ha : Bs w A n l) (hb : Bs w B m b) (hc : n ≤ c) (hd : m ≤ d) :
    Calls Try.prog 7 #[.agg #[.int .i64 u, .slice A n c], .bool x, .slice B m d] w fun e w' => e = .returned (.bool true) ∧ Below w.heap.size w w' := by
  have h1 := ha.take (m := min n 300) (Nat.min_le_left _ _)
  have h2 := hb.take (m := min m 300) (Nat.min_le_left _ _)
  cases hr : rightS u (l.take (min n 300)) <;> cases x
  · exact lawWritesFN u A B n _ c m _ d _ _ w rfl rfl h1 h2 hc hd hr
  · exact lawWritesTN u A B n _ c m _ d _ _ w rfl rfl h1 h2 hc hd hr
  · exact lawWritesFR u A B n _ c m _ d _ _ w rfl rfl h1 h2 hc hd hr
  · exact lawWritesTR u A B n _ c m _ d _ _ w rfl rfl h1 h2 hc hd hr

end Go.Proofs.Ytdebekedilogoaa
