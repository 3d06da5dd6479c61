/-
  HeadLong: for any int quittancelaw02.HeadLong returns true and changes nothing that was there.
-/
import Derived.Test.YtolcfoaffjnibaaLawWrites
import Derived.Test.YtolcfoaffjnibaaBackB
import Derived.Deep.RegionWith
namespace Go.Proofs.Ytolcfoaffjnibaa
open Go.RowKit
set_option linter.unusedVariables false
set_option linter.unusedSimpArgs false
set_option maxRecDepth 4000

theorem modU3 (z : Int) : 0 ≤ wrap64 ((IntKind.u64.wrap z).tmod 3) ∧ wrap64 ((IntKind.u64.wrap z).tmod 3) < 3 := by
  have h1 : 0 ≤ IntKind.u64.wrap z := by simp [IntKind.wrap, IntKind.bits, IntKind.signed]; omega
  rw [Int.tmod_eq_emod_of_nonneg h1]
  unfold wrap64
  omega

/-- A row of zeros at block g. -/
def Z (w : World) (g m : Nat) : Prop := w.heap[g]? = some (.cells (zeroB m) 5 (0, 0))
theorem Z.new (w : World) (m : Nat) : Z (w.alloc (.cells (zeroB m) 5)) w.heap.size m := heap_alloc_new _ _
theorem Z.newm {W : World} {g m : Nat} (hg : W.heap.size = g) : Z (W.alloc (.cells (zeroB m) 5)) g m := by subst hg; exact heap_alloc_new _ _
theorem Z.below {w w' : World} {g m : Nat} (h : Z w g m) (hb : Below w.heap.size w w') : Z w' g m := (hb.block g (lt_of_block h)).trans h
theorem Z.alloc {w : World} {g m : Nat} (h : Z w g m) (o : Obj) : Z (w.alloc o) g m := h.below (below_alloc1 _ _)
theorem Z.bs {w : World} {g m : Nat} (h : Z w g m) : Bs w (some ⟨g, 0, none⟩) m (List.replicate m 0) := by
  refine ⟨by simp, fun i x hx => ⟨g, 0, rfl, ?_⟩⟩
  rw [List.getElem?_replicate] at hx
  split at hx
  · rename_i hi
    cases hx
    unfold Z at h
    rw [blk_cell h, zeroB, ← Array.getElem?_toList, toList_madeCells_one, Nat.zero_add, List.getElem?_replicate, if_pos hi]
    rfl
  · cases hx
theorem bssOf {W : World} {g1 g2 m1 m2 g : Nat} (h1 : Z W g1 m1) (h2 : Z W g2 m2) (hg : W.heap.size = g) :
    Bss (W.alloc (.cells #[.slice (some ⟨g1, 0, none⟩) m1 m1, .slice (some ⟨g2, 0, none⟩) m2 m2] 25)) (some ⟨g, 0, none⟩) 2 [List.replicate m1 0, List.replicate m2 0] :=
  Bss.new2 _ h1.bs h2.bs (Nat.le_refl _) (Nat.le_refl _) hg

/-- make([]byte, x). -/
theorem run_makeF {P : Program} (t e : TypeId) (i : TypeInfo) (ht : P.underlying t = some (.slice e)) (hi : P.info? e = some i) (hz : i.zero = some (.int .u8 0))
    (hsize : i.size = 1) (hby : i.bytes = 1) (m : Nat) (hx : m ≤ 140737488355328) (W : World) :
    (Instr.makeSlice t (.int .i64 (m : Int)) (.int .i64 (m : Int))).run P W = .ok (.slice (some ⟨W.heap.size, 0, none⟩) m m) (W.alloc (.cells (zeroB m) e)) := by
  have := run_make (P := P) W t e i _ ht hi hz .i64 .i64 (m : Int) (m : Int) (by omega) (by omega) (by rw [hby]; omega) (by omega)
  rw [hsize, Nat.mul_one, Int.toNat_natCast] at this
  exact this

theorem bal {w a : World} (h : Below w.heap.size w a) (o : Obj) : Below w.heap.size w (a.alloc o) := h.alloc h.size o
theorem bdr (w : World) : Below w.heap.size w w.drew := (Below.refl _ _).drew

theorem long2 : rLen (lenB 16777217) 0 = (0, 0, 2) := by decide
theorem tag4 : (⟨0, 4, false⟩ : Tg).rightB = true := by decide

/-- Wrap of two rows of zeros of N bytes together. -/
theorem wrapLong (H G N : Nat) (hN : H + G = N) (hb : N ≤ 16777217) (A : Option Addr) (W : World) (h : Bss W A 2 [List.replicate H 0, List.replicate G 0]) :
    Calls Try.prog 40 #[.agg #[.int .i64 0, .int .i64 4, .bool false], .slice A 2 2] W fun e w' => ∃ A n c E, e = .returned (.tuple #[.slice A n c, .int .i64 E]) ∧ Below W.heap.size W w' ∧
      (N ≤ 16777216 → E = 0 ∧ (n : Int) = ((tagB ⟨0, 4, false⟩).length : Int) + ((lenB N).length : Int) + N) ∧ (16777216 < N → E = 2 ∧ A = none ∧ n = 0 ∧ c = 0) := by
  have hfl : [List.replicate H (0 : UInt8), List.replicate G 0].flatten.length = N := by simp; omega
  have hsh : Short 1099511627776 [List.replicate H (0 : UInt8), List.replicate G 0] := by
    intro k
    match k with
    | 0 => simp [rowL]; omega
    | 1 => simp [rowL]; omega
    | k + 2 => simp [rowL]
  by_cases hq : N ≤ 16777216
  · refine (hdWrap ⟨0, 4, false⟩ A 2 2 _ W tag4 h (by omega) (by rw [hfl]; exact hq) hsh).mono ?_
    rintro e w' ⟨A', n, c, rfl, hob, b⟩
    refine ⟨A', n, c, 0, rfl, b, fun _ => ⟨rfl, ?_⟩, fun h => by omega⟩
    have := hob.bs.1.len
    unfold wrapB at this
    rw [List.length_append, List.length_append, hfl] at this
    omega
  · have hmin : ((min [List.replicate H (0 : UInt8), List.replicate G 0].flatten.length 16777217 : Nat) : Int) = 16777217 := by rw [hfl]; omega
    have hE : encE ⟨0, 4, false⟩ 16777217 = 2 := by decide
    have := hdWrapNo ⟨0, 4, false⟩ A 2 2 _ W h (by omega) hsh (by rw [hmin, hE]; decide)
    rw [hmin, hE] at this
    refine this.mono ?_
    rintro e w' ⟨rfl, b⟩
    exact ⟨none, 0, 0, 2, rfl, b, (fun h => absurd h hq), fun _ => ⟨rfl, rfl, rfl, rfl⟩⟩

set_option maxHeartbeats 12800000 in
theorem lawLong (z : Int) (w : World) :
    Calls Try.prog 8 #[.int .i64 z] w fun e w' => e = .returned (.bool true) ∧ Below w.heap.size w w' := by
  obtain ⟨i0, hi, hz0, hz1, hz2⟩ := info_parts u8_info
  have hm := modU3 z
  go_enter Try.func8, Try.ntmps8
  go_wp2
  generalize wrap64 ((IntKind.u64.wrap z).tmod 3) = r at *
  obtain ⟨N, hN⟩ : ∃ N : Nat, 16777215 + r = (N : Int) := ⟨(16777215 + r).toNat, by omega⟩
  rw [hN]
  have hN1 : 16777215 ≤ N := by omega
  have hN2 : N ≤ 16777217 := by omega
  clear hm hN
  obtain ⟨H, hH⟩ : ∃ H : Nat, (N : Int).tdiv 2 = (H : Int) := ⟨N / 2, by rw [Int.tdiv_eq_ediv_of_nonneg (by omega)]; omega⟩
  have hH2 : H ≤ N := by rw [Int.tdiv_eq_ediv_of_nonneg (by omega)] at hH; omega
  have hw1 : IntKind.i64.wrap (H : Int) = (H : Int) := by rw [IntKind.wrap_i64]; omega
  obtain ⟨G, hG⟩ : ∃ G : Nat, (N : Int) - H = (G : Int) := ⟨N - H, by omega⟩
  have hHG : Hid (H + G = N) := by unfold Hid; omega
  have hw2 : IntKind.i64.wrap ((N : Int) - H) = (G : Int) := by rw [hG, IntKind.wrap_i64]; omega
  have hGb : G ≤ 16777217 := by omega
  have hw3 : IntKind.i64.wrap (G : Int) = (G : Int) := by rw [IntKind.wrap_i64]; omega
  have mkH := run_makeF (P := Try.prog) 25 5 i0 Try.underlying25 hi hz0 hz1 hz2 H (by omega)
  have mkG := run_makeF (P := Try.prog) 25 5 i0 Try.underlying25 hi hz0 hz1 hz2 G (by omega)
  have hWr := Lib.hid (fun A W hW => wrapLong H G N hHG.out hN2 A W hW)
  have hO := Lib.hid (fun W => hdOf 4 W)
  unfold Tg.v at hO
  rw [show ((4 : Int) == 16 || (4 : Int) == 17) = false from rfl] at hO
  go_region_with (first
     | (go_at_call 15; refine (hO.out _).mono ?_; rintro e wK ⟨rfl, bK⟩)
     | (go_at_call 40; refine (hWr.out _ _ (bssOf (((Z.new wK H).alloc _)) (Z.newm (W := wK.alloc (.cells (zeroB H) 5)) (by simp)) (by simp))).mono ?_; rintro e w2 ⟨A2, n2, c2, E2, rfl, b2, k1, k2⟩)
     | (go_at_call 40; refine (hWr.out _ _ (bssOf (Z.newm (W := wK.alloc (.cells (zeroB G) 5)) (by simp)) (((Z.new wK G).alloc _)) (by simp))).mono ?_; rintro e w2 ⟨A2, n2, c2, E2, rfl, b2, k1, k2⟩)
     | (go_at_call 40; refine (hWr.out _ _ (bssOf ((((Z.new w.drew H).below bK)).alloc _) (Z.newm (by first | rfl | simp)) (by simp))).mono ?_; rintro e w2 ⟨A2, n2, c2, E2, rfl, b2, k1, k2⟩)
     | (go_at_call 40; refine (hWr.out _ _ (bssOf (Z.newm (by first | rfl | simp)) ((((Z.new w.drew G).below bK)).alloc _) (by simp))).mono ?_; rintro e w2 ⟨A2, n2, c2, E2, rfl, b2, k1, k2⟩)
     | (go_at_call 40; refine (hWr.out _ _ (bssOf (((Z.new w.drew H).alloc _).below bK) ((Z.newm (W := w.drew.alloc (.cells (zeroB H) 5)) (by simp)).below bK) (by first | rfl | simp))).mono ?_; rintro e w2 ⟨A2, n2, c2, E2, rfl, b2, k1, k2⟩)
     | (go_at_call 40; refine (hWr.out _ _ (bssOf ((Z.newm (W := w.drew.alloc (.cells (zeroB G) 5)) (by simp)).below bK) (((Z.new w.drew G).alloc _).below bK) (by first | rfl | simp))).mono ?_; rintro e w2 ⟨A2, n2, c2, E2, rfl, b2, k1, k2⟩)
     | (go_at_call 40; refine (hWr.out _ _ ((bssOf ((Z.new w.drew H).alloc _) (Z.newm (W := w.drew.alloc (.cells (zeroB H) 5)) (by simp)) (by simp)).below bK)).mono ?_; rintro e w2 ⟨A2, n2, c2, E2, rfl, b2, k1, k2⟩)
     | (go_at_call 40; refine (hWr.out _ _ ((bssOf (Z.newm (W := w.drew.alloc (.cells (zeroB G) 5)) (by simp)) ((Z.new w.drew G).alloc _) (by simp)).below bK)).mono ?_; rintro e w2 ⟨A2, n2, c2, E2, rfl, b2, k1, k2⟩))
  all_goals
    have Bw : Below w.heap.size w w2 := bstep (by first | exact bal (bal (bal (bstep (bdr w) bK) _) _) _ | exact bal (bal (bstep (bal (bdr w) _) bK) _) _ | exact bal (bstep (bal (bal (bdr w) _) _) bK) _ | exact bstep (bal (bal (bal (bdr w) _) _) _) bK) b2
    have K1 := Lib.hid k1
    have K2 := Lib.hid k2
    clear bK b2 k1 k2 mkH mkG hWr hw1 hw2 hw3 hH hG hi hz0 hz1 hz2
    go_wp2_with fail
    refine (hdLengthAny N _).mono ?_
    rintro e w3 ⟨A3, n3, c3, E3, rfl, b3, j1, j2, j3⟩
    have B3 := bstep Bw b3
    have J1 := Lib.hid j1
    have J3 := Lib.hid j3
    clear b3 Bw j1 j2 j3
    go_wp2_with fail
    refine (refLength N _ (by omega) (by omega)).mono ?_
    rintro e w4 ⟨A4, n4, c4, rfl, hob4, b4⟩
    have B4 := bstep B3 b4
    have hn4 : n4 ≤ 1099511627776 := by have := hob4.bs.1.len; have := lenB_len N; omega
    go_wp2_with fail
    refine (octNew A4 n4 c4 _ _ hob4.bs.1 hn4).mono ?_
    rintro e w5 ⟨g, s, rfl, hg, hc5, b5⟩
    have B5 := bstep B4 b5
    have hgw := Nat.le_trans B4.size hg
    go_wp2_with fail
    refine (hdReadLength g 0 _ _ hc5).mono ?_
    rintro e w6 ⟨rfl, hc6, hO6⟩
    have B6 := hO6.below B5 hgw B5.size
    clear B3 b4 B4 hn4 hob4 hc5 b5 B5 hgw hg hc6 hO6
    go_wp2_with fail
    refine (hdRead0 _).mono ?_
    rintro e w7 ⟨rfl, b7⟩
    have B7 := bal (bstep B6 b7) (blk3 0 0 false)
    unfold Tg.v tg0
    clear B6 b7
    go_wp2_with fail
    refine (hdReadTag0 _).mono ?_
    rintro e w8 ⟨rfl, b8⟩
    have B8 := bal (bstep B7 b8) (blk3 0 0 false)
    unfold Tg.v tg0
    clear B7 b8
    by_cases hq : N ≤ 16777216
    · obtain ⟨rfl, hn2⟩ := K1.out hq
      obtain ⟨rfl, _⟩ := J1.out ⟨by omega, by omega⟩
      have hr := rLen_lenB [] [] N (by omega) (by omega)
      rw [List.nil_append, List.append_nil, List.length_nil] at hr
      have hrE : (rLen (lenB N) 0).2.2 = 0 := by rw [hr]
      rw [hrE]
      have hSz := Lib.hid (fun W => hdSize ⟨0, 4, false⟩ (N : Int) W (by unfold encE; rw [if_neg (by rw [tag4]; decide), if_neg (by omega), if_neg (by omega)]))
      rw [← hn2] at hSz
      unfold Tg.v at hSz
      clear hn2 hr hrE
      go_wp2_with fail
      refine (known2 _).mono ?_
      rintro e w9 ⟨rfl, b9⟩
      have B9 := bstep B8 b9
      go_wp2_with fail
      refine (hO.out _).mono ?_
      rintro e w10 ⟨rfl, b10⟩
      have B10 := bstep B9 b10
      go_wp2_with fail
      refine (hSz.out _).mono ?_
      rintro e w11 ⟨rfl, b11⟩
      have B11 := bstep B10 b11
      clear B8 b9 B9 b10 B10 b11
      go_wp2
      go_ret
      exact ⟨rfl, B11⟩
    · obtain ⟨rfl, rfl, rfl, rfl⟩ := K2.out (by omega)
      obtain ⟨rfl, rfl, rfl, rfl⟩ := J3.out (by omega)
      have hNe : N = 16777217 := by omega
      have hrE : (rLen (lenB (N : Int)) 0).2.2 = 2 := by rw [hNe]; exact congrArg (fun x => x.2.2) long2
      rw [hrE]
      clear hrE hNe
      go_wp2_with fail
      refine (known2 _).mono ?_
      rintro e w9 ⟨rfl, b9⟩
      have B9 := bstep B8 b9
      go_wp2
      go_ret
      exact ⟨rfl, B9⟩

end Go.Proofs.Ytolcfoaffjnibaa
