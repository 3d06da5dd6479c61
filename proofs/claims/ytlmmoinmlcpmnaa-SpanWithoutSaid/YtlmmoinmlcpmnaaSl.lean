/-
  The reference of layer 11: Meet, Cover.
-/
import Derived.Test.YtlmmoinmlcpmnaaSk
namespace Go.Proofs.Ytlmmoinmlcpmnaa
open Go.RowKit
set_option linter.unusedVariables false
set_option linter.unusedSimpArgs false
set_option maxRecDepth 4000

theorem Late.drewN {w W : World} {R : Nat} {t : TypeId} {x y : Value} (h : Late w W R t x y) (n : Nat) : Late w (W.drewN n) R t x y := ⟨h.blk, below_drewN h.bel n, h.ge⟩
theorem Late.lo {w W : World} {R : Nat} {t : TypeId} {x y : Value} (h : Late w W R t x y) (a : Value) : Late w (W.setCell ⟨R, 0, none⟩ a) R t a y :=
  ⟨h.blk.set 0 a, below_set h.bel h.bel.size h.ge _ _, h.ge⟩
theorem Late.hi {w W : World} {R : Nat} {t : TypeId} {x y : Value} (h : Late w W R t x y) (a : Value) : Late w (W.setCell ⟨R, 1, none⟩ a) R t x a :=
  ⟨h.blk.set 1 a, below_set h.bel h.bel.size h.ge _ _, h.ge⟩
theorem Late.keep1 {w W : World} {R : Nat} {t : TypeId} {x y : Value} {S : Nat} (h : Late w W R t x y) (hS : w.heap.size ≤ S) (hne : R ≠ S) (i : Nat) (a : Value) : Late w (W.setCell ⟨S, i, none⟩ a) R t x y :=
  ⟨h.blk.setOther hne i a, below_set h.bel h.bel.size hS _ _, h.ge⟩
theorem one_ne (n : Nat) : n ≠ n + 1 := by omega
theorem sps_at {w : World} {A : Option Addr} {n : Nat} {l : List Sp} (h : Sps w A n l) {k : Nat} (hk : k < n) : l[k]? ≠ none := by
  have := h.1; simp; omega

set_option maxHeartbeats 6400000 in
theorem rfMeet (A : Option Addr) (n c : Nat) (l : List Sp) (w : World) (h : Sps w A n l) (hn : n ≤ 1099511627776) :
    Calls Try.prog 30 #[.slice A n c] w fun e w' => e = .returned (.agg #[.int .i64 (meetL l).1, .int .i64 (meetL l).2]) ∧ Below w.heap.size w w' := by
  have HS := Lib.hid h
  have HLN := Lib.hid h.len
  have KR := Lib.hid (fun x y W => rfRight x y W)
  have hE : meetL l = canon (l.foldl meetS (-9223372036854775808, 9223372036854775807)) := rfl
  have HN : Hid ((l.take n).foldl meetS (-9223372036854775808, 9223372036854775807) = l.foldl meetS (-9223372036854775808, 9223372036854775807)) := by unfold Hid; rw [← h.len]; simp
  have HST : Hid (∀ k x, l[k]? = some x → (l.take (k + 1)).foldl meetS (-9223372036854775808, 9223372036854775807) = meetS ((l.take k).foldl meetS (-9223372036854775808, 9223372036854775807)) x) := fun k x hx => fold_take meetS _ l k _ hx
  have H0 : Hid ((l.take 0).foldl meetS (-9223372036854775808, 9223372036854775807) = (-9223372036854775808, 9223372036854775807)) := rfl
  rw [hE, ← HN.out]
  clear h hE HN
  obtain ⟨F, hF⟩ : ∃ F : Nat → Sp, ∀ k, (l.take k).foldl meetS (-9223372036854775808, 9223372036854775807) = F k := ⟨fun k => (l.take k).foldl meetS _, fun _ => rfl⟩
  simp only [hF] at HST H0 ⊢
  clear hF
  have K0 := Lib.hid ((Late.fst w (.int .i64 0) (.int .i64 0) 30).alloc (.cells #[.int .i64 (-9223372036854775808), .int .i64 9223372036854775807] 30))
  have K1 := Lib.hid (Late.snd w (.cells #[.int .i64 0, .int .i64 0] 30) (.int .i64 (-9223372036854775808)) (.int .i64 9223372036854775807) 30)
  go_enter Try.func30, Try.ntmps30
  go_wp2
  go_loopw [4] (fun i wr => ∃ k : Nat, k ≤ n ∧ i = .int .i64 (k : Int) ∧ Late w wr w.heap.size 30 (.int .i64 0) (.int .i64 0) ∧ Late w wr (w.heap.size + 1) 30 (.int .i64 (F k).1) (.int .i64 (F k).2)) (fun i _ => n - (intOf i).toNat)
  case atStart => exact ⟨0, Nat.zero_le _, rfl, K0.out, by rw [H0.out]; exact K1.out⟩
  case round =>
    obtain ⟨k, hk, rfl, k0, k1⟩ := hrel
    have L0 := Lib.hid k0
    have L1 := Lib.hid k1
    clear k0 k1 K0 K1 H0
    by_cases hlt : k < n
    · have hxx := (Sps.below HS.out L0.out.bel).at_ hlt
      obtain ⟨bb, oo, x, y, rfl, hx, _, _⟩ := hxx
      have HX := Lib.hid (HST.out k (x, y) hx)
      have CEL : Hid (∀ W, Below w.heap.size w W → W.cell? ⟨bb, oo + k * 2, none⟩ = some (.int .i64 x) ∧ W.cell? ⟨bb, oo + k * 2 + 1, none⟩ = some (.int .i64 y)) := by
        intro W hW
        obtain ⟨b2, o2, x2, y2, e, hx2, c0, c1⟩ := (Sps.below HS.out hW).at_ hlt
        cases e
        rw [hx] at hx2
        cases hx2
        exact ⟨c0, c1⟩
      have e1 : (k : Int) < (n : Int) := by omega
      have e0 : (0 : Int) ≤ (k : Int) := by omega
      clear hx
      obtain ⟨z, hz⟩ : ∃ z, F k = z := ⟨_, rfl⟩
      obtain ⟨z', hz'⟩ : ∃ z', F (k + 1) = z' := ⟨_, rfl⟩
      have HZ' := Lib.hid hz'
      rw [hz, hz'] at HX
      rw [hz] at L1
      clear hz hz'
      obtain ⟨m1, m2⟩ := z
      dsimp only at L1
      obtain ⟨c0, c1⟩ := CEL.out _ L0.out.bel
      obtain ⟨⟨p0, p1⟩, _, _⟩ := L1.out.blk.two
      go_wp2
      go_quiet (fail)
      have L0q := Lib.hid (L0.out.drewN nq)
      have L1q := Lib.hid (L1.out.drewN nq)
      generalize wr.drewN nq = W5 at *
      clear c0 c1 p0 p1 L0 L1
      by_cases g1 : m1 < x
      · obtain ⟨c0, c1⟩ := CEL.out _ L0q.out.bel
        obtain ⟨⟨p0, p1⟩, f0, f1⟩ := L1q.out.blk.two
        have M0 := Lib.hid (L0q.out.keep1 (Nat.le_succ _) (one_ne _) 0 (.int .i64 x))
        have M1 := Lib.hid (L1q.out.lo (.int .i64 x))
        have HM : Hid ((if m1 < x then x else m1) = x) := if_pos g1
        go_upto_region 7 with (fail)
        generalize W5.setCell ⟨w.heap.size + 1, 0, none⟩ (.int .i64 x) = W6 at *
        clear c0 c1 p0 p1 f0 f1 L0q L1q
        obtain ⟨c0, c1⟩ := CEL.out _ M0.out.bel
        obtain ⟨⟨p0, p1⟩, f0, f1⟩ := M1.out.blk.two
        go_wp2
        go_quiet (fail)
        have N0 := Lib.hid (M0.out.drewN nq)
        have N1 := Lib.hid (M1.out.drewN nq)
        generalize W6.drewN nq = W7 at *
        clear c0 c1 p0 p1 f0 f1 M0 M1
        by_cases g2 : y < m2
        · obtain ⟨c0, c1⟩ := CEL.out _ N0.out.bel
          obtain ⟨⟨p0, p1⟩, f0, f1⟩ := N1.out.blk.two
          have P0 := Lib.hid (N0.out.keep1 (Nat.le_succ _) (one_ne _) 1 (.int .i64 y))
          have P1 := Lib.hid (N1.out.hi (.int .i64 y))
          have HZ2 : Hid (F (k + 1) = (x, y)) := by
            unfold Hid
            rw [HZ'.out, HX.out, meetS]
            rw [HM.out, if_pos g2]
          clear N0 N1
          go_wp2
          go_roundw
          case rel => exact ⟨k + 1, by omega, by go_num, P0.out, by rw [HZ2.out]; exact P1.out⟩
          case measure => simp [intOf]; omega
        · have g2' : decide (y < m2) = false := by simpa using g2
          have HZ2 : Hid (F (k + 1) = (x, m2)) := by
            unfold Hid
            rw [HZ'.out, HX.out, meetS]
            rw [HM.out, if_neg g2]
          go_wp2
          go_roundw
          case rel => exact ⟨k + 1, by omega, by go_num, N0.out, by rw [HZ2.out]; exact N1.out⟩
          case measure => simp [intOf]; omega
      · have g1' : decide (m1 < x) = false := by simpa using g1
        have HM : Hid ((if m1 < x then x else m1) = m1) := if_neg g1
        go_upto_region 7 with (fail)
        have M0 := L0q
        have M1 := L1q
        clear L0q L1q
        rename World => W6
        obtain ⟨c0, c1⟩ := CEL.out _ M0.out.bel
        obtain ⟨⟨p0, p1⟩, f0, f1⟩ := M1.out.blk.two
        go_wp2
        go_quiet (fail)
        have N0 := Lib.hid (M0.out.drewN nq)
        have N1 := Lib.hid (M1.out.drewN nq)
        generalize W6.drewN nq = W7 at *
        clear c0 c1 p0 p1 f0 f1 M0 M1
        by_cases g2 : y < m2
        · obtain ⟨c0, c1⟩ := CEL.out _ N0.out.bel
          obtain ⟨⟨p0, p1⟩, f0, f1⟩ := N1.out.blk.two
          have P0 := Lib.hid (N0.out.keep1 (Nat.le_succ _) (one_ne _) 1 (.int .i64 y))
          have P1 := Lib.hid (N1.out.hi (.int .i64 y))
          have HZ2 : Hid (F (k + 1) = (m1, y)) := by
            unfold Hid
            rw [HZ'.out, HX.out, meetS]
            rw [HM.out, if_pos g2]
          clear N0 N1
          go_wp2
          go_roundw
          case rel => exact ⟨k + 1, by omega, by go_num, P0.out, by rw [HZ2.out]; exact P1.out⟩
          case measure => simp [intOf]; omega
        · have g2' : decide (y < m2) = false := by simpa using g2
          have HZ2 : Hid (F (k + 1) = (m1, m2)) := by
            unfold Hid
            rw [HZ'.out, HX.out, meetS]
            rw [HM.out, if_neg g2]
          go_wp2
          go_roundw
          case rel => exact ⟨k + 1, by omega, by go_num, N0.out, by rw [HZ2.out]; exact N1.out⟩
          case measure => simp [intOf]; omega
    · have e1 : ¬ (k : Int) < (n : Int) := by omega
      have hkn : k = n := by omega
      subst hkn
      obtain ⟨z, hz⟩ : ∃ z, F k = z := ⟨_, rfl⟩
      have HZ' := Lib.hid hz
      rw [hz] at L1
      clear hz
      obtain ⟨m1, m2⟩ := z
      dsimp only at L1
      obtain ⟨⟨p0, p1⟩, _, _⟩ := L1.out.blk.two
      go_wp2_with fail
      refine (KR.out _ _ _).mono ?_
      rintro e w2 ⟨rfl, hb⟩
      have L0b := Lib.hid (L0.out.call hb)
      clear hb p0 p1
      obtain ⟨⟨q0, q1⟩, q2, q3⟩ := L0b.out.blk.two
      obtain ⟨cc, hcc⟩ : ∃ cc, canon (m1, m2) = cc := ⟨_, rfl⟩
      have HCC := Lib.hid hcc
      rw [hcc]
      clear hcc
      go_wp2
      refine ret2 Try.results30 (loadR _ _ _) rfl rfl (L0b.out.put _ _).blk ?_
      exact ⟨by rw [HZ'.out, HCC.out], (L0b.out.put _ _).bel⟩

set_option maxHeartbeats 6400000 in
theorem rfCover (A : Option Addr) (n c : Nat) (l : List Sp) (w : World) (h : Sps w A n l) (hn : n ≤ 1099511627776) :
    Calls Try.prog 32 #[.slice A n c] w fun e w' => e = .returned (.agg #[.int .i64 (covL l).1, .int .i64 (covL l).2]) ∧ Below w.heap.size w w' := by
  have HS := Lib.hid h
  have HLN := Lib.hid h.len
  have KE := Lib.hid (fun x y W => rfEmpty x y W)
  have hE : covL l = l.foldl covS (1, 0) := rfl
  have HN : Hid ((l.take n).foldl covS (1, 0) = l.foldl covS (1, 0)) := by unfold Hid; rw [← h.len]; simp
  have HST : Hid (∀ k x, l[k]? = some x → (l.take (k + 1)).foldl covS (1, 0) = covS ((l.take k).foldl covS (1, 0)) x) := fun k x hx => fold_take covS _ l k _ hx
  have H0 : Hid ((l.take 0).foldl covS (1, 0) = (1, 0)) := rfl
  rw [hE, ← HN.out]
  clear h hE HN
  obtain ⟨F, hF⟩ : ∃ F : Nat → Sp, ∀ k, (l.take k).foldl covS (1, 0) = F k := ⟨fun k => (l.take k).foldl covS _, fun _ => rfl⟩
  simp only [hF] at HST H0 ⊢
  clear hF
  have K0 := Lib.hid ((Late.fst w (.int .i64 0) (.int .i64 0) 30).alloc (.cells #[.int .i64 1, .int .i64 0] 30))
  have K1 := Lib.hid (Late.snd w (.cells #[.int .i64 0, .int .i64 0] 30) (.int .i64 1) (.int .i64 0) 30)
  go_enter Try.func32, Try.ntmps32
  go_wp2
  go_loopw [4] (fun i wr => ∃ k : Nat, k ≤ n ∧ i = .int .i64 (k : Int) ∧ Late w wr w.heap.size 30 (.int .i64 0) (.int .i64 0) ∧ Late w wr (w.heap.size + 1) 30 (.int .i64 (F k).1) (.int .i64 (F k).2)) (fun i _ => n - (intOf i).toNat)
  case atStart => exact ⟨0, Nat.zero_le _, rfl, K0.out, by rw [H0.out]; exact K1.out⟩
  case round =>
    obtain ⟨k, hk, rfl, k0, k1⟩ := hrel
    have L0 := Lib.hid k0
    have L1 := Lib.hid k1
    clear k0 k1 K0 K1 H0
    by_cases hlt : k < n
    · obtain ⟨bb, oo, x, y, rfl, hx, c0, c1⟩ := (Sps.below HS.out L0.out.bel).at_ hlt
      have HX := Lib.hid (HST.out k (x, y) hx)
      have e1 : (k : Int) < (n : Int) := by omega
      have e0 : (0 : Int) ≤ (k : Int) := by omega
      clear hx
      obtain ⟨z, hz⟩ : ∃ z, F k = z := ⟨_, rfl⟩
      obtain ⟨z', hz'⟩ : ∃ z', F (k + 1) = z' := ⟨_, rfl⟩
      have HZ' := Lib.hid hz'
      rw [hz, hz'] at HX
      rw [hz] at L1
      clear hz hz'
      obtain ⟨m1, m2⟩ := z
      dsimp only at L1
      have L0a := Lib.hid (L0.out.alloc (.cells #[.int .i64 x, .int .i64 y] 30))
      have L1a := Lib.hid (L1.out.alloc (.cells #[.int .i64 x, .int .i64 y] 30))
      have L2a := Lib.hid (Late.made L0.out.bel (.int .i64 x) (.int .i64 y) 30)
      have HNE : Hid (wr.heap.size ≠ w.heap.size + 1) := by have := L1.out.blk.lt; unfold Hid; omega
      obtain ⟨⟨s0, s1⟩, _, _⟩ := L2a.out.blk.two
      go_wp2_with fail
      refine (KE.out _ _ _).mono ?_
      rintro e w2 ⟨rfl, hb⟩
      have M0 := Lib.hid (L0a.out.call hb)
      have M1 := Lib.hid (L1a.out.call hb)
      have M2 := Lib.hid (L2a.out.call hb)
      clear hb s0 s1 L0a L1a L2a L0 L1 c0 c1
      by_cases g0 : y < x
      · have g0' : decide (y < x) = true := by simpa using g0
        have HZ2 : Hid (F (k + 1) = (m1, m2)) := by unfold Hid; rw [HZ'.out, HX.out, covS, if_pos g0]
        rw [g0']
        clear g0 g0'
        go_wp2
        go_roundw
        case rel => exact ⟨k + 1, by omega, by go_num, M0.out, by rw [HZ2.out]; exact M1.out⟩
        case measure => simp [intOf]; omega
      · have g0' : decide (y < x) = false := by simpa using g0
        have G0 := Lib.hid g0
        rw [g0']
        obtain ⟨⟨q0, q1⟩, _, _⟩ := M1.out.blk.two
        clear g0 g0'
        go_wp2_with fail
        refine (KE.out _ _ _).mono ?_
        rintro e w3 ⟨rfl, hb⟩
        have N0 := Lib.hid (M0.out.call hb)
        have N1 := Lib.hid (M1.out.call hb)
        have N2 := Lib.hid (M2.out.call hb)
        clear hb q0 q1 M0 M1 M2
        by_cases g1 : m2 < m1
        · have g1' : decide (m2 < m1) = true := by simpa using g1
          have HZ2 : Hid (F (k + 1) = (x, y)) := by unfold Hid; have := G0.out; rw [HZ'.out, HX.out, covS, if_neg (by dsimp only; omega), if_pos g1]
          rw [g1']
          obtain ⟨⟨p0, p1⟩, p2, p3⟩ := N1.out.blk.two
          obtain ⟨⟨q0, q1⟩, _, _⟩ := N2.out.blk.two
          have P0 := Lib.hid (N0.out.keep N1.out (one_ne _) (.int .i64 x) (.int .i64 y))
          have P1 := Lib.hid (N1.out.put (.int .i64 x) (.int .i64 y))
          have P2 := Lib.hid (N2.out.keep N1.out HNE.out (.int .i64 x) (.int .i64 y))
          clear g1 g1' N0 N1 N2
          go_upto_region 9 with (fail)
          generalize (w3.setCell ⟨w.heap.size + 1, 0, none⟩ (.int .i64 x)).setCell ⟨w.heap.size + 1, 1, none⟩ (.int .i64 y) = W4 at *
          clear p0 p1 p2 p3 q0 q1
          obtain ⟨⟨p0, p1⟩, p2, p3⟩ := P1.out.blk.two
          obtain ⟨⟨q0, q1⟩, _, _⟩ := P2.out.blk.two
          have i1 : decide (x < x) = false := by simp
          have i2 : decide (y < y) = false := by simp
          go_wp2
          go_roundw
          case rel => exact ⟨k + 1, by omega, by go_num, P0.out, by rw [HZ2.out]; exact P1.out⟩
          case measure => simp [intOf]; omega
        · have g1' : decide (m2 < m1) = false := by simpa using g1
          have HZ2 : Hid (F (k + 1) = (if x < m1 then x else m1, if m2 < y then y else m2)) := by unfold Hid; have := G0.out; rw [HZ'.out, HX.out, covS, if_neg (by dsimp only; omega), if_neg g1]
          rw [g1']
          obtain ⟨⟨p0, p1⟩, p2, p3⟩ := N1.out.blk.two
          obtain ⟨⟨q0, q1⟩, _, _⟩ := N2.out.blk.two
          clear g1 g1'
          by_cases g2 : x < m1
          · have HM : Hid ((if x < m1 then x else m1) = x) := if_pos g2
            have Q0 := Lib.hid (N0.out.keep1 (Nat.le_succ _) (one_ne _) 0 (.int .i64 x))
            have Q1 := Lib.hid (N1.out.lo (.int .i64 x))
            have Q2 := Lib.hid (N2.out.keep1 (Nat.le_succ _) HNE.out 0 (.int .i64 x))
            clear N0 N1 N2
            go_upto_region 11 with (fail)
            generalize w3.setCell ⟨w.heap.size + 1, 0, none⟩ (.int .i64 x) = W4 at *
            clear p0 p1 p2 p3 q0 q1
            obtain ⟨⟨p0, p1⟩, p2, p3⟩ := Q1.out.blk.two
            obtain ⟨⟨q0, q1⟩, _, _⟩ := Q2.out.blk.two
            by_cases g3 : m2 < y
            · have HZ3 : Hid (F (k + 1) = (x, y)) := by unfold Hid; rw [HZ2.out, HM.out, if_pos g3]
              have P0 := Lib.hid (Q0.out.keep1 (Nat.le_succ _) (one_ne _) 1 (.int .i64 y))
              have P1 := Lib.hid (Q1.out.hi (.int .i64 y))
              go_wp2
              go_roundw
              case rel => exact ⟨k + 1, by omega, by go_num, P0.out, by rw [HZ3.out]; exact P1.out⟩
              case measure => simp [intOf]; omega
            · have g3' : decide (m2 < y) = false := by simpa using g3
              have HZ3 : Hid (F (k + 1) = (x, m2)) := by unfold Hid; rw [HZ2.out, HM.out, if_neg g3]
              go_wp2
              go_roundw
              case rel => exact ⟨k + 1, by omega, by go_num, Q0.out, by rw [HZ3.out]; exact Q1.out⟩
              case measure => simp [intOf]; omega
          · have HM : Hid ((if x < m1 then x else m1) = m1) := if_neg g2
            have g2' : decide (x < m1) = false := by simpa using g2
            have Q0 := N0
            have Q1 := N1
            by_cases g3 : m2 < y
            · have HZ3 : Hid (F (k + 1) = (m1, y)) := by unfold Hid; rw [HZ2.out, HM.out, if_pos g3]
              have P0 := Lib.hid (Q0.out.keep1 (Nat.le_succ _) (one_ne _) 1 (.int .i64 y))
              have P1 := Lib.hid (Q1.out.hi (.int .i64 y))
              go_wp2
              go_roundw
              case rel => exact ⟨k + 1, by omega, by go_num, P0.out, by rw [HZ3.out]; exact P1.out⟩
              case measure => simp [intOf]; omega
            · have g3' : decide (m2 < y) = false := by simpa using g3
              have HZ3 : Hid (F (k + 1) = (m1, m2)) := by unfold Hid; rw [HZ2.out, HM.out, if_neg g3]
              go_wp2
              go_roundw
              case rel => exact ⟨k + 1, by omega, by go_num, Q0.out, by rw [HZ3.out]; exact Q1.out⟩
              case measure => simp [intOf]; omega
    · have e1 : ¬ (k : Int) < (n : Int) := by omega
      have hkn : k = n := by omega
      subst hkn
      obtain ⟨z, hz⟩ : ∃ z, F k = z := ⟨_, rfl⟩
      have HZ' := Lib.hid hz
      rw [hz] at L1
      clear hz
      obtain ⟨m1, m2⟩ := z
      dsimp only at L1
      obtain ⟨⟨p0, p1⟩, _, _⟩ := L1.out.blk.two
      obtain ⟨⟨q0, q1⟩, q2, q3⟩ := L0.out.blk.two
      go_wp2
      refine ret2 Try.results32 (loadR _ _ _) rfl rfl (L0.out.put _ _).blk ?_
      exact ⟨by rw [HZ'.out], (L0.out.put _ _).bel⟩
end Go.Proofs.Ytlmmoinmlcpmnaa
