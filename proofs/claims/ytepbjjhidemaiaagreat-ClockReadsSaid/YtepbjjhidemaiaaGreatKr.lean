/-
  The reference of clock: Read, ReadGeneral.
-/
import Derived.Test.YtepbjjhidemaiaaGreatKi
import Derived.Test.YtepbjjhidemaiaaGreatKB
import Derived.Deep.RegionHeld3
namespace Go.Proofs.YtepbjjhidemaiaaGreat
open Go.RowKit
set_option linter.unusedVariables false
set_option linter.unusedSimpArgs false
set_option maxRecDepth 4000

set_option maxHeartbeats 1600000 in
theorem refOpen (A : Option Addr) (n c k : Nat) (x : Int) (l : List UInt8) (t : Tg) (w : World) (h : Bs w A n l) (hn : n ≤ 1099511627776) (hc : n ≤ c) (hk : k ≤ n) (hx : x = k) :
    Calls Tryz.prog 21 #[.slice A n c, .int .i64 x, t.v] w (OpenV w (rOpen l k t)) := by
  have hX := Lib.hid hx; clear hx
  have hok := rHead_ok l k
  have hl := Lib.hid h.len
  obtain ⟨tc, tn, tm⟩ := t
  unfold Tg.v
  go_enter Tryz.func21, Tryz.ntmps21
  go_wp2_with fail
  refine (refRead A n c k x l _ (h.below (below_alloc1 _ _)) hn hk hX.out).mono ?_
  rintro e w1 ⟨rfl, hb1⟩
  have ho := (Own3.new w _ _ _ _).below hb1
  have hB1 : Below w.heap.size w w1 := (below_alloc1 _ _).trans (Below.mono hb1 (by simp))
  have hH : Hid (rOpen l k ⟨tc, tn, tm⟩ = if (rHead l k).2.2.2 = 0 then
    (if (rHead l k).1 = ⟨tc, tn, tm⟩ then
      (if (l.length : Int) - (rHead l k).2.2.1 < (rHead l k).2.1 then ([], k, 3)
       else ((l.drop (rHead l k).2.2.1).take (rHead l k).2.1.toNat, (rHead l k).2.2.1 + (rHead l k).2.1.toNat, 0))
     else ([], k, 4))
    else ([], k, (rHead l k).2.2.2)) := rfl
  generalize rHead l k = T at *
  obtain ⟨⟨uc, un, um⟩, y, k1, e1⟩ := T
  simp only at hH hok
  unfold headV Tg.v
  clear hb1
  have ho2 := ho.below (below_alloc1 w1 (Obj.cells #[Value.int IntKind.i64 uc, Value.int IntKind.i64 un, Value.bool um] 47))
  have hB2 : Below w.heap.size w (w1.alloc (Obj.cells #[Value.int IntKind.i64 uc, Value.int IntKind.i64 un, Value.bool um] 47)) := hB1.alloc hB1.size _
  clear ho
  by_cases he : e1 = 0
  · subst he
    rw [if_pos rfl] at hH
    have hok := hok rfl
    obtain ⟨r0, r1, r2, f0, f1, f2⟩ := ho2
    by_cases ht : (⟨uc, un, um⟩ : Tg) = ⟨tc, tn, tm⟩
    · rw [if_pos ht] at hH
      cases ht
      obtain ⟨hy0, hy1, hk1⟩ := hok
      obtain ⟨yn, rfl⟩ : ∃ yn : Nat, y = yn := ⟨y.toNat, by omega⟩
      rw [hl.out] at hk1 hH
      simp only [Int.toNat_natCast] at hH
      by_cases h3 : n < k1 + yn
      · rw [if_pos (by omega)] at hH
        have h4 : (n : Int) - k1 < yn := by omega
        go_wp2
        rw [hH.out, hX.out]
        refine bodyPost_ret (v := .tuple #[.slice none 0 0, .int .i64 (k : Int), .int .i64 3]) (by simp [results, Tryz.results21, go_sem]) rfl ?_
        exact ⟨none, 0, 0, rfl, Bs.nil _ _, Nat.le_refl _, hB2⟩
      · rw [if_neg (by omega)] at hH
        have h4 : (yn : Int) ≤ (n : Int) - k1 := by omega
        have h5 : (k1 : Int) + yn ≤ c := by omega
        have hbs := h.below hB2
        go_wp2
        · rw [hH.out]
          refine bodyPost_ret (v := .tuple #[.slice A (k1 + yn - k1) 0, .int .i64 ((k1 + yn : Nat) : Int), .int .i64 0]) (by simp [results, Tryz.results21, go_sem]) rfl ?_
          have hcut := hbs.cut0 (i := k1) (j := k1 + yn) (by omega) (by omega) (by omega)
          rw [Nat.add_sub_cancel_left] at hcut ⊢
          exact ⟨_, _, _, rfl, hcut, by omega, hB2⟩
        · rw [hH.out]
          refine bodyPost_ret (v := .tuple #[.slice (Option.map (fun x => x.add k1) A) (k1 + yn - k1) (c - k1), .int .i64 ((k1 + yn : Nat) : Int), .int .i64 0]) (by simp [results, Tryz.results21, go_sem]) rfl ?_
          have hcut := hbs.cut (i := k1) (j := k1 + yn) (by omega) (by omega)
          rw [Nat.add_sub_cancel_left] at hcut ⊢
          exact ⟨_, _, _, rfl, hcut, by omega, hB2⟩
    · rw [if_neg ht] at hH
      clear hok
      have fin : ∀ (W : World) (v : Value), Below w.heap.size w W → v = .tuple #[.slice none 0 0, .int .i64 (k : Int), .int .i64 4] → OpenV w (rOpen l k ⟨tc, tn, tm⟩) (.returned v) W := by
        rintro W v hB rfl
        rw [hH.out]
        exact ⟨none, 0, 0, rfl, Bs.nil _ _, Nat.le_refl _, hB⟩
      have fin := Lib.hid fin
      by_cases a1 : uc = tc
      · by_cases a2 : un = tn
        · have a3 : ¬ um = tm := fun a3 => ht (by rw [a1, a2, a3])
          subst a1 a2
          clear ht
          go_wp2
          refine bodyPost_ret (v := .tuple #[.slice none 0 0, .int .i64 x, .int .i64 4]) (by simp [results, Tryz.results21, go_sem]) rfl ?_
          exact fin.out _ _ hB2 (by rw [hX.out])
        · clear ht
          subst a1
          go_wp2
          refine bodyPost_ret (v := .tuple #[.slice none 0 0, .int .i64 x, .int .i64 4]) (by simp [results, Tryz.results21, go_sem]) rfl ?_
          exact fin.out _ _ hB2 (by rw [hX.out])
      · clear ht
        go_wp2
        refine bodyPost_ret (v := .tuple #[.slice none 0 0, .int .i64 x, .int .i64 4]) (by simp [results, Tryz.results21, go_sem]) rfl ?_
        exact fin.out _ _ hB2 (by rw [hX.out])
  · rw [if_neg he] at hH
    have e2 : (e1 == 0) = false := by simp; exact he
    have e3 : (e1 != 0) = true := by simp; exact he
    go_wp2
    rw [hH.out, hX.out]
    refine bodyPost_ret (v := .tuple #[.slice none 0 0, .int .i64 (k : Int), .int .i64 e1]) (by simp [results, Tryz.results21, go_sem]) rfl ?_
    exact ⟨none, 0, 0, rfl, Bs.nil _ _, Nat.le_refl _, hB2⟩

/-- s[i:j]. -/
theorem cutIJ (A : Option Addr) (n c i j : Nat) (hij : i ≤ j) (hj : j ≤ n) (hc : n ≤ c) : ∃ A' c', (∀ (W : World), (Instr.slice 22 (.slice A n c) (some (.int .i64 (i : Int))) (some (.int .i64 (j : Int))) none).run Tryz.prog W = .ok (.slice A' (j - i) c') W) ∧
    (∀ (W : World) (l : List UInt8), Bs W A n l → Bs W A' (j - i) ((l.drop i).take (j - i))) ∧ j - i ≤ c' := by
  by_cases h : i = c
  · subst h
    have h1 : n = i := by omega
    have h2 : j = i := by omega
    subst h1 h2
    refine ⟨A, 0, fun W => ?_, fun W l hb => ?_, by omega⟩
    · go_simp
      try (cases A <;> simp [sliced])
    · rw [Nat.sub_self]
      exact Bs.nil _ _
  · refine ⟨Option.map (fun x => x.add i) A, c - i, fun W => ?_, fun W l hb => ?_, by omega⟩
    · go_simp
      have : ¬ c = i := fun e => h e.symm
      cases A <;> simp [sliced, h, this, Nat.sub_eq_zero_iff_le] <;> omega
    · exact hb.cut (i := i) (j := j) hij hj

/-- What the reference's Read hands back. -/
def rdE (R : Int × Int × Int) (P : Nat) : Ending := .returned (.tuple #[tmv R.1 R.2.1, .int .i64 (if R.2.2 = 0 then (P : Int) else 0), .int .i64 R.2.2])
/-- Behind the region that reads the contents. -/
def RMid (w : World) (v1 v2 v3 : Int) (x y : Value) (W : World) : Prop :=
  ∃ X, x = .pointer (some ⟨X, 0, none⟩) ∧ y = .int .i64 v3 ∧ w.heap.size < X ∧ Blk W X 32 [.int .i64 v1, .int .i64 v2] ∧ Blk W w.heap.size 32 [.int .i64 0, .int .i64 0] ∧ Below w.heap.size w W
theorem zero_put {w W : World} (h : Blk W w.heap.size 32 [.int .i64 0, .int .i64 0]) (hB : Below w.heap.size w W) (a b : Int) :
    Blk ((W.setCell ⟨w.heap.size, 0, none⟩ (.int .i64 a)).setCell ⟨w.heap.size, 1, none⟩ (.int .i64 b)) w.heap.size 32 [.int .i64 a, .int .i64 b] ∧ Below w.heap.size w ((W.setCell ⟨w.heap.size, 0, none⟩ (.int .i64 a)).setCell ⟨w.heap.size, 1, none⟩ (.int .i64 b)) :=
  ⟨h.put _ _, below_set2 hB hB.size (Nat.le_refl _) _ _⟩

set_option maxHeartbeats 12800000 in
theorem rfRead (st : Bool) (A : Option Addr) (n c : Nat) (l : List UInt8) (w : World) (h : Bs w A n l) (hc : n ≤ c) (hn : n ≤ 1000) :
    Calls Tryz.prog 8 #[.slice A n c, .int .i64 0, .bool st] w fun e w' => e = rdE (if st = true then tmS l 0 else tmR l 0) (tmP l 0) ∧ Below w.heap.size w w' := by
  have hok := rHead_ok l 0
  have hl := h.len
  have HR := Lib.hid (fun W (hW : Bs W A n l) => refRead A n c 0 0 l W hW (by omega) (by omega) rfl)
  have HP := Lib.hid (fun k A m c r W (hW : Bs W A m r) hm => rfParse k A m c r W hW hm)
  have HK := Lib.hid (fun s W (hs : I64 s) => rfKind s W hs)
  have hTR : tmR l 0 = if (rHead l 0).2.2.2 ≠ 0 then (0, 0, (rHead l 0).2.2.2) else if ¬ okTg (rHead l 0).1 then (0, 0, 4)
      else if (l.length : Int) - (rHead l 0).2.2.1 < (rHead l 0).2.1 then (0, 0, 3) else prsV (rHead l 0).1.num ((l.drop (rHead l 0).2.2.1).take (rHead l 0).2.1.toNat) := rfl
  have hTP : tmP l 0 = (rHead l 0).2.2.1 + (rHead l 0).2.1.toNat := rfl
  have hTS : tmS l 0 = if (tmR l 0).2.2 = 0 ∧ (tmR l 0).1 ≠ kindS (tmR l 0).2.1 then (0, 0, 6) else tmR l 0 := rfl
  obtain ⟨R0, hR0⟩ : ∃ R0, (if st = true then tmS l 0 else tmR l 0) = R0 := ⟨_, rfl⟩
  rw [hR0]
  have fE : Hid (∀ e : Int, e ≠ 0 → tmR l 0 = (0, 0, e) → ∀ W, Below w.heap.size w W → (Ending.returned (.tuple #[.agg #[.int .i64 0, .int .i64 0], .int .i64 0, .int .i64 e]) = rdE R0 (tmP l 0) ∧ Below w.heap.size w W)) := by
    intro e he hr W hW
    have hs : tmS l 0 = (0, 0, e) := by rw [hTS, hr, if_neg (fun x => he x.1)]
    refine ⟨?_, hW⟩
    have h2 : R0 = (0, 0, e) := by rw [← hR0]; cases st <;> simp [hs, hr]
    rw [h2]; unfold rdE tmv; simp only; rw [if_neg he]
  have HR0 := Lib.hid hR0
  clear hR0
  have Z0 := Blk.two_new w (.int .i64 0) (.int .i64 0) 32
  have B0 := below_alloc1 w (.cells #[.int .i64 0, .int .i64 0] 32)
  have HZ0 := Lib.hid Z0
  have HB0 := Lib.hid B0
  have HS0 := Lib.hid (h.below B0)
  clear Z0 B0 h
  generalize rHead l 0 = H at *
  obtain ⟨⟨tc, tn, tm⟩, m, p, E⟩ := H
  simp only at hok hTR hTP
  unfold headV Tg.v at HR
  go_enter Tryz.func8, Tryz.ntmps8
  go_upto_region 1 with (fail)
  generalize (w.alloc (.cells #[.int .i64 0, .int .i64 0] 32)) = W0 at *
  go_wp2_with fail
  refine (HR.out _ HS0.out).mono ?_
  rintro e w1 ⟨rfl, hB1⟩
  have hB2 := hB1.alloc hB1.size (.cells #[.int .i64 tc, .int .i64 tn, .bool tm] 47)
  have HB2 := Lib.hid (HB0.out.trans (hB2.mono HB0.out.size))
  have HZ2 := Lib.hid (HZ0.out.below hB2)
  have HS2 := Lib.hid (HS0.out.below hB2)
  have hd := Blk.three_new w1 (.int .i64 tc) (.int .i64 tn) (.bool tm) 47
  have Hd := Lib.hid hd
  clear hB1 hB2 HB0 HZ0 HS0 hd HR
  go_upto_region 2 with (fail)
  generalize w1.alloc (.cells #[.int .i64 tc, .int .i64 tn, .bool tm] 47) = W2 at *
  generalize w1.heap.size = D at *
  by_cases hE : E = 0
  rotate_left
  · have e1 : (E != 0) = true := by simpa using hE
    have F1 := Lib.hid (fE.out E hE (by rw [hTR, if_pos hE]))
    clear hE hTR hTS hTP hok
    obtain ⟨z0, z1, g0, g1⟩ := HZ2.out.two
    obtain ⟨pb, pB⟩ := zero_put HZ2.out HB2.out 0 0
    have PB := Lib.hid pB
    obtain ⟨t0, t1, _, _⟩ := pb.two
    clear pb pB
    go_wp2
    refine bodyPost_ret (v := .tuple #[.agg #[.int .i64 0, .int .i64 0], .int .i64 0, .int .i64 E]) (by simp [results, Tryz.results8, go_sem, t0, t1]) rfl ?_
    exact F1.out _ PB.out
  have hok2 := hok hE
  rw [if_neg (fun x => x hE)] at hTR
  subst hE
  clear hok
  obtain ⟨d0, d1, d2⟩ := Hd.out.three
  have F4 : Hid (¬ okTg ⟨tc, tn, tm⟩ → ∀ W, Below w.heap.size w W → (Ending.returned (.tuple #[.agg #[.int .i64 0, .int .i64 0], .int .i64 0, .int .i64 4]) = rdE R0 (tmP l 0) ∧ Below w.heap.size w W)) :=
    fun hx => fE.out 4 (by decide) (by rw [hTR, if_pos hx])
  by_cases q0 : tc = 0
  rotate_left
  · have e1 : (tc != 0) = true := by simpa using q0
    have F1 := Lib.hid (F4.out (fun x => q0 x.2.1))
    clear q0 hTR hTS hTP F4 hok2
    obtain ⟨z0, z1, g0, g1⟩ := HZ2.out.two
    obtain ⟨pb, pB⟩ := zero_put HZ2.out HB2.out 0 0
    have PB := Lib.hid pB
    obtain ⟨t0, t1, _, _⟩ := pb.two
    clear pb pB
    go_wp2
    refine bodyPost_ret (v := .tuple #[.agg #[.int .i64 0, .int .i64 0], .int .i64 0, .int .i64 4]) (by simp [results, Tryz.results8, go_sem, t0, t1]) rfl ?_
    exact F1.out _ PB.out
  have e1 : (tc != 0) = false := by simpa using q0
  cases tm with
  | true =>
    have F1 := Lib.hid (F4.out (fun x => by have := x.2.2; cases this))
    clear q0 hTR hTS hTP F4 hok2
    obtain ⟨z0, z1, g0, g1⟩ := HZ2.out.two
    obtain ⟨pb, pB⟩ := zero_put HZ2.out HB2.out 0 0
    have PB := Lib.hid pB
    obtain ⟨t0, t1, _, _⟩ := pb.two
    clear pb pB
    go_wp2
    refine bodyPost_ret (v := .tuple #[.agg #[.int .i64 0, .int .i64 0], .int .i64 0, .int .i64 4]) (by simp [results, Tryz.results8, go_sem, t0, t1]) rfl ?_
    exact F1.out _ PB.out
  | false =>
    by_cases hk : tn = 23 ∨ tn = 24
    rotate_left
    · have e2 : (tn != 23) = true := by simp; omega
      have e3 : (tn != 24) = true := by simp; omega
      have F1 := Lib.hid (F4.out (fun x => hk x.1))
      clear q0 hTR hTS hTP F4 hok2 hk
      obtain ⟨z0, z1, g0, g1⟩ := HZ2.out.two
      obtain ⟨pb, pB⟩ := zero_put HZ2.out HB2.out 0 0
      have PB := Lib.hid pB
      obtain ⟨t0, t1, _, _⟩ := pb.two
      clear pb pB
      go_wp2
      refine bodyPost_ret (v := .tuple #[.agg #[.int .i64 0, .int .i64 0], .int .i64 0, .int .i64 4]) (by simp [results, Tryz.results8, go_sem, t0, t1]) rfl ?_
      exact F1.out _ PB.out
    rw [if_neg (fun x => x ⟨hk, q0, rfl⟩)] at hTR
    have e23 : (tn != 23) = false ∨ ((tn != 23) = true ∧ (tn != 24) = false) := by
      rcases hk with rfl | rfl
      · exact .inl rfl
      · exact .inr ⟨rfl, rfl⟩
    obtain ⟨m0, m1, m2⟩ := hok2
    have HTR := Lib.hid hTR
    have HTS := Lib.hid hTS
    have HTP := Lib.hid hTP
    have hx1 : (l.length : Int) - (p : Int) = (n : Int) - (p : Int) := by omega
    clear q0 F4 hTR hTS hTP
    rcases e23 with e2 | ⟨e2, e3⟩
    · by_cases hT : (n : Int) - (p : Int) < m
      · have F1 := Lib.hid (fE.out 3 (by decide) (by rw [HTR.out, if_pos (by rw [hx1]; exact hT)]))
        have e5 : decide (m > (n : Int) - (p : Int)) = true := by simpa using hT
        clear hx1 HTR HTS HTP
        obtain ⟨z0, z1, g0, g1⟩ := HZ2.out.two
        obtain ⟨pb, pB⟩ := zero_put HZ2.out HB2.out 0 0
        have PB := Lib.hid pB
        obtain ⟨t0, t1, _, _⟩ := pb.two
        clear pb pB
        go_wp2
        refine bodyPost_ret (v := .tuple #[.agg #[.int .i64 0, .int .i64 0], .int .i64 0, .int .i64 3]) (by simp [results, Tryz.results8, go_sem, t0, t1]) rfl ?_
        exact F1.out _ PB.out
      have HTR2 := Lib.hid (HTR.out.trans (if_neg (by rw [hx1]; exact hT)))
      have e5 : decide (m > (n : Int) - (p : Int)) = false := by simpa using hT
      obtain ⟨M, rfl⟩ : ∃ M : Nat, m = M := ⟨m.toNat, by omega⟩
      have hM : (M : Int).toNat = M := by simp
      rw [hM] at HTR2 HTP
      obtain ⟨A', c', hrun, hcut, hcc⟩ := cutIJ A n c p (p + M) (by omega) (by omega) hc
      rw [Nat.add_sub_cancel_left] at hrun hcut hcc
      have hpm : ((p + M : Nat) : Int) = (p : Int) + (M : Int) := by omega
      rw [hpm] at hrun
      have hb1 : (p : Int) + (M : Int) ≤ 1000 := by omega
      have hb2 : (0 : Int) ≤ (p : Int) + (M : Int) := by omega
      have hwr : IntKind.i64.wrap ((p : Int) + (M : Int)) = (p : Int) + (M : Int) := by simp [IntKind.wrap, IntKind.bits, IntKind.signed]; omega
      have SC := Lib.hid (hcut _ _ HS2.out)
      have hM2 : M ≤ 1000 := by omega
      generalize (l.drop p).take M = r at *
      have VI := Lib.hid (prsV_I64 tn r)
      have VN := Lib.hid (prsV_no tn r)
      have HPr := Lib.hid (fun W (hW : Bs W A' M r) => HP.out tn A' M c' r W hW (by omega))
      generalize prsV tn r = V at *
      obtain ⟨v1, v2, v3⟩ := V
      unfold prsE tmv at HPr
      simp only at VI VN
      clear hM hcut hx1 hpm HTR HP 
      go_upto_region 8 with (fail)
      clear e1 e2  e5
      have HW2 := Lib.hid (show w.heap.size < W2.heap.size from HZ2.out.lt)
      have ST : Hid (∀ W, Below W2.heap.size W2 W → W.cell? ⟨D, 1, none⟩ = some (.int .i64 tn)) := fun W hW => (Hd.out.below hW).three.2.1
      have SB : Hid (∀ W, Below W2.heap.size W2 W → Bs W A' M r) := fun W hW => SC.out.below hW
      have SZ : Hid (∀ W, Below W2.heap.size W2 W → Blk W w.heap.size 32 [.int .i64 0, .int .i64 0] ∧ Below w.heap.size w W) := fun W hW => ⟨HZ2.out.below hW, HB2.out.trans (hW.mono HB2.out.size)⟩
      have HDne := Lib.hid (show D ≠ W2.heap.size from by have := Hd.out.lt; omega)
      have X1 := (Blk.two_new W2 (.int .i64 0) (.int .i64 0) 32)
      clear Hd SC HZ2 HB2 d0 d1 d2
      go_cut [13, 14] from 15 (fun x y wc => RMid w v1 v2 v3 x y wc)
      case first =>
        refine wp_region_held_drew (S := fun W => W.cell? ⟨D, 1, none⟩ = some (.int .i64 tn)) (by kernel_rfl) ?hb0 (fun hHeld => ?_)
        case hb0 => (try dsimp only); exact ST.out _ (Below.drew (Below.refl W2.heap.size W2))
        refine wpAnyH_take (i := 0) (v := ?qv0s0) rfl (by kernel_rfl) (by kernel_rfl) (by kernel_rfl) (fun _ _ _ h => h) (Or.inl ⟨by kernel_rfl, ?qy0s0⟩) (by assumption) ?_
        case qy0s0 => (intro w hSw; (try dsimp only at hSw); go_simp) <;> (try with_reducible rfl)
        try simp only [Act.put, List.setIfInBounds_toArray, List.set_cons_zero, List.set_cons_succ, List.getElem_toArray, List.getElem_cons_succ, List.getElem_cons_zero]
        refine wpAnyH_take (i := 1) (v := ?qv1s0) rfl (by kernel_rfl) (by kernel_rfl) (by kernel_rfl) (fun _ _ _ h => h) (Or.inl ⟨by kernel_rfl, ?qy1s0⟩) (by assumption) ?_
        case qy1s0 => (intro w hSw; (try dsimp only at hSw); go_simp) <;> (try with_reducible rfl)
        try simp only [Act.put, List.setIfInBounds_toArray, List.set_cons_zero, List.set_cons_succ, List.getElem_toArray, List.getElem_cons_succ, List.getElem_cons_zero]
        refine wpAnyH_take (i := 2) (v := ?qv2s0) rfl (by kernel_rfl) (by kernel_rfl) (by kernel_rfl) (fun _ _ _ h => h) (Or.inl ⟨by kernel_rfl, ?qy2s0⟩) (by assumption) ?_
        case qy2s0 => (intro w hSw; (try dsimp only at hSw); go_simp) <;> (try with_reducible rfl)
        try simp only [Act.put, List.setIfInBounds_toArray, List.set_cons_zero, List.set_cons_succ, List.getElem_toArray, List.getElem_cons_succ, List.getElem_cons_zero]
        refine wpAnyH_take (i := 3) (v := ?qv3s0) rfl (by kernel_rfl) (by kernel_rfl) (by kernel_rfl) (fun _ _ _ h => h) (Or.inl ⟨by kernel_rfl, ?qy3s0⟩) (by assumption) ?_
        case qy3s0 => (intro w hSw; (try dsimp only at hSw); go_simp) <;> (try with_reducible rfl)
        try simp only [Act.put, List.setIfInBounds_toArray, List.set_cons_zero, List.set_cons_succ, List.getElem_toArray, List.getElem_cons_succ, List.getElem_cons_zero]
        refine wpAnyH_take (i := 4) (v := ?qv4s0) rfl (by kernel_rfl) (by kernel_rfl) (by kernel_rfl) (fun _ _ _ h => h) (Or.inl ⟨by kernel_rfl, ?qy4s0⟩) (by assumption) ?_
        case qy4s0 => (intro w hSw; (try dsimp only at hSw); go_simp) <;> (try with_reducible rfl)
        try simp only [Act.put, List.setIfInBounds_toArray, List.set_cons_zero, List.set_cons_succ, List.getElem_toArray, List.getElem_cons_succ, List.getElem_cons_zero]
        refine wpAnyH_take (i := 5) (v := ?qv5s0) rfl (by kernel_rfl) (by kernel_rfl) (by kernel_rfl) (fun _ _ _ h => h) (Or.inl ⟨by kernel_rfl, ?qy5s0⟩) (by assumption) ?_
        case qy5s0 => (intro w hSw; (try dsimp only at hSw); go_simp) <;> (try with_reducible rfl)
        try simp only [Act.put, List.setIfInBounds_toArray, List.set_cons_zero, List.set_cons_succ, List.getElem_toArray, List.getElem_cons_succ, List.getElem_cons_zero]
        refine wpAnyH_take (i := 6) (v := ?qv6s0) rfl (by kernel_rfl) (by kernel_rfl) (by kernel_rfl) (fun _ _ _ h => h) (Or.inl ⟨by kernel_rfl, ?qy6s0⟩) (by assumption) ?_
        case qy6s0 => (intro w hSw; (try dsimp only at hSw); go_simp) <;> (try with_reducible rfl)
        try simp only [Act.put, List.setIfInBounds_toArray, List.set_cons_zero, List.set_cons_succ, List.getElem_toArray, List.getElem_cons_succ, List.getElem_cons_zero]
        refine wpAnyH_take (i := 7) (v := ?qv7s0) rfl (by kernel_rfl) (by kernel_rfl) (by kernel_rfl) (fun _ _ _ h => h) (Or.inl ⟨by kernel_rfl, ?qy7s0⟩) (by assumption) ?_
        case qy7s0 => (intro w hSw; (try dsimp only at hSw); go_simp) <;> (try with_reducible rfl)
        try simp only [Act.put, List.setIfInBounds_toArray, List.set_cons_zero, List.set_cons_succ, List.getElem_toArray, List.getElem_cons_succ, List.getElem_cons_zero]
        refine wpAnyH_ready (rs := [8, 12]) (by kernel_rfl) (by simp) ?_
        refine AllReadyH.cons rfl (fun K hK => ?_) (AllReadyH.cons rfl (fun K hK => ?_) (AllReadyH.nil))
        · go_simp
          refine (HPr.out _ (SB.out _ (Below.drew (Below.refl W2.heap.size W2)))).mono ?_
          rintro e w7 ⟨rfl, hy7⟩
          have z7 := (Below.drew (Below.refl W2.heap.size W2)).trans hy7
          have y1 := Blk.two_new w7 (.int .i64 v1) (.int .i64 v2) 32
          obtain ⟨z0, z1, _, _⟩ := y1.two
          go_wp2_with fail
          refine hK.out _ _ ?hs8s0a (fun hHeld => ?_)
          case hs8s0a => (try dsimp only); exact ST.out _ z7
          clear hK K
          try simp only [Act.put, List.setIfInBounds_toArray, List.set_cons_zero, List.set_cons_succ, List.getElem_toArray, List.getElem_cons_succ, List.getElem_cons_zero]
          refine wpAnyH_take (i := 9) (v := ?qv9s0w8) rfl (by kernel_rfl) (by kernel_rfl) (by kernel_rfl) (fun _ _ _ h => h) (Or.inl ⟨by kernel_rfl, ?qy9s0w8⟩) (by assumption) ?_
          case qy9s0w8 => (intro w hSw; (try dsimp only at hSw); go_simp) <;> (try with_reducible rfl)
          try simp only [Act.put, List.setIfInBounds_toArray, List.set_cons_zero, List.set_cons_succ, List.getElem_toArray, List.getElem_cons_succ, List.getElem_cons_zero]
          refine wpAnyH_take (i := 10) (v := ?qv10s0w8) rfl (by kernel_rfl) (by kernel_rfl) (by kernel_rfl) (fun _ _ _ h => h) (Or.inl ⟨by kernel_rfl, ?qy10s0w8⟩) (by assumption) ?_
          case qy10s0w8 => (intro w hSw; (try dsimp only at hSw); go_simp) <;> (try with_reducible rfl)
          try simp only [Act.put, List.setIfInBounds_toArray, List.set_cons_zero, List.set_cons_succ, List.getElem_toArray, List.getElem_cons_succ, List.getElem_cons_zero]
          refine wpAnyH_take (i := 11) (v := ?qv11s0w8) rfl (by kernel_rfl) (by kernel_rfl) (by kernel_rfl) (fun _ _ _ h => h) (Or.inl ⟨by kernel_rfl, ?qy11s0w8⟩) (by assumption) ?_
          case qy11s0w8 => (intro w hSw; (try dsimp only at hSw); go_simp) <;> (try with_reducible rfl)
          try simp only [Act.put, List.setIfInBounds_toArray, List.set_cons_zero, List.set_cons_succ, List.getElem_toArray, List.getElem_cons_succ, List.getElem_cons_zero]
          refine wpAnyH_ready (rs := [12]) (by kernel_rfl) (by simp) ?_
          refine AllReadyH.cons rfl (fun K hK => ?_) AllReadyH.nil
          go_simp
          refine hK.out _ _ ?hs12s0w8a (fun hHeld => ?_)
          case hs12s0w8a => (try dsimp only); exact ST.out _ (z7.alloc z7.size _)
          clear hK K
          try simp only [Act.put, List.setIfInBounds_toArray, List.set_cons_zero, List.set_cons_succ, List.getElem_toArray, List.getElem_cons_succ, List.getElem_cons_zero]
          refine wpAnyH_ready (rs := [13]) (by kernel_rfl) (by simp) ?_
          refine AllReadyH.cons rfl (fun K hK => ?_) AllReadyH.nil
          go_simp
          refine hK.out _ _ ?hs13s0w8a (fun hHeld => ?_)
          case hs13s0w8a => (try dsimp only); exact ST.out _ (z7.alloc z7.size _)
          clear hK K
          try simp only [Act.put, List.setIfInBounds_toArray, List.set_cons_zero, List.set_cons_succ, List.getElem_toArray, List.getElem_cons_succ, List.getElem_cons_zero]
          refine wpAnyH_take (i := 14) (v := ?qv14s0w8) rfl (by kernel_rfl) (by kernel_rfl) (by kernel_rfl) (fun _ _ _ h => h) (Or.inl ⟨by kernel_rfl, ?qy14s0w8⟩) (by assumption) ?_
          case qy14s0w8 => (intro w hSw; (try dsimp only at hSw); go_simp) <;> (try with_reducible rfl)
          try simp only [Act.put, List.setIfInBounds_toArray, List.set_cons_zero, List.set_cons_succ, List.getElem_toArray, List.getElem_cons_succ, List.getElem_cons_zero]
          refine wpAnyH_done (by kernel_rfl) ?_ _
          go_wp2_with fail
          go_meet
          exact ⟨w7.heap.size, rfl, rfl, Nat.lt_of_lt_of_le HW2.out z7.size, y1, ((SZ.out _ z7).1).alloc _, (SZ.out _ z7).2.alloc (SZ.out _ z7).2.size _⟩
        · go_simp
          refine hK.out _ _ ?hs12s0a (fun hHeld => ?_)
          case hs12s0a => (try dsimp only); exact ST.out _ (Below.drew (below_alloc1 W2 (.cells #[.int .i64 0, .int .i64 0] 32)))
          clear hK K
          try simp only [Act.put, List.setIfInBounds_toArray, List.set_cons_zero, List.set_cons_succ, List.getElem_toArray, List.getElem_cons_succ, List.getElem_cons_zero]
          refine wpAnyH_ready (rs := [8]) (by kernel_rfl) (by simp) ?_
          refine AllReadyH.cons rfl (fun K hK => ?_) AllReadyH.nil
          go_simp
          refine (HPr.out _ (SB.out _ (Below.drew (below_alloc1 W2 (.cells #[.int .i64 0, .int .i64 0] 32))))).mono ?_
          rintro e w7 ⟨rfl, hy7⟩
          have z7 := (Below.drew (below_alloc1 W2 (.cells #[.int .i64 0, .int .i64 0] 32))).trans (hy7.mono (Below.drew (below_alloc1 W2 (.cells #[.int .i64 0, .int .i64 0] 32))).size)
          have x7 : Blk w7 W2.heap.size 32 [.int .i64 0, .int .i64 0] := Blk.below (Blk.drew X1) hy7
          obtain ⟨z0, z1, g0, g1⟩ := x7.two
          go_wp2_with fail
          refine hK.out _ _ ?hs8s0w12a (fun hHeld => ?_)
          case hs8s0w12a => (try dsimp only); exact ST.out _ z7
          clear hK K
          try simp only [Act.put, List.setIfInBounds_toArray, List.set_cons_zero, List.set_cons_succ, List.getElem_toArray, List.getElem_cons_succ, List.getElem_cons_zero]
          refine wpAnyH_take (i := 9) (v := ?qv9s0w12) rfl (by kernel_rfl) (by kernel_rfl) (by kernel_rfl) (fun _ _ _ h => h) (Or.inl ⟨by kernel_rfl, ?qy9s0w12⟩) (by assumption) ?_
          case qy9s0w12 => (intro w hSw; (try dsimp only at hSw); go_simp) <;> (try with_reducible rfl)
          try simp only [Act.put, List.setIfInBounds_toArray, List.set_cons_zero, List.set_cons_succ, List.getElem_toArray, List.getElem_cons_succ, List.getElem_cons_zero]
          refine wpAnyH_take (i := 10) (v := ?qv10s0w12) rfl (by kernel_rfl) (by kernel_rfl) (by kernel_rfl) (fun _ _ _ h => h) (Or.inl ⟨by kernel_rfl, ?qy10s0w12⟩) (by assumption) ?_
          case qy10s0w12 => (intro w hSw; (try dsimp only at hSw); go_simp) <;> (try with_reducible rfl)
          try simp only [Act.put, List.setIfInBounds_toArray, List.set_cons_zero, List.set_cons_succ, List.getElem_toArray, List.getElem_cons_succ, List.getElem_cons_zero]
          refine wpAnyH_take (i := 11) (v := ?qv11s0w12) rfl (by kernel_rfl) (by kernel_rfl) (by kernel_rfl) (fun _ _ _ h => h) (Or.inl ⟨by kernel_rfl, ?qy11s0w12⟩) (by assumption) ?_
          case qy11s0w12 => (intro w hSw; (try dsimp only at hSw); go_simp) <;> (try with_reducible rfl)
          try simp only [Act.put, List.setIfInBounds_toArray, List.set_cons_zero, List.set_cons_succ, List.getElem_toArray, List.getElem_cons_succ, List.getElem_cons_zero]
          refine wpAnyH_ready (rs := [13]) (by kernel_rfl) (by simp) ?_
          refine AllReadyH.cons rfl (fun K hK => ?_) AllReadyH.nil
          go_simp
          refine hK.out _ _ ?hs13s0w12a (fun hHeld => ?_)
          case hs13s0w12a => (try dsimp only); exact (cell_set2 (HDne.out) 1).trans (ST.out _ z7)
          clear hK K
          try simp only [Act.put, List.setIfInBounds_toArray, List.set_cons_zero, List.set_cons_succ, List.getElem_toArray, List.getElem_cons_succ, List.getElem_cons_zero]
          refine wpAnyH_take (i := 14) (v := ?qv14s0w12) rfl (by kernel_rfl) (by kernel_rfl) (by kernel_rfl) (fun _ _ _ h => h) (Or.inl ⟨by kernel_rfl, ?qy14s0w12⟩) (by assumption) ?_
          case qy14s0w12 => (intro w hSw; (try dsimp only at hSw); go_simp) <;> (try with_reducible rfl)
          try simp only [Act.put, List.setIfInBounds_toArray, List.set_cons_zero, List.set_cons_succ, List.getElem_toArray, List.getElem_cons_succ, List.getElem_cons_zero]
          refine wpAnyH_done (by kernel_rfl) ?_ _
          go_wp2_with fail
          go_meet
          exact ⟨W2.heap.size, rfl, rfl, HW2.out, x7.put _ _, ((SZ.out _ z7).1).putOther (Nat.ne_of_lt HW2.out) _ _, below_set2 (SZ.out _ z7).2 (SZ.out _ z7).2.size (Nat.le_of_lt HW2.out) _ _⟩
      case rest =>
        obtain ⟨X, rfl, rfl, hXl, hX, hZ, hBc⟩ := hcut
        clear ST SB SZ X1 hrun
        have ST : Hid (∀ W, Below wc.heap.size wc W → (W.cell? ⟨X, 0, none⟩ = some (.int .i64 v1) ∧ W.cell? ⟨X, 1, none⟩ = some (.int .i64 v2)) ∧ Blk W w.heap.size 32 [.int .i64 0, .int .i64 0] ∧ Below w.heap.size w W) :=
          fun W hW => ⟨⟨(hX.below hW).two.1, (hX.below hW).two.2.1⟩, hZ.below hW, hBc.trans (hW.mono hBc.size)⟩
        clear hX hZ hBc
        go_upto_region 9 with (fail)
        by_cases hv : v3 = 0
        rotate_left
        · have e9 : (v3 == 0) = false := by simpa using hv
          have e9n : (v3 != 0) = true := by simpa using hv
          have hz := VN.out hv
          have F1 := Lib.hid (fE.out v3 hv (by rw [HTR2.out]; exact hz))
          clear hv hz
          refine wp_region_held_drew (S := fun W => W.cell? ⟨X, 0, none⟩ = some (.int .i64 v1) ∧ W.cell? ⟨X, 1, none⟩ = some (.int .i64 v2)) (by kernel_rfl) ?_ (fun hHeld => ?_)
          · (try dsimp only); exact (ST.out _ (Below.drew (Below.refl _ _))).1
          refine wpAnyH_take (i := 0) (v := ?_) rfl (by kernel_rfl) (by kernel_rfl) (by kernel_rfl) (fun _ _ _ h => h) (Or.inl ⟨by kernel_rfl, ?_⟩) (by assumption) ?_
          rotate_left 1
          · (intro w hSw; (try dsimp only at hSw); go_simp) <;> (try with_reducible rfl)
          try simp only [Act.put, List.setIfInBounds_toArray, List.set_cons_zero, List.set_cons_succ, List.getElem_toArray, List.getElem_cons_succ, List.getElem_cons_zero]
          refine wpAnyH_take (i := 1) (v := ?_) rfl (by kernel_rfl) (by kernel_rfl) (by kernel_rfl) (fun _ _ _ h => h) (Or.inl ⟨by kernel_rfl, ?_⟩) (by assumption) ?_
          rotate_left 1
          · (intro w hSw; (try dsimp only at hSw); go_simp) <;> (try with_reducible rfl)
          try simp only [Act.put, List.setIfInBounds_toArray, List.set_cons_zero, List.set_cons_succ, List.getElem_toArray, List.getElem_cons_succ, List.getElem_cons_zero]
          refine wpAnyH_take (i := 2) (v := ?_) rfl (by kernel_rfl) (by kernel_rfl) (by kernel_rfl) (fun _ _ _ h => h) (Or.inl ⟨by kernel_rfl, ?_⟩) (by assumption) ?_
          rotate_left 1
          · (intro w hSw; (try dsimp only at hSw); go_simp) <;> (try with_reducible rfl)
          try simp only [Act.put, List.setIfInBounds_toArray, List.set_cons_zero, List.set_cons_succ, List.getElem_toArray, List.getElem_cons_succ, List.getElem_cons_zero]
          refine wpAnyH_take (i := 3) (v := undef) rfl (by kernel_rfl) (by kernel_rfl) (by kernel_rfl) (fun _ _ _ h => h) (Or.inr ⟨by kernel_rfl, rfl⟩) (by assumption) ?_
          try simp only [Act.put, List.setIfInBounds_toArray, List.set_cons_zero, List.set_cons_succ, List.getElem_toArray, List.getElem_cons_succ, List.getElem_cons_zero]
          refine wpAnyH_take (i := 4) (v := ?_) rfl (by kernel_rfl) (by kernel_rfl) (by kernel_rfl) (fun _ _ _ h => h) (Or.inl ⟨by kernel_rfl, ?_⟩) (by assumption) ?_
          rotate_left 1
          · (intro w hSw; (try dsimp only at hSw); go_simp) <;> (try with_reducible rfl)
          try simp only [Act.put, List.setIfInBounds_toArray, List.set_cons_zero, List.set_cons_succ, List.getElem_toArray, List.getElem_cons_succ, List.getElem_cons_zero]
          refine wpAnyH_take (i := 5) (v := ?_) rfl (by kernel_rfl) (by kernel_rfl) (by kernel_rfl) (fun _ _ _ h => h) (Or.inl ⟨by kernel_rfl, ?_⟩) (by assumption) ?_
          rotate_left 1
          · (intro w hSw; (try dsimp only at hSw); go_simp) <;> (try with_reducible rfl)
          try simp only [Act.put, List.setIfInBounds_toArray, List.set_cons_zero, List.set_cons_succ, List.getElem_toArray, List.getElem_cons_succ, List.getElem_cons_zero]
          refine wpAnyH_take (i := 6) (v := undef) rfl (by kernel_rfl) (by kernel_rfl) (by kernel_rfl) (fun _ _ _ h => h) (Or.inr ⟨by kernel_rfl, rfl⟩) (by assumption) ?_
          try simp only [Act.put, List.setIfInBounds_toArray, List.set_cons_zero, List.set_cons_succ, List.getElem_toArray, List.getElem_cons_succ, List.getElem_cons_zero]
          refine wpAnyH_take (i := 7) (v := undef) rfl (by kernel_rfl) (by kernel_rfl) (by kernel_rfl) (fun _ _ _ h => h) (Or.inr ⟨by kernel_rfl, rfl⟩) (by assumption) ?_
          try simp only [Act.put, List.setIfInBounds_toArray, List.set_cons_zero, List.set_cons_succ, List.getElem_toArray, List.getElem_cons_succ, List.getElem_cons_zero]
          refine wpAnyH_take (i := 8) (v := undef) rfl (by kernel_rfl) (by kernel_rfl) (by kernel_rfl) (fun _ _ _ h => h) (Or.inr ⟨by kernel_rfl, rfl⟩) (by assumption) ?_
          try simp only [Act.put, List.setIfInBounds_toArray, List.set_cons_zero, List.set_cons_succ, List.getElem_toArray, List.getElem_cons_succ, List.getElem_cons_zero]
          refine wpAnyH_take (i := 9) (v := undef) rfl (by kernel_rfl) (by kernel_rfl) (by kernel_rfl) (fun _ _ _ h => h) (Or.inr ⟨by kernel_rfl, rfl⟩) (by assumption) ?_
          try simp only [Act.put, List.setIfInBounds_toArray, List.set_cons_zero, List.set_cons_succ, List.getElem_toArray, List.getElem_cons_succ, List.getElem_cons_zero]
          refine wpAnyH_take (i := 10) (v := undef) rfl (by kernel_rfl) (by kernel_rfl) (by kernel_rfl) (fun _ _ _ h => h) (Or.inr ⟨by kernel_rfl, rfl⟩) (by assumption) ?_
          try simp only [Act.put, List.setIfInBounds_toArray, List.set_cons_zero, List.set_cons_succ, List.getElem_toArray, List.getElem_cons_succ, List.getElem_cons_zero]
          refine wpAnyH_take (i := 11) (v := undef) rfl (by kernel_rfl) (by kernel_rfl) (by kernel_rfl) (fun _ _ _ h => h) (Or.inr ⟨by kernel_rfl, rfl⟩) (by assumption) ?_
          try simp only [Act.put, List.setIfInBounds_toArray, List.set_cons_zero, List.set_cons_succ, List.getElem_toArray, List.getElem_cons_succ, List.getElem_cons_zero]
          refine wpAnyH_take (i := 12) (v := ?_) rfl (by kernel_rfl) (by kernel_rfl) (by kernel_rfl) (fun _ _ _ h => h) (Or.inl ⟨by kernel_rfl, ?_⟩) (by assumption) ?_
          rotate_left 1
          · (intro w hSw; (try dsimp only at hSw); go_simp) <;> (try with_reducible rfl)
          try simp only [Act.put, List.setIfInBounds_toArray, List.set_cons_zero, List.set_cons_succ, List.getElem_toArray, List.getElem_cons_succ, List.getElem_cons_zero]
          refine wpAnyH_done (by kernel_rfl) ?_ _
          obtain ⟨⟨x0, x1⟩, hZ, hBc⟩ := ST.out _ (Below.drew (Below.refl _ _))
          clear ST
          generalize wc.drew = W9 at *
          obtain ⟨z0, z1, g0, g1⟩ := hZ.two
          obtain ⟨pb, pB⟩ := zero_put hZ hBc 0 0
          have PB := Lib.hid pB
          obtain ⟨t0, t1, _, _⟩ := pb.two
          clear pb pB
          go_wp2
          refine bodyPost_ret (v := .tuple #[.agg #[.int .i64 0, .int .i64 0], .int .i64 0, .int .i64 v3]) (by simp [results, Tryz.results8, go_sem, t0, t1]) rfl ?_
          exact F1.out _ PB.out
        subst hv
        clear VN
        have FP : Hid (∀ q : Int, q = (p : Int) + M → q = (tmP l 0 : Nat)) := by rintro q rfl; rw [HTP.out]; omega
        cases st with
        | false =>
          have F1 : Hid (∀ W, Below w.heap.size w W → (Ending.returned (.tuple #[.agg #[.int .i64 v1, .int .i64 v2], .int .i64 ((p : Int) + M), .int .i64 0]) = rdE R0 (tmP l 0) ∧ Below w.heap.size w W)) := by
            intro W hW
            refine ⟨?_, hW⟩
            rw [← HR0.out, if_neg (by decide), HTR2.out]; unfold rdE tmv; simp only; rw [if_pos trivial, ← FP.out _ rfl]
          clear fE FP
          refine wp_region_held_drew (S := fun W => W.cell? ⟨X, 0, none⟩ = some (.int .i64 v1) ∧ W.cell? ⟨X, 1, none⟩ = some (.int .i64 v2)) (by kernel_rfl) ?_ (fun hHeld => ?_)
          · (try dsimp only); exact (ST.out _ (Below.drew (Below.refl _ _))).1
          refine wpAnyH_take (i := 0) (v := ?_) rfl (by kernel_rfl) (by kernel_rfl) (by kernel_rfl) (fun _ _ _ h => h) (Or.inl ⟨by kernel_rfl, ?_⟩) (by assumption) ?_
          rotate_left 1
          · (intro w hSw; (try dsimp only at hSw); go_simp) <;> (try with_reducible rfl)
          try simp only [Act.put, List.setIfInBounds_toArray, List.set_cons_zero, List.set_cons_succ, List.getElem_toArray, List.getElem_cons_succ, List.getElem_cons_zero]
          refine wpAnyH_take (i := 1) (v := ?_) rfl (by kernel_rfl) (by kernel_rfl) (by kernel_rfl) (fun _ _ _ h => h) (Or.inl ⟨by kernel_rfl, ?_⟩) (by assumption) ?_
          rotate_left 1
          · (intro w hSw; (try dsimp only at hSw); go_simp) <;> (try with_reducible rfl)
          try simp only [Act.put, List.setIfInBounds_toArray, List.set_cons_zero, List.set_cons_succ, List.getElem_toArray, List.getElem_cons_succ, List.getElem_cons_zero]
          refine wpAnyH_take (i := 2) (v := ?_) rfl (by kernel_rfl) (by kernel_rfl) (by kernel_rfl) (fun _ _ _ h => h) (Or.inl ⟨by kernel_rfl, ?_⟩) (by assumption) ?_
          rotate_left 1
          · (intro w hSw; (try dsimp only at hSw); go_simp) <;> (try with_reducible rfl)
          try simp only [Act.put, List.setIfInBounds_toArray, List.set_cons_zero, List.set_cons_succ, List.getElem_toArray, List.getElem_cons_succ, List.getElem_cons_zero]
          refine wpAnyH_take (i := 3) (v := ?_) rfl (by kernel_rfl) (by kernel_rfl) (by kernel_rfl) (fun _ _ _ h => h) (Or.inl ⟨by kernel_rfl, ?_⟩) (by assumption) ?_
          rotate_left 1
          · (intro w hSw; (try dsimp only at hSw); go_simp) <;> (try with_reducible rfl)
          try simp only [Act.put, List.setIfInBounds_toArray, List.set_cons_zero, List.set_cons_succ, List.getElem_toArray, List.getElem_cons_succ, List.getElem_cons_zero]
          refine wpAnyH_take (i := 4) (v := ?_) rfl (by kernel_rfl) (by kernel_rfl) (by kernel_rfl) (fun _ _ _ h => h) (Or.inl ⟨by kernel_rfl, ?_⟩) (by assumption) ?_
          rotate_left 1
          · (intro w hSw; (try dsimp only at hSw); go_simp) <;> (try with_reducible rfl)
          try simp only [Act.put, List.setIfInBounds_toArray, List.set_cons_zero, List.set_cons_succ, List.getElem_toArray, List.getElem_cons_succ, List.getElem_cons_zero]
          refine wpAnyH_take (i := 5) (v := ?_) rfl (by kernel_rfl) (by kernel_rfl) (by kernel_rfl) (fun _ _ _ h => h) (Or.inl ⟨by kernel_rfl, ?_⟩) (by assumption) ?_
          rotate_left 1
          · (intro w hSw; (try dsimp only at hSw); go_simp) <;> (try with_reducible rfl)
          try simp only [Act.put, List.setIfInBounds_toArray, List.set_cons_zero, List.set_cons_succ, List.getElem_toArray, List.getElem_cons_succ, List.getElem_cons_zero]
          refine wpAnyH_take (i := 6) (v := undef) rfl (by kernel_rfl) (by kernel_rfl) (by kernel_rfl) (fun _ _ _ h => h) (Or.inr ⟨by kernel_rfl, rfl⟩) (by assumption) ?_
          try simp only [Act.put, List.setIfInBounds_toArray, List.set_cons_zero, List.set_cons_succ, List.getElem_toArray, List.getElem_cons_succ, List.getElem_cons_zero]
          refine wpAnyH_take (i := 7) (v := undef) rfl (by kernel_rfl) (by kernel_rfl) (by kernel_rfl) (fun _ _ _ h => h) (Or.inr ⟨by kernel_rfl, rfl⟩) (by assumption) ?_
          try simp only [Act.put, List.setIfInBounds_toArray, List.set_cons_zero, List.set_cons_succ, List.getElem_toArray, List.getElem_cons_succ, List.getElem_cons_zero]
          refine wpAnyH_take (i := 8) (v := undef) rfl (by kernel_rfl) (by kernel_rfl) (by kernel_rfl) (fun _ _ _ h => h) (Or.inr ⟨by kernel_rfl, rfl⟩) (by assumption) ?_
          try simp only [Act.put, List.setIfInBounds_toArray, List.set_cons_zero, List.set_cons_succ, List.getElem_toArray, List.getElem_cons_succ, List.getElem_cons_zero]
          refine wpAnyH_take (i := 9) (v := undef) rfl (by kernel_rfl) (by kernel_rfl) (by kernel_rfl) (fun _ _ _ h => h) (Or.inr ⟨by kernel_rfl, rfl⟩) (by assumption) ?_
          try simp only [Act.put, List.setIfInBounds_toArray, List.set_cons_zero, List.set_cons_succ, List.getElem_toArray, List.getElem_cons_succ, List.getElem_cons_zero]
          refine wpAnyH_take (i := 10) (v := undef) rfl (by kernel_rfl) (by kernel_rfl) (by kernel_rfl) (fun _ _ _ h => h) (Or.inr ⟨by kernel_rfl, rfl⟩) (by assumption) ?_
          try simp only [Act.put, List.setIfInBounds_toArray, List.set_cons_zero, List.set_cons_succ, List.getElem_toArray, List.getElem_cons_succ, List.getElem_cons_zero]
          refine wpAnyH_take (i := 11) (v := undef) rfl (by kernel_rfl) (by kernel_rfl) (by kernel_rfl) (fun _ _ _ h => h) (Or.inr ⟨by kernel_rfl, rfl⟩) (by assumption) ?_
          try simp only [Act.put, List.setIfInBounds_toArray, List.set_cons_zero, List.set_cons_succ, List.getElem_toArray, List.getElem_cons_succ, List.getElem_cons_zero]
          refine wpAnyH_take (i := 12) (v := ?_) rfl (by kernel_rfl) (by kernel_rfl) (by kernel_rfl) (fun _ _ _ h => h) (Or.inl ⟨by kernel_rfl, ?_⟩) (by assumption) ?_
          rotate_left 1
          · (intro w hSw; (try dsimp only at hSw); go_simp) <;> (try with_reducible rfl)
          try simp only [Act.put, List.setIfInBounds_toArray, List.set_cons_zero, List.set_cons_succ, List.getElem_toArray, List.getElem_cons_succ, List.getElem_cons_zero]
          refine wpAnyH_done (by kernel_rfl) ?_ _
          obtain ⟨⟨x0, x1⟩, hZ, hBc⟩ := ST.out _ (Below.drew (Below.refl _ _))
          clear ST
          generalize wc.drew = W9 at *
          obtain ⟨z0, z1, g0, g1⟩ := hZ.two
          obtain ⟨pb, pB⟩ := zero_put hZ hBc v1 v2
          have PB := Lib.hid pB
          obtain ⟨t0, t1, _, _⟩ := pb.two
          clear pb pB
          go_wp2
          refine bodyPost_ret (v := .tuple #[.agg #[.int .i64 v1, .int .i64 v2], .int .i64 ((p : Int) + M), .int .i64 0]) (by simp [results, Tryz.results8, go_sem, t0, t1]) rfl ?_
          exact F1.out _ PB.out
        | true =>
          have HK2 := Lib.hid (fun W => HK.out v2 W (by have := VI.out; unfold I64; omega))
          have FS : Hid (tmS l 0 = if v1 ≠ kindS v2 then (0, 0, 6) else (v1, v2, 0)) := by
            unfold Hid; rw [HTS.out, HTR2.out]; simp
          generalize kindS v2 = K at *
          clear HK VI
          by_cases hK : K = v1
          · have e8 : (K != v1) = false := by simpa using hK
            have F1 : Hid (∀ W, Below w.heap.size w W → (Ending.returned (.tuple #[.agg #[.int .i64 v1, .int .i64 v2], .int .i64 ((p : Int) + M), .int .i64 0]) = rdE R0 (tmP l 0) ∧ Below w.heap.size w W)) := by
              intro W hW
              refine ⟨?_, hW⟩
              rw [← HR0.out, if_pos rfl, FS.out, if_neg (fun x => x hK.symm)]; unfold rdE tmv; simp only; rw [if_pos trivial, ← FP.out _ rfl]
            clear fE FP FS hK
            refine wp_region_held_drew (S := fun W => W.cell? ⟨X, 0, none⟩ = some (.int .i64 v1) ∧ W.cell? ⟨X, 1, none⟩ = some (.int .i64 v2)) (by kernel_rfl) ?_ (fun hHeld => ?_)
            · (try dsimp only); exact (ST.out _ (Below.drew (Below.refl _ _))).1
            refine wpAnyH_take (i := 0) (v := ?_) rfl (by kernel_rfl) (by kernel_rfl) (by kernel_rfl) (fun _ _ _ h => h) (Or.inl ⟨by kernel_rfl, ?_⟩) (by assumption) ?_
            rotate_left 1
            · (intro w hSw; (try dsimp only at hSw); go_simp) <;> (try with_reducible rfl)
            try simp only [Act.put, List.setIfInBounds_toArray, List.set_cons_zero, List.set_cons_succ, List.getElem_toArray, List.getElem_cons_succ, List.getElem_cons_zero]
            refine wpAnyH_take (i := 1) (v := ?_) rfl (by kernel_rfl) (by kernel_rfl) (by kernel_rfl) (fun _ _ _ h => h) (Or.inl ⟨by kernel_rfl, ?_⟩) (by assumption) ?_
            rotate_left 1
            · (intro w hSw; (try dsimp only at hSw); go_simp) <;> (try with_reducible rfl)
            try simp only [Act.put, List.setIfInBounds_toArray, List.set_cons_zero, List.set_cons_succ, List.getElem_toArray, List.getElem_cons_succ, List.getElem_cons_zero]
            refine wpAnyH_take (i := 2) (v := ?_) rfl (by kernel_rfl) (by kernel_rfl) (by kernel_rfl) (fun _ _ _ h => h) (Or.inl ⟨by kernel_rfl, ?_⟩) (by assumption) ?_
            rotate_left 1
            · (intro w hSw; (try dsimp only at hSw); go_simp) <;> (try with_reducible rfl)
            try simp only [Act.put, List.setIfInBounds_toArray, List.set_cons_zero, List.set_cons_succ, List.getElem_toArray, List.getElem_cons_succ, List.getElem_cons_zero]
            refine wpAnyH_take (i := 3) (v := ?_) rfl (by kernel_rfl) (by kernel_rfl) (by kernel_rfl) (fun _ _ _ h => h) (Or.inl ⟨by kernel_rfl, ?_⟩) (by assumption) ?_
            rotate_left 1
            · (intro w hSw; (try dsimp only at hSw); go_simp) <;> (try with_reducible rfl)
            try simp only [Act.put, List.setIfInBounds_toArray, List.set_cons_zero, List.set_cons_succ, List.getElem_toArray, List.getElem_cons_succ, List.getElem_cons_zero]
            refine wpAnyH_take (i := 4) (v := ?_) rfl (by kernel_rfl) (by kernel_rfl) (by kernel_rfl) (fun _ _ _ h => h) (Or.inl ⟨by kernel_rfl, ?_⟩) (by assumption) ?_
            rotate_left 1
            · (intro w hSw; (try dsimp only at hSw); go_simp) <;> (try with_reducible rfl)
            try simp only [Act.put, List.setIfInBounds_toArray, List.set_cons_zero, List.set_cons_succ, List.getElem_toArray, List.getElem_cons_succ, List.getElem_cons_zero]
            refine wpAnyH_take (i := 5) (v := ?_) rfl (by kernel_rfl) (by kernel_rfl) (by kernel_rfl) (fun _ _ _ h => h) (Or.inl ⟨by kernel_rfl, ?_⟩) (by assumption) ?_
            rotate_left 1
            · (intro w hSw; (try dsimp only at hSw); go_simp) <;> (try with_reducible rfl)
            try simp only [Act.put, List.setIfInBounds_toArray, List.set_cons_zero, List.set_cons_succ, List.getElem_toArray, List.getElem_cons_succ, List.getElem_cons_zero]
            refine wpAnyH_take (i := 6) (v := ?_) rfl (by kernel_rfl) (by kernel_rfl) (by kernel_rfl) (fun _ _ _ h => h) (Or.inl ⟨by kernel_rfl, ?_⟩) (by assumption) ?_
            rotate_left 1
            · (intro w hSw; (try dsimp only at hSw); go_simp) <;> (try with_reducible rfl)
            try simp only [Act.put, List.setIfInBounds_toArray, List.set_cons_zero, List.set_cons_succ, List.getElem_toArray, List.getElem_cons_succ, List.getElem_cons_zero]
            refine wpAnyH_take (i := 7) (v := ?_) rfl (by kernel_rfl) (by kernel_rfl) (by kernel_rfl) (fun _ _ _ h => h) (Or.inl ⟨by kernel_rfl, ?_⟩) (by assumption) ?_
            rotate_left 1
            · (intro w hSw; (try dsimp only at hSw); go_simp) <;> (try with_reducible rfl)
            try simp only [Act.put, List.setIfInBounds_toArray, List.set_cons_zero, List.set_cons_succ, List.getElem_toArray, List.getElem_cons_succ, List.getElem_cons_zero]
            refine wpAnyH_take (i := 9) (v := ?_) rfl (by kernel_rfl) (by kernel_rfl) (by kernel_rfl) (fun _ _ _ h => h) (Or.inl ⟨by kernel_rfl, ?_⟩) (by assumption) ?_
            rotate_left 1
            · (intro w hSw; (try dsimp only at hSw); go_simp) <;> (try with_reducible rfl)
            try simp only [Act.put, List.setIfInBounds_toArray, List.set_cons_zero, List.set_cons_succ, List.getElem_toArray, List.getElem_cons_succ, List.getElem_cons_zero]
            refine wpAnyH_take (i := 10) (v := ?_) rfl (by kernel_rfl) (by kernel_rfl) (by kernel_rfl) (fun _ _ _ h => h) (Or.inl ⟨by kernel_rfl, ?_⟩) (by assumption) ?_
            rotate_left 1
            · (intro w hSw; (try dsimp only at hSw); go_simp) <;> (try with_reducible rfl)
            try simp only [Act.put, List.setIfInBounds_toArray, List.set_cons_zero, List.set_cons_succ, List.getElem_toArray, List.getElem_cons_succ, List.getElem_cons_zero]
            refine wpAnyH_ready (rs := [8]) (by kernel_rfl) (by simp) ?_
            refine AllReadyH.cons rfl (fun K hK => ?_) AllReadyH.nil
            go_simp
            refine (HK2.out _).mono ?_
            rintro e w8 ⟨rfl, hy8⟩
            have z8 := (Below.drew (Below.refl wc.heap.size wc)).trans hy8
            clear hy8
            go_wp2_with fail
            refine hK.out _ _ ?_ (fun hHeld => ?_)
            · (try dsimp only); exact (ST.out _ z8).1
            clear hK K
            try simp only [Act.put, List.setIfInBounds_toArray, List.set_cons_zero, List.set_cons_succ, List.getElem_toArray, List.getElem_cons_succ, List.getElem_cons_zero]
            refine wpAnyH_take (i := 11) (v := ?_) rfl (by kernel_rfl) (by kernel_rfl) (by kernel_rfl) (fun _ _ _ h => h) (Or.inl ⟨by kernel_rfl, ?_⟩) (by assumption) ?_
            rotate_left 1
            · (intro w hSw; (try dsimp only at hSw); go_simp) <;> (try with_reducible rfl)
            try simp only [Act.put, List.setIfInBounds_toArray, List.set_cons_zero, List.set_cons_succ, List.getElem_toArray, List.getElem_cons_succ, List.getElem_cons_zero]
            refine wpAnyH_take (i := 12) (v := ?_) rfl (by kernel_rfl) (by kernel_rfl) (by kernel_rfl) (fun _ _ _ h => h) (Or.inl ⟨by kernel_rfl, ?_⟩) (by assumption) ?_
            rotate_left 1
            · (intro w hSw; (try dsimp only at hSw); go_simp) <;> (try with_reducible rfl)
            try simp only [Act.put, List.setIfInBounds_toArray, List.set_cons_zero, List.set_cons_succ, List.getElem_toArray, List.getElem_cons_succ, List.getElem_cons_zero]
            refine wpAnyH_done (by kernel_rfl) ?_ _
            obtain ⟨⟨x0, x1⟩, hZ, hBc⟩ := ST.out _ z8
            clear ST z8
            obtain ⟨z0, z1, g0, g1⟩ := hZ.two
            obtain ⟨pb, pB⟩ := zero_put hZ hBc v1 v2
            have PB := Lib.hid pB
            obtain ⟨t0, t1, _, _⟩ := pb.two
            clear pb pB
            go_wp2
            refine bodyPost_ret (v := .tuple #[.agg #[.int .i64 v1, .int .i64 v2], .int .i64 ((p : Int) + M), .int .i64 0]) (by simp [results, Tryz.results8, go_sem, t0, t1]) rfl ?_
            exact F1.out _ PB.out
          · have e8 : (K != v1) = true := by simpa using hK
            have F1 : Hid (∀ W, Below w.heap.size w W → (Ending.returned (.tuple #[.agg #[.int .i64 0, .int .i64 0], .int .i64 0, .int .i64 6]) = rdE R0 (tmP l 0) ∧ Below w.heap.size w W)) := by
              intro W hW
              refine ⟨?_, hW⟩
              rw [← HR0.out, if_pos rfl, FS.out, if_pos (fun x => hK x.symm)]; unfold rdE tmv; simp only; rw [if_neg (by decide)]
            clear fE FP FS hK
            refine wp_region_held_drew (S := fun W => W.cell? ⟨X, 0, none⟩ = some (.int .i64 v1) ∧ W.cell? ⟨X, 1, none⟩ = some (.int .i64 v2)) (by kernel_rfl) ?_ (fun hHeld => ?_)
            · (try dsimp only); exact (ST.out _ (Below.drew (Below.refl _ _))).1
            refine wpAnyH_take (i := 0) (v := ?_) rfl (by kernel_rfl) (by kernel_rfl) (by kernel_rfl) (fun _ _ _ h => h) (Or.inl ⟨by kernel_rfl, ?_⟩) (by assumption) ?_
            rotate_left 1
            · (intro w hSw; (try dsimp only at hSw); go_simp) <;> (try with_reducible rfl)
            try simp only [Act.put, List.setIfInBounds_toArray, List.set_cons_zero, List.set_cons_succ, List.getElem_toArray, List.getElem_cons_succ, List.getElem_cons_zero]
            refine wpAnyH_take (i := 1) (v := ?_) rfl (by kernel_rfl) (by kernel_rfl) (by kernel_rfl) (fun _ _ _ h => h) (Or.inl ⟨by kernel_rfl, ?_⟩) (by assumption) ?_
            rotate_left 1
            · (intro w hSw; (try dsimp only at hSw); go_simp) <;> (try with_reducible rfl)
            try simp only [Act.put, List.setIfInBounds_toArray, List.set_cons_zero, List.set_cons_succ, List.getElem_toArray, List.getElem_cons_succ, List.getElem_cons_zero]
            refine wpAnyH_take (i := 2) (v := ?_) rfl (by kernel_rfl) (by kernel_rfl) (by kernel_rfl) (fun _ _ _ h => h) (Or.inl ⟨by kernel_rfl, ?_⟩) (by assumption) ?_
            rotate_left 1
            · (intro w hSw; (try dsimp only at hSw); go_simp) <;> (try with_reducible rfl)
            try simp only [Act.put, List.setIfInBounds_toArray, List.set_cons_zero, List.set_cons_succ, List.getElem_toArray, List.getElem_cons_succ, List.getElem_cons_zero]
            refine wpAnyH_take (i := 3) (v := ?_) rfl (by kernel_rfl) (by kernel_rfl) (by kernel_rfl) (fun _ _ _ h => h) (Or.inl ⟨by kernel_rfl, ?_⟩) (by assumption) ?_
            rotate_left 1
            · (intro w hSw; (try dsimp only at hSw); go_simp) <;> (try with_reducible rfl)
            try simp only [Act.put, List.setIfInBounds_toArray, List.set_cons_zero, List.set_cons_succ, List.getElem_toArray, List.getElem_cons_succ, List.getElem_cons_zero]
            refine wpAnyH_take (i := 4) (v := ?_) rfl (by kernel_rfl) (by kernel_rfl) (by kernel_rfl) (fun _ _ _ h => h) (Or.inl ⟨by kernel_rfl, ?_⟩) (by assumption) ?_
            rotate_left 1
            · (intro w hSw; (try dsimp only at hSw); go_simp) <;> (try with_reducible rfl)
            try simp only [Act.put, List.setIfInBounds_toArray, List.set_cons_zero, List.set_cons_succ, List.getElem_toArray, List.getElem_cons_succ, List.getElem_cons_zero]
            refine wpAnyH_take (i := 5) (v := ?_) rfl (by kernel_rfl) (by kernel_rfl) (by kernel_rfl) (fun _ _ _ h => h) (Or.inl ⟨by kernel_rfl, ?_⟩) (by assumption) ?_
            rotate_left 1
            · (intro w hSw; (try dsimp only at hSw); go_simp) <;> (try with_reducible rfl)
            try simp only [Act.put, List.setIfInBounds_toArray, List.set_cons_zero, List.set_cons_succ, List.getElem_toArray, List.getElem_cons_succ, List.getElem_cons_zero]
            refine wpAnyH_take (i := 6) (v := ?_) rfl (by kernel_rfl) (by kernel_rfl) (by kernel_rfl) (fun _ _ _ h => h) (Or.inl ⟨by kernel_rfl, ?_⟩) (by assumption) ?_
            rotate_left 1
            · (intro w hSw; (try dsimp only at hSw); go_simp) <;> (try with_reducible rfl)
            try simp only [Act.put, List.setIfInBounds_toArray, List.set_cons_zero, List.set_cons_succ, List.getElem_toArray, List.getElem_cons_succ, List.getElem_cons_zero]
            refine wpAnyH_take (i := 7) (v := ?_) rfl (by kernel_rfl) (by kernel_rfl) (by kernel_rfl) (fun _ _ _ h => h) (Or.inl ⟨by kernel_rfl, ?_⟩) (by assumption) ?_
            rotate_left 1
            · (intro w hSw; (try dsimp only at hSw); go_simp) <;> (try with_reducible rfl)
            try simp only [Act.put, List.setIfInBounds_toArray, List.set_cons_zero, List.set_cons_succ, List.getElem_toArray, List.getElem_cons_succ, List.getElem_cons_zero]
            refine wpAnyH_take (i := 9) (v := ?_) rfl (by kernel_rfl) (by kernel_rfl) (by kernel_rfl) (fun _ _ _ h => h) (Or.inl ⟨by kernel_rfl, ?_⟩) (by assumption) ?_
            rotate_left 1
            · (intro w hSw; (try dsimp only at hSw); go_simp) <;> (try with_reducible rfl)
            try simp only [Act.put, List.setIfInBounds_toArray, List.set_cons_zero, List.set_cons_succ, List.getElem_toArray, List.getElem_cons_succ, List.getElem_cons_zero]
            refine wpAnyH_take (i := 10) (v := ?_) rfl (by kernel_rfl) (by kernel_rfl) (by kernel_rfl) (fun _ _ _ h => h) (Or.inl ⟨by kernel_rfl, ?_⟩) (by assumption) ?_
            rotate_left 1
            · (intro w hSw; (try dsimp only at hSw); go_simp) <;> (try with_reducible rfl)
            try simp only [Act.put, List.setIfInBounds_toArray, List.set_cons_zero, List.set_cons_succ, List.getElem_toArray, List.getElem_cons_succ, List.getElem_cons_zero]
            refine wpAnyH_ready (rs := [8]) (by kernel_rfl) (by simp) ?_
            refine AllReadyH.cons rfl (fun K hK => ?_) AllReadyH.nil
            go_simp
            refine (HK2.out _).mono ?_
            rintro e w8 ⟨rfl, hy8⟩
            have z8 := (Below.drew (Below.refl wc.heap.size wc)).trans hy8
            clear hy8
            go_wp2_with fail
            refine hK.out _ _ ?_ (fun hHeld => ?_)
            · (try dsimp only); exact (ST.out _ z8).1
            clear hK K
            try simp only [Act.put, List.setIfInBounds_toArray, List.set_cons_zero, List.set_cons_succ, List.getElem_toArray, List.getElem_cons_succ, List.getElem_cons_zero]
            refine wpAnyH_take (i := 11) (v := ?_) rfl (by kernel_rfl) (by kernel_rfl) (by kernel_rfl) (fun _ _ _ h => h) (Or.inl ⟨by kernel_rfl, ?_⟩) (by assumption) ?_
            rotate_left 1
            · (intro w hSw; (try dsimp only at hSw); go_simp) <;> (try with_reducible rfl)
            try simp only [Act.put, List.setIfInBounds_toArray, List.set_cons_zero, List.set_cons_succ, List.getElem_toArray, List.getElem_cons_succ, List.getElem_cons_zero]
            refine wpAnyH_take (i := 12) (v := ?_) rfl (by kernel_rfl) (by kernel_rfl) (by kernel_rfl) (fun _ _ _ h => h) (Or.inl ⟨by kernel_rfl, ?_⟩) (by assumption) ?_
            rotate_left 1
            · (intro w hSw; (try dsimp only at hSw); go_simp) <;> (try with_reducible rfl)
            try simp only [Act.put, List.setIfInBounds_toArray, List.set_cons_zero, List.set_cons_succ, List.getElem_toArray, List.getElem_cons_succ, List.getElem_cons_zero]
            refine wpAnyH_done (by kernel_rfl) ?_ _
            obtain ⟨⟨x0, x1⟩, hZ, hBc⟩ := ST.out _ z8
            clear ST z8
            obtain ⟨z0, z1, g0, g1⟩ := hZ.two
            obtain ⟨pb, pB⟩ := zero_put hZ hBc 0 0
            have PB := Lib.hid pB
            obtain ⟨t0, t1, _, _⟩ := pb.two
            clear pb pB
            go_wp2
            refine bodyPost_ret (v := .tuple #[.agg #[.int .i64 0, .int .i64 0], .int .i64 0, .int .i64 6]) (by simp [results, Tryz.results8, go_sem, t0, t1]) rfl ?_
            exact F1.out _ PB.out
    · by_cases hT : (n : Int) - (p : Int) < m
      · have F1 := Lib.hid (fE.out 3 (by decide) (by rw [HTR.out, if_pos (by rw [hx1]; exact hT)]))
        have e5 : decide (m > (n : Int) - (p : Int)) = true := by simpa using hT
        clear hx1 HTR HTS HTP
        obtain ⟨z0, z1, g0, g1⟩ := HZ2.out.two
        obtain ⟨pb, pB⟩ := zero_put HZ2.out HB2.out 0 0
        have PB := Lib.hid pB
        obtain ⟨t0, t1, _, _⟩ := pb.two
        clear pb pB
        go_wp2
        refine bodyPost_ret (v := .tuple #[.agg #[.int .i64 0, .int .i64 0], .int .i64 0, .int .i64 3]) (by simp [results, Tryz.results8, go_sem, t0, t1]) rfl ?_
        exact F1.out _ PB.out
      have HTR2 := Lib.hid (HTR.out.trans (if_neg (by rw [hx1]; exact hT)))
      have e5 : decide (m > (n : Int) - (p : Int)) = false := by simpa using hT
      obtain ⟨M, rfl⟩ : ∃ M : Nat, m = M := ⟨m.toNat, by omega⟩
      have hM : (M : Int).toNat = M := by simp
      rw [hM] at HTR2 HTP
      obtain ⟨A', c', hrun, hcut, hcc⟩ := cutIJ A n c p (p + M) (by omega) (by omega) hc
      rw [Nat.add_sub_cancel_left] at hrun hcut hcc
      have hpm : ((p + M : Nat) : Int) = (p : Int) + (M : Int) := by omega
      rw [hpm] at hrun
      have hb1 : (p : Int) + (M : Int) ≤ 1000 := by omega
      have hb2 : (0 : Int) ≤ (p : Int) + (M : Int) := by omega
      have hwr : IntKind.i64.wrap ((p : Int) + (M : Int)) = (p : Int) + (M : Int) := by simp [IntKind.wrap, IntKind.bits, IntKind.signed]; omega
      have SC := Lib.hid (hcut _ _ HS2.out)
      have hM2 : M ≤ 1000 := by omega
      generalize (l.drop p).take M = r at *
      have VI := Lib.hid (prsV_I64 tn r)
      have VN := Lib.hid (prsV_no tn r)
      have HPr := Lib.hid (fun W (hW : Bs W A' M r) => HP.out tn A' M c' r W hW (by omega))
      generalize prsV tn r = V at *
      obtain ⟨v1, v2, v3⟩ := V
      unfold prsE tmv at HPr
      simp only at VI VN
      clear hM hcut hx1 hpm HTR HP 
      go_upto_region 8 with (fail)
      clear e1 e2 e3 e5
      have HW2 := Lib.hid (show w.heap.size < W2.heap.size from HZ2.out.lt)
      have ST : Hid (∀ W, Below W2.heap.size W2 W → W.cell? ⟨D, 1, none⟩ = some (.int .i64 tn)) := fun W hW => (Hd.out.below hW).three.2.1
      have SB : Hid (∀ W, Below W2.heap.size W2 W → Bs W A' M r) := fun W hW => SC.out.below hW
      have SZ : Hid (∀ W, Below W2.heap.size W2 W → Blk W w.heap.size 32 [.int .i64 0, .int .i64 0] ∧ Below w.heap.size w W) := fun W hW => ⟨HZ2.out.below hW, HB2.out.trans (hW.mono HB2.out.size)⟩
      have HDne := Lib.hid (show D ≠ W2.heap.size from by have := Hd.out.lt; omega)
      have X1 := (Blk.two_new W2 (.int .i64 0) (.int .i64 0) 32)
      clear Hd SC HZ2 HB2 d0 d1 d2
      go_cut [13, 14] from 15 (fun x y wc => RMid w v1 v2 v3 x y wc)
      case first =>
        refine wp_region_held_drew (S := fun W => W.cell? ⟨D, 1, none⟩ = some (.int .i64 tn)) (by kernel_rfl) ?hb0 (fun hHeld => ?_)
        case hb0 => (try dsimp only); exact ST.out _ (Below.drew (Below.refl W2.heap.size W2))
        refine wpAnyH_take (i := 0) (v := ?qv0s1) rfl (by kernel_rfl) (by kernel_rfl) (by kernel_rfl) (fun _ _ _ h => h) (Or.inl ⟨by kernel_rfl, ?qy0s1⟩) (by assumption) ?_
        case qy0s1 => (intro w hSw; (try dsimp only at hSw); go_simp) <;> (try with_reducible rfl)
        try simp only [Act.put, List.setIfInBounds_toArray, List.set_cons_zero, List.set_cons_succ, List.getElem_toArray, List.getElem_cons_succ, List.getElem_cons_zero]
        refine wpAnyH_take (i := 1) (v := ?qv1s1) rfl (by kernel_rfl) (by kernel_rfl) (by kernel_rfl) (fun _ _ _ h => h) (Or.inl ⟨by kernel_rfl, ?qy1s1⟩) (by assumption) ?_
        case qy1s1 => (intro w hSw; (try dsimp only at hSw); go_simp) <;> (try with_reducible rfl)
        try simp only [Act.put, List.setIfInBounds_toArray, List.set_cons_zero, List.set_cons_succ, List.getElem_toArray, List.getElem_cons_succ, List.getElem_cons_zero]
        refine wpAnyH_take (i := 2) (v := ?qv2s1) rfl (by kernel_rfl) (by kernel_rfl) (by kernel_rfl) (fun _ _ _ h => h) (Or.inl ⟨by kernel_rfl, ?qy2s1⟩) (by assumption) ?_
        case qy2s1 => (intro w hSw; (try dsimp only at hSw); go_simp) <;> (try with_reducible rfl)
        try simp only [Act.put, List.setIfInBounds_toArray, List.set_cons_zero, List.set_cons_succ, List.getElem_toArray, List.getElem_cons_succ, List.getElem_cons_zero]
        refine wpAnyH_take (i := 3) (v := ?qv3s1) rfl (by kernel_rfl) (by kernel_rfl) (by kernel_rfl) (fun _ _ _ h => h) (Or.inl ⟨by kernel_rfl, ?qy3s1⟩) (by assumption) ?_
        case qy3s1 => (intro w hSw; (try dsimp only at hSw); go_simp) <;> (try with_reducible rfl)
        try simp only [Act.put, List.setIfInBounds_toArray, List.set_cons_zero, List.set_cons_succ, List.getElem_toArray, List.getElem_cons_succ, List.getElem_cons_zero]
        refine wpAnyH_take (i := 4) (v := ?qv4s1) rfl (by kernel_rfl) (by kernel_rfl) (by kernel_rfl) (fun _ _ _ h => h) (Or.inl ⟨by kernel_rfl, ?qy4s1⟩) (by assumption) ?_
        case qy4s1 => (intro w hSw; (try dsimp only at hSw); go_simp) <;> (try with_reducible rfl)
        try simp only [Act.put, List.setIfInBounds_toArray, List.set_cons_zero, List.set_cons_succ, List.getElem_toArray, List.getElem_cons_succ, List.getElem_cons_zero]
        refine wpAnyH_take (i := 5) (v := ?qv5s1) rfl (by kernel_rfl) (by kernel_rfl) (by kernel_rfl) (fun _ _ _ h => h) (Or.inl ⟨by kernel_rfl, ?qy5s1⟩) (by assumption) ?_
        case qy5s1 => (intro w hSw; (try dsimp only at hSw); go_simp) <;> (try with_reducible rfl)
        try simp only [Act.put, List.setIfInBounds_toArray, List.set_cons_zero, List.set_cons_succ, List.getElem_toArray, List.getElem_cons_succ, List.getElem_cons_zero]
        refine wpAnyH_take (i := 6) (v := ?qv6s1) rfl (by kernel_rfl) (by kernel_rfl) (by kernel_rfl) (fun _ _ _ h => h) (Or.inl ⟨by kernel_rfl, ?qy6s1⟩) (by assumption) ?_
        case qy6s1 => (intro w hSw; (try dsimp only at hSw); go_simp) <;> (try with_reducible rfl)
        try simp only [Act.put, List.setIfInBounds_toArray, List.set_cons_zero, List.set_cons_succ, List.getElem_toArray, List.getElem_cons_succ, List.getElem_cons_zero]
        refine wpAnyH_take (i := 7) (v := ?qv7s1) rfl (by kernel_rfl) (by kernel_rfl) (by kernel_rfl) (fun _ _ _ h => h) (Or.inl ⟨by kernel_rfl, ?qy7s1⟩) (by assumption) ?_
        case qy7s1 => (intro w hSw; (try dsimp only at hSw); go_simp) <;> (try with_reducible rfl)
        try simp only [Act.put, List.setIfInBounds_toArray, List.set_cons_zero, List.set_cons_succ, List.getElem_toArray, List.getElem_cons_succ, List.getElem_cons_zero]
        refine wpAnyH_ready (rs := [8, 12]) (by kernel_rfl) (by simp) ?_
        refine AllReadyH.cons rfl (fun K hK => ?_) (AllReadyH.cons rfl (fun K hK => ?_) (AllReadyH.nil))
        · go_simp
          refine (HPr.out _ (SB.out _ (Below.drew (Below.refl W2.heap.size W2)))).mono ?_
          rintro e w7 ⟨rfl, hy7⟩
          have z7 := (Below.drew (Below.refl W2.heap.size W2)).trans hy7
          have y1 := Blk.two_new w7 (.int .i64 v1) (.int .i64 v2) 32
          obtain ⟨z0, z1, _, _⟩ := y1.two
          go_wp2_with fail
          refine hK.out _ _ ?hs8s1a (fun hHeld => ?_)
          case hs8s1a => (try dsimp only); exact ST.out _ z7
          clear hK K
          try simp only [Act.put, List.setIfInBounds_toArray, List.set_cons_zero, List.set_cons_succ, List.getElem_toArray, List.getElem_cons_succ, List.getElem_cons_zero]
          refine wpAnyH_take (i := 9) (v := ?qv9s1w8) rfl (by kernel_rfl) (by kernel_rfl) (by kernel_rfl) (fun _ _ _ h => h) (Or.inl ⟨by kernel_rfl, ?qy9s1w8⟩) (by assumption) ?_
          case qy9s1w8 => (intro w hSw; (try dsimp only at hSw); go_simp) <;> (try with_reducible rfl)
          try simp only [Act.put, List.setIfInBounds_toArray, List.set_cons_zero, List.set_cons_succ, List.getElem_toArray, List.getElem_cons_succ, List.getElem_cons_zero]
          refine wpAnyH_take (i := 10) (v := ?qv10s1w8) rfl (by kernel_rfl) (by kernel_rfl) (by kernel_rfl) (fun _ _ _ h => h) (Or.inl ⟨by kernel_rfl, ?qy10s1w8⟩) (by assumption) ?_
          case qy10s1w8 => (intro w hSw; (try dsimp only at hSw); go_simp) <;> (try with_reducible rfl)
          try simp only [Act.put, List.setIfInBounds_toArray, List.set_cons_zero, List.set_cons_succ, List.getElem_toArray, List.getElem_cons_succ, List.getElem_cons_zero]
          refine wpAnyH_take (i := 11) (v := ?qv11s1w8) rfl (by kernel_rfl) (by kernel_rfl) (by kernel_rfl) (fun _ _ _ h => h) (Or.inl ⟨by kernel_rfl, ?qy11s1w8⟩) (by assumption) ?_
          case qy11s1w8 => (intro w hSw; (try dsimp only at hSw); go_simp) <;> (try with_reducible rfl)
          try simp only [Act.put, List.setIfInBounds_toArray, List.set_cons_zero, List.set_cons_succ, List.getElem_toArray, List.getElem_cons_succ, List.getElem_cons_zero]
          refine wpAnyH_ready (rs := [12]) (by kernel_rfl) (by simp) ?_
          refine AllReadyH.cons rfl (fun K hK => ?_) AllReadyH.nil
          go_simp
          refine hK.out _ _ ?hs12s1w8a (fun hHeld => ?_)
          case hs12s1w8a => (try dsimp only); exact ST.out _ (z7.alloc z7.size _)
          clear hK K
          try simp only [Act.put, List.setIfInBounds_toArray, List.set_cons_zero, List.set_cons_succ, List.getElem_toArray, List.getElem_cons_succ, List.getElem_cons_zero]
          refine wpAnyH_ready (rs := [13]) (by kernel_rfl) (by simp) ?_
          refine AllReadyH.cons rfl (fun K hK => ?_) AllReadyH.nil
          go_simp
          refine hK.out _ _ ?hs13s1w8a (fun hHeld => ?_)
          case hs13s1w8a => (try dsimp only); exact ST.out _ (z7.alloc z7.size _)
          clear hK K
          try simp only [Act.put, List.setIfInBounds_toArray, List.set_cons_zero, List.set_cons_succ, List.getElem_toArray, List.getElem_cons_succ, List.getElem_cons_zero]
          refine wpAnyH_take (i := 14) (v := ?qv14s1w8) rfl (by kernel_rfl) (by kernel_rfl) (by kernel_rfl) (fun _ _ _ h => h) (Or.inl ⟨by kernel_rfl, ?qy14s1w8⟩) (by assumption) ?_
          case qy14s1w8 => (intro w hSw; (try dsimp only at hSw); go_simp) <;> (try with_reducible rfl)
          try simp only [Act.put, List.setIfInBounds_toArray, List.set_cons_zero, List.set_cons_succ, List.getElem_toArray, List.getElem_cons_succ, List.getElem_cons_zero]
          refine wpAnyH_done (by kernel_rfl) ?_ _
          go_wp2_with fail
          go_meet
          exact ⟨w7.heap.size, rfl, rfl, Nat.lt_of_lt_of_le HW2.out z7.size, y1, ((SZ.out _ z7).1).alloc _, (SZ.out _ z7).2.alloc (SZ.out _ z7).2.size _⟩
        · go_simp
          refine hK.out _ _ ?hs12s1a (fun hHeld => ?_)
          case hs12s1a => (try dsimp only); exact ST.out _ (Below.drew (below_alloc1 W2 (.cells #[.int .i64 0, .int .i64 0] 32)))
          clear hK K
          try simp only [Act.put, List.setIfInBounds_toArray, List.set_cons_zero, List.set_cons_succ, List.getElem_toArray, List.getElem_cons_succ, List.getElem_cons_zero]
          refine wpAnyH_ready (rs := [8]) (by kernel_rfl) (by simp) ?_
          refine AllReadyH.cons rfl (fun K hK => ?_) AllReadyH.nil
          go_simp
          refine (HPr.out _ (SB.out _ (Below.drew (below_alloc1 W2 (.cells #[.int .i64 0, .int .i64 0] 32))))).mono ?_
          rintro e w7 ⟨rfl, hy7⟩
          have z7 := (Below.drew (below_alloc1 W2 (.cells #[.int .i64 0, .int .i64 0] 32))).trans (hy7.mono (Below.drew (below_alloc1 W2 (.cells #[.int .i64 0, .int .i64 0] 32))).size)
          have x7 : Blk w7 W2.heap.size 32 [.int .i64 0, .int .i64 0] := Blk.below (Blk.drew X1) hy7
          obtain ⟨z0, z1, g0, g1⟩ := x7.two
          go_wp2_with fail
          refine hK.out _ _ ?hs8s1w12a (fun hHeld => ?_)
          case hs8s1w12a => (try dsimp only); exact ST.out _ z7
          clear hK K
          try simp only [Act.put, List.setIfInBounds_toArray, List.set_cons_zero, List.set_cons_succ, List.getElem_toArray, List.getElem_cons_succ, List.getElem_cons_zero]
          refine wpAnyH_take (i := 9) (v := ?qv9s1w12) rfl (by kernel_rfl) (by kernel_rfl) (by kernel_rfl) (fun _ _ _ h => h) (Or.inl ⟨by kernel_rfl, ?qy9s1w12⟩) (by assumption) ?_
          case qy9s1w12 => (intro w hSw; (try dsimp only at hSw); go_simp) <;> (try with_reducible rfl)
          try simp only [Act.put, List.setIfInBounds_toArray, List.set_cons_zero, List.set_cons_succ, List.getElem_toArray, List.getElem_cons_succ, List.getElem_cons_zero]
          refine wpAnyH_take (i := 10) (v := ?qv10s1w12) rfl (by kernel_rfl) (by kernel_rfl) (by kernel_rfl) (fun _ _ _ h => h) (Or.inl ⟨by kernel_rfl, ?qy10s1w12⟩) (by assumption) ?_
          case qy10s1w12 => (intro w hSw; (try dsimp only at hSw); go_simp) <;> (try with_reducible rfl)
          try simp only [Act.put, List.setIfInBounds_toArray, List.set_cons_zero, List.set_cons_succ, List.getElem_toArray, List.getElem_cons_succ, List.getElem_cons_zero]
          refine wpAnyH_take (i := 11) (v := ?qv11s1w12) rfl (by kernel_rfl) (by kernel_rfl) (by kernel_rfl) (fun _ _ _ h => h) (Or.inl ⟨by kernel_rfl, ?qy11s1w12⟩) (by assumption) ?_
          case qy11s1w12 => (intro w hSw; (try dsimp only at hSw); go_simp) <;> (try with_reducible rfl)
          try simp only [Act.put, List.setIfInBounds_toArray, List.set_cons_zero, List.set_cons_succ, List.getElem_toArray, List.getElem_cons_succ, List.getElem_cons_zero]
          refine wpAnyH_ready (rs := [13]) (by kernel_rfl) (by simp) ?_
          refine AllReadyH.cons rfl (fun K hK => ?_) AllReadyH.nil
          go_simp
          refine hK.out _ _ ?hs13s1w12a (fun hHeld => ?_)
          case hs13s1w12a => (try dsimp only); exact (cell_set2 (HDne.out) 1).trans (ST.out _ z7)
          clear hK K
          try simp only [Act.put, List.setIfInBounds_toArray, List.set_cons_zero, List.set_cons_succ, List.getElem_toArray, List.getElem_cons_succ, List.getElem_cons_zero]
          refine wpAnyH_take (i := 14) (v := ?qv14s1w12) rfl (by kernel_rfl) (by kernel_rfl) (by kernel_rfl) (fun _ _ _ h => h) (Or.inl ⟨by kernel_rfl, ?qy14s1w12⟩) (by assumption) ?_
          case qy14s1w12 => (intro w hSw; (try dsimp only at hSw); go_simp) <;> (try with_reducible rfl)
          try simp only [Act.put, List.setIfInBounds_toArray, List.set_cons_zero, List.set_cons_succ, List.getElem_toArray, List.getElem_cons_succ, List.getElem_cons_zero]
          refine wpAnyH_done (by kernel_rfl) ?_ _
          go_wp2_with fail
          go_meet
          exact ⟨W2.heap.size, rfl, rfl, HW2.out, x7.put _ _, ((SZ.out _ z7).1).putOther (Nat.ne_of_lt HW2.out) _ _, below_set2 (SZ.out _ z7).2 (SZ.out _ z7).2.size (Nat.le_of_lt HW2.out) _ _⟩
      case rest =>
        obtain ⟨X, rfl, rfl, hXl, hX, hZ, hBc⟩ := hcut
        clear ST SB SZ X1 hrun
        have ST : Hid (∀ W, Below wc.heap.size wc W → (W.cell? ⟨X, 0, none⟩ = some (.int .i64 v1) ∧ W.cell? ⟨X, 1, none⟩ = some (.int .i64 v2)) ∧ Blk W w.heap.size 32 [.int .i64 0, .int .i64 0] ∧ Below w.heap.size w W) :=
          fun W hW => ⟨⟨(hX.below hW).two.1, (hX.below hW).two.2.1⟩, hZ.below hW, hBc.trans (hW.mono hBc.size)⟩
        clear hX hZ hBc
        go_upto_region 9 with (fail)
        by_cases hv : v3 = 0
        rotate_left
        · have e9 : (v3 == 0) = false := by simpa using hv
          have e9n : (v3 != 0) = true := by simpa using hv
          have hz := VN.out hv
          have F1 := Lib.hid (fE.out v3 hv (by rw [HTR2.out]; exact hz))
          clear hv hz
          refine wp_region_held_drew (S := fun W => W.cell? ⟨X, 0, none⟩ = some (.int .i64 v1) ∧ W.cell? ⟨X, 1, none⟩ = some (.int .i64 v2)) (by kernel_rfl) ?_ (fun hHeld => ?_)
          · (try dsimp only); exact (ST.out _ (Below.drew (Below.refl _ _))).1
          refine wpAnyH_take (i := 0) (v := ?_) rfl (by kernel_rfl) (by kernel_rfl) (by kernel_rfl) (fun _ _ _ h => h) (Or.inl ⟨by kernel_rfl, ?_⟩) (by assumption) ?_
          rotate_left 1
          · (intro w hSw; (try dsimp only at hSw); go_simp) <;> (try with_reducible rfl)
          try simp only [Act.put, List.setIfInBounds_toArray, List.set_cons_zero, List.set_cons_succ, List.getElem_toArray, List.getElem_cons_succ, List.getElem_cons_zero]
          refine wpAnyH_take (i := 1) (v := ?_) rfl (by kernel_rfl) (by kernel_rfl) (by kernel_rfl) (fun _ _ _ h => h) (Or.inl ⟨by kernel_rfl, ?_⟩) (by assumption) ?_
          rotate_left 1
          · (intro w hSw; (try dsimp only at hSw); go_simp) <;> (try with_reducible rfl)
          try simp only [Act.put, List.setIfInBounds_toArray, List.set_cons_zero, List.set_cons_succ, List.getElem_toArray, List.getElem_cons_succ, List.getElem_cons_zero]
          refine wpAnyH_take (i := 2) (v := ?_) rfl (by kernel_rfl) (by kernel_rfl) (by kernel_rfl) (fun _ _ _ h => h) (Or.inl ⟨by kernel_rfl, ?_⟩) (by assumption) ?_
          rotate_left 1
          · (intro w hSw; (try dsimp only at hSw); go_simp) <;> (try with_reducible rfl)
          try simp only [Act.put, List.setIfInBounds_toArray, List.set_cons_zero, List.set_cons_succ, List.getElem_toArray, List.getElem_cons_succ, List.getElem_cons_zero]
          refine wpAnyH_take (i := 3) (v := undef) rfl (by kernel_rfl) (by kernel_rfl) (by kernel_rfl) (fun _ _ _ h => h) (Or.inr ⟨by kernel_rfl, rfl⟩) (by assumption) ?_
          try simp only [Act.put, List.setIfInBounds_toArray, List.set_cons_zero, List.set_cons_succ, List.getElem_toArray, List.getElem_cons_succ, List.getElem_cons_zero]
          refine wpAnyH_take (i := 4) (v := ?_) rfl (by kernel_rfl) (by kernel_rfl) (by kernel_rfl) (fun _ _ _ h => h) (Or.inl ⟨by kernel_rfl, ?_⟩) (by assumption) ?_
          rotate_left 1
          · (intro w hSw; (try dsimp only at hSw); go_simp) <;> (try with_reducible rfl)
          try simp only [Act.put, List.setIfInBounds_toArray, List.set_cons_zero, List.set_cons_succ, List.getElem_toArray, List.getElem_cons_succ, List.getElem_cons_zero]
          refine wpAnyH_take (i := 5) (v := ?_) rfl (by kernel_rfl) (by kernel_rfl) (by kernel_rfl) (fun _ _ _ h => h) (Or.inl ⟨by kernel_rfl, ?_⟩) (by assumption) ?_
          rotate_left 1
          · (intro w hSw; (try dsimp only at hSw); go_simp) <;> (try with_reducible rfl)
          try simp only [Act.put, List.setIfInBounds_toArray, List.set_cons_zero, List.set_cons_succ, List.getElem_toArray, List.getElem_cons_succ, List.getElem_cons_zero]
          refine wpAnyH_take (i := 6) (v := undef) rfl (by kernel_rfl) (by kernel_rfl) (by kernel_rfl) (fun _ _ _ h => h) (Or.inr ⟨by kernel_rfl, rfl⟩) (by assumption) ?_
          try simp only [Act.put, List.setIfInBounds_toArray, List.set_cons_zero, List.set_cons_succ, List.getElem_toArray, List.getElem_cons_succ, List.getElem_cons_zero]
          refine wpAnyH_take (i := 7) (v := undef) rfl (by kernel_rfl) (by kernel_rfl) (by kernel_rfl) (fun _ _ _ h => h) (Or.inr ⟨by kernel_rfl, rfl⟩) (by assumption) ?_
          try simp only [Act.put, List.setIfInBounds_toArray, List.set_cons_zero, List.set_cons_succ, List.getElem_toArray, List.getElem_cons_succ, List.getElem_cons_zero]
          refine wpAnyH_take (i := 8) (v := undef) rfl (by kernel_rfl) (by kernel_rfl) (by kernel_rfl) (fun _ _ _ h => h) (Or.inr ⟨by kernel_rfl, rfl⟩) (by assumption) ?_
          try simp only [Act.put, List.setIfInBounds_toArray, List.set_cons_zero, List.set_cons_succ, List.getElem_toArray, List.getElem_cons_succ, List.getElem_cons_zero]
          refine wpAnyH_take (i := 9) (v := undef) rfl (by kernel_rfl) (by kernel_rfl) (by kernel_rfl) (fun _ _ _ h => h) (Or.inr ⟨by kernel_rfl, rfl⟩) (by assumption) ?_
          try simp only [Act.put, List.setIfInBounds_toArray, List.set_cons_zero, List.set_cons_succ, List.getElem_toArray, List.getElem_cons_succ, List.getElem_cons_zero]
          refine wpAnyH_take (i := 10) (v := undef) rfl (by kernel_rfl) (by kernel_rfl) (by kernel_rfl) (fun _ _ _ h => h) (Or.inr ⟨by kernel_rfl, rfl⟩) (by assumption) ?_
          try simp only [Act.put, List.setIfInBounds_toArray, List.set_cons_zero, List.set_cons_succ, List.getElem_toArray, List.getElem_cons_succ, List.getElem_cons_zero]
          refine wpAnyH_take (i := 11) (v := undef) rfl (by kernel_rfl) (by kernel_rfl) (by kernel_rfl) (fun _ _ _ h => h) (Or.inr ⟨by kernel_rfl, rfl⟩) (by assumption) ?_
          try simp only [Act.put, List.setIfInBounds_toArray, List.set_cons_zero, List.set_cons_succ, List.getElem_toArray, List.getElem_cons_succ, List.getElem_cons_zero]
          refine wpAnyH_take (i := 12) (v := ?_) rfl (by kernel_rfl) (by kernel_rfl) (by kernel_rfl) (fun _ _ _ h => h) (Or.inl ⟨by kernel_rfl, ?_⟩) (by assumption) ?_
          rotate_left 1
          · (intro w hSw; (try dsimp only at hSw); go_simp) <;> (try with_reducible rfl)
          try simp only [Act.put, List.setIfInBounds_toArray, List.set_cons_zero, List.set_cons_succ, List.getElem_toArray, List.getElem_cons_succ, List.getElem_cons_zero]
          refine wpAnyH_done (by kernel_rfl) ?_ _
          obtain ⟨⟨x0, x1⟩, hZ, hBc⟩ := ST.out _ (Below.drew (Below.refl _ _))
          clear ST
          generalize wc.drew = W9 at *
          obtain ⟨z0, z1, g0, g1⟩ := hZ.two
          obtain ⟨pb, pB⟩ := zero_put hZ hBc 0 0
          have PB := Lib.hid pB
          obtain ⟨t0, t1, _, _⟩ := pb.two
          clear pb pB
          go_wp2
          refine bodyPost_ret (v := .tuple #[.agg #[.int .i64 0, .int .i64 0], .int .i64 0, .int .i64 v3]) (by simp [results, Tryz.results8, go_sem, t0, t1]) rfl ?_
          exact F1.out _ PB.out
        subst hv
        clear VN
        have FP : Hid (∀ q : Int, q = (p : Int) + M → q = (tmP l 0 : Nat)) := by rintro q rfl; rw [HTP.out]; omega
        cases st with
        | false =>
          have F1 : Hid (∀ W, Below w.heap.size w W → (Ending.returned (.tuple #[.agg #[.int .i64 v1, .int .i64 v2], .int .i64 ((p : Int) + M), .int .i64 0]) = rdE R0 (tmP l 0) ∧ Below w.heap.size w W)) := by
            intro W hW
            refine ⟨?_, hW⟩
            rw [← HR0.out, if_neg (by decide), HTR2.out]; unfold rdE tmv; simp only; rw [if_pos trivial, ← FP.out _ rfl]
          clear fE FP
          refine wp_region_held_drew (S := fun W => W.cell? ⟨X, 0, none⟩ = some (.int .i64 v1) ∧ W.cell? ⟨X, 1, none⟩ = some (.int .i64 v2)) (by kernel_rfl) ?_ (fun hHeld => ?_)
          · (try dsimp only); exact (ST.out _ (Below.drew (Below.refl _ _))).1
          refine wpAnyH_take (i := 0) (v := ?_) rfl (by kernel_rfl) (by kernel_rfl) (by kernel_rfl) (fun _ _ _ h => h) (Or.inl ⟨by kernel_rfl, ?_⟩) (by assumption) ?_
          rotate_left 1
          · (intro w hSw; (try dsimp only at hSw); go_simp) <;> (try with_reducible rfl)
          try simp only [Act.put, List.setIfInBounds_toArray, List.set_cons_zero, List.set_cons_succ, List.getElem_toArray, List.getElem_cons_succ, List.getElem_cons_zero]
          refine wpAnyH_take (i := 1) (v := ?_) rfl (by kernel_rfl) (by kernel_rfl) (by kernel_rfl) (fun _ _ _ h => h) (Or.inl ⟨by kernel_rfl, ?_⟩) (by assumption) ?_
          rotate_left 1
          · (intro w hSw; (try dsimp only at hSw); go_simp) <;> (try with_reducible rfl)
          try simp only [Act.put, List.setIfInBounds_toArray, List.set_cons_zero, List.set_cons_succ, List.getElem_toArray, List.getElem_cons_succ, List.getElem_cons_zero]
          refine wpAnyH_take (i := 2) (v := ?_) rfl (by kernel_rfl) (by kernel_rfl) (by kernel_rfl) (fun _ _ _ h => h) (Or.inl ⟨by kernel_rfl, ?_⟩) (by assumption) ?_
          rotate_left 1
          · (intro w hSw; (try dsimp only at hSw); go_simp) <;> (try with_reducible rfl)
          try simp only [Act.put, List.setIfInBounds_toArray, List.set_cons_zero, List.set_cons_succ, List.getElem_toArray, List.getElem_cons_succ, List.getElem_cons_zero]
          refine wpAnyH_take (i := 3) (v := ?_) rfl (by kernel_rfl) (by kernel_rfl) (by kernel_rfl) (fun _ _ _ h => h) (Or.inl ⟨by kernel_rfl, ?_⟩) (by assumption) ?_
          rotate_left 1
          · (intro w hSw; (try dsimp only at hSw); go_simp) <;> (try with_reducible rfl)
          try simp only [Act.put, List.setIfInBounds_toArray, List.set_cons_zero, List.set_cons_succ, List.getElem_toArray, List.getElem_cons_succ, List.getElem_cons_zero]
          refine wpAnyH_take (i := 4) (v := ?_) rfl (by kernel_rfl) (by kernel_rfl) (by kernel_rfl) (fun _ _ _ h => h) (Or.inl ⟨by kernel_rfl, ?_⟩) (by assumption) ?_
          rotate_left 1
          · (intro w hSw; (try dsimp only at hSw); go_simp) <;> (try with_reducible rfl)
          try simp only [Act.put, List.setIfInBounds_toArray, List.set_cons_zero, List.set_cons_succ, List.getElem_toArray, List.getElem_cons_succ, List.getElem_cons_zero]
          refine wpAnyH_take (i := 5) (v := ?_) rfl (by kernel_rfl) (by kernel_rfl) (by kernel_rfl) (fun _ _ _ h => h) (Or.inl ⟨by kernel_rfl, ?_⟩) (by assumption) ?_
          rotate_left 1
          · (intro w hSw; (try dsimp only at hSw); go_simp) <;> (try with_reducible rfl)
          try simp only [Act.put, List.setIfInBounds_toArray, List.set_cons_zero, List.set_cons_succ, List.getElem_toArray, List.getElem_cons_succ, List.getElem_cons_zero]
          refine wpAnyH_take (i := 6) (v := undef) rfl (by kernel_rfl) (by kernel_rfl) (by kernel_rfl) (fun _ _ _ h => h) (Or.inr ⟨by kernel_rfl, rfl⟩) (by assumption) ?_
          try simp only [Act.put, List.setIfInBounds_toArray, List.set_cons_zero, List.set_cons_succ, List.getElem_toArray, List.getElem_cons_succ, List.getElem_cons_zero]
          refine wpAnyH_take (i := 7) (v := undef) rfl (by kernel_rfl) (by kernel_rfl) (by kernel_rfl) (fun _ _ _ h => h) (Or.inr ⟨by kernel_rfl, rfl⟩) (by assumption) ?_
          try simp only [Act.put, List.setIfInBounds_toArray, List.set_cons_zero, List.set_cons_succ, List.getElem_toArray, List.getElem_cons_succ, List.getElem_cons_zero]
          refine wpAnyH_take (i := 8) (v := undef) rfl (by kernel_rfl) (by kernel_rfl) (by kernel_rfl) (fun _ _ _ h => h) (Or.inr ⟨by kernel_rfl, rfl⟩) (by assumption) ?_
          try simp only [Act.put, List.setIfInBounds_toArray, List.set_cons_zero, List.set_cons_succ, List.getElem_toArray, List.getElem_cons_succ, List.getElem_cons_zero]
          refine wpAnyH_take (i := 9) (v := undef) rfl (by kernel_rfl) (by kernel_rfl) (by kernel_rfl) (fun _ _ _ h => h) (Or.inr ⟨by kernel_rfl, rfl⟩) (by assumption) ?_
          try simp only [Act.put, List.setIfInBounds_toArray, List.set_cons_zero, List.set_cons_succ, List.getElem_toArray, List.getElem_cons_succ, List.getElem_cons_zero]
          refine wpAnyH_take (i := 10) (v := undef) rfl (by kernel_rfl) (by kernel_rfl) (by kernel_rfl) (fun _ _ _ h => h) (Or.inr ⟨by kernel_rfl, rfl⟩) (by assumption) ?_
          try simp only [Act.put, List.setIfInBounds_toArray, List.set_cons_zero, List.set_cons_succ, List.getElem_toArray, List.getElem_cons_succ, List.getElem_cons_zero]
          refine wpAnyH_take (i := 11) (v := undef) rfl (by kernel_rfl) (by kernel_rfl) (by kernel_rfl) (fun _ _ _ h => h) (Or.inr ⟨by kernel_rfl, rfl⟩) (by assumption) ?_
          try simp only [Act.put, List.setIfInBounds_toArray, List.set_cons_zero, List.set_cons_succ, List.getElem_toArray, List.getElem_cons_succ, List.getElem_cons_zero]
          refine wpAnyH_take (i := 12) (v := ?_) rfl (by kernel_rfl) (by kernel_rfl) (by kernel_rfl) (fun _ _ _ h => h) (Or.inl ⟨by kernel_rfl, ?_⟩) (by assumption) ?_
          rotate_left 1
          · (intro w hSw; (try dsimp only at hSw); go_simp) <;> (try with_reducible rfl)
          try simp only [Act.put, List.setIfInBounds_toArray, List.set_cons_zero, List.set_cons_succ, List.getElem_toArray, List.getElem_cons_succ, List.getElem_cons_zero]
          refine wpAnyH_done (by kernel_rfl) ?_ _
          obtain ⟨⟨x0, x1⟩, hZ, hBc⟩ := ST.out _ (Below.drew (Below.refl _ _))
          clear ST
          generalize wc.drew = W9 at *
          obtain ⟨z0, z1, g0, g1⟩ := hZ.two
          obtain ⟨pb, pB⟩ := zero_put hZ hBc v1 v2
          have PB := Lib.hid pB
          obtain ⟨t0, t1, _, _⟩ := pb.two
          clear pb pB
          go_wp2
          refine bodyPost_ret (v := .tuple #[.agg #[.int .i64 v1, .int .i64 v2], .int .i64 ((p : Int) + M), .int .i64 0]) (by simp [results, Tryz.results8, go_sem, t0, t1]) rfl ?_
          exact F1.out _ PB.out
        | true =>
          have HK2 := Lib.hid (fun W => HK.out v2 W (by have := VI.out; unfold I64; omega))
          have FS : Hid (tmS l 0 = if v1 ≠ kindS v2 then (0, 0, 6) else (v1, v2, 0)) := by
            unfold Hid; rw [HTS.out, HTR2.out]; simp
          generalize kindS v2 = K at *
          clear HK VI
          by_cases hK : K = v1
          · have e8 : (K != v1) = false := by simpa using hK
            have F1 : Hid (∀ W, Below w.heap.size w W → (Ending.returned (.tuple #[.agg #[.int .i64 v1, .int .i64 v2], .int .i64 ((p : Int) + M), .int .i64 0]) = rdE R0 (tmP l 0) ∧ Below w.heap.size w W)) := by
              intro W hW
              refine ⟨?_, hW⟩
              rw [← HR0.out, if_pos rfl, FS.out, if_neg (fun x => x hK.symm)]; unfold rdE tmv; simp only; rw [if_pos trivial, ← FP.out _ rfl]
            clear fE FP FS hK
            refine wp_region_held_drew (S := fun W => W.cell? ⟨X, 0, none⟩ = some (.int .i64 v1) ∧ W.cell? ⟨X, 1, none⟩ = some (.int .i64 v2)) (by kernel_rfl) ?_ (fun hHeld => ?_)
            · (try dsimp only); exact (ST.out _ (Below.drew (Below.refl _ _))).1
            refine wpAnyH_take (i := 0) (v := ?_) rfl (by kernel_rfl) (by kernel_rfl) (by kernel_rfl) (fun _ _ _ h => h) (Or.inl ⟨by kernel_rfl, ?_⟩) (by assumption) ?_
            rotate_left 1
            · (intro w hSw; (try dsimp only at hSw); go_simp) <;> (try with_reducible rfl)
            try simp only [Act.put, List.setIfInBounds_toArray, List.set_cons_zero, List.set_cons_succ, List.getElem_toArray, List.getElem_cons_succ, List.getElem_cons_zero]
            refine wpAnyH_take (i := 1) (v := ?_) rfl (by kernel_rfl) (by kernel_rfl) (by kernel_rfl) (fun _ _ _ h => h) (Or.inl ⟨by kernel_rfl, ?_⟩) (by assumption) ?_
            rotate_left 1
            · (intro w hSw; (try dsimp only at hSw); go_simp) <;> (try with_reducible rfl)
            try simp only [Act.put, List.setIfInBounds_toArray, List.set_cons_zero, List.set_cons_succ, List.getElem_toArray, List.getElem_cons_succ, List.getElem_cons_zero]
            refine wpAnyH_take (i := 2) (v := ?_) rfl (by kernel_rfl) (by kernel_rfl) (by kernel_rfl) (fun _ _ _ h => h) (Or.inl ⟨by kernel_rfl, ?_⟩) (by assumption) ?_
            rotate_left 1
            · (intro w hSw; (try dsimp only at hSw); go_simp) <;> (try with_reducible rfl)
            try simp only [Act.put, List.setIfInBounds_toArray, List.set_cons_zero, List.set_cons_succ, List.getElem_toArray, List.getElem_cons_succ, List.getElem_cons_zero]
            refine wpAnyH_take (i := 3) (v := ?_) rfl (by kernel_rfl) (by kernel_rfl) (by kernel_rfl) (fun _ _ _ h => h) (Or.inl ⟨by kernel_rfl, ?_⟩) (by assumption) ?_
            rotate_left 1
            · (intro w hSw; (try dsimp only at hSw); go_simp) <;> (try with_reducible rfl)
            try simp only [Act.put, List.setIfInBounds_toArray, List.set_cons_zero, List.set_cons_succ, List.getElem_toArray, List.getElem_cons_succ, List.getElem_cons_zero]
            refine wpAnyH_take (i := 4) (v := ?_) rfl (by kernel_rfl) (by kernel_rfl) (by kernel_rfl) (fun _ _ _ h => h) (Or.inl ⟨by kernel_rfl, ?_⟩) (by assumption) ?_
            rotate_left 1
            · (intro w hSw; (try dsimp only at hSw); go_simp) <;> (try with_reducible rfl)
            try simp only [Act.put, List.setIfInBounds_toArray, List.set_cons_zero, List.set_cons_succ, List.getElem_toArray, List.getElem_cons_succ, List.getElem_cons_zero]
            refine wpAnyH_take (i := 5) (v := ?_) rfl (by kernel_rfl) (by kernel_rfl) (by kernel_rfl) (fun _ _ _ h => h) (Or.inl ⟨by kernel_rfl, ?_⟩) (by assumption) ?_
            rotate_left 1
            · (intro w hSw; (try dsimp only at hSw); go_simp) <;> (try with_reducible rfl)
            try simp only [Act.put, List.setIfInBounds_toArray, List.set_cons_zero, List.set_cons_succ, List.getElem_toArray, List.getElem_cons_succ, List.getElem_cons_zero]
            refine wpAnyH_take (i := 6) (v := ?_) rfl (by kernel_rfl) (by kernel_rfl) (by kernel_rfl) (fun _ _ _ h => h) (Or.inl ⟨by kernel_rfl, ?_⟩) (by assumption) ?_
            rotate_left 1
            · (intro w hSw; (try dsimp only at hSw); go_simp) <;> (try with_reducible rfl)
            try simp only [Act.put, List.setIfInBounds_toArray, List.set_cons_zero, List.set_cons_succ, List.getElem_toArray, List.getElem_cons_succ, List.getElem_cons_zero]
            refine wpAnyH_take (i := 7) (v := ?_) rfl (by kernel_rfl) (by kernel_rfl) (by kernel_rfl) (fun _ _ _ h => h) (Or.inl ⟨by kernel_rfl, ?_⟩) (by assumption) ?_
            rotate_left 1
            · (intro w hSw; (try dsimp only at hSw); go_simp) <;> (try with_reducible rfl)
            try simp only [Act.put, List.setIfInBounds_toArray, List.set_cons_zero, List.set_cons_succ, List.getElem_toArray, List.getElem_cons_succ, List.getElem_cons_zero]
            refine wpAnyH_take (i := 9) (v := ?_) rfl (by kernel_rfl) (by kernel_rfl) (by kernel_rfl) (fun _ _ _ h => h) (Or.inl ⟨by kernel_rfl, ?_⟩) (by assumption) ?_
            rotate_left 1
            · (intro w hSw; (try dsimp only at hSw); go_simp) <;> (try with_reducible rfl)
            try simp only [Act.put, List.setIfInBounds_toArray, List.set_cons_zero, List.set_cons_succ, List.getElem_toArray, List.getElem_cons_succ, List.getElem_cons_zero]
            refine wpAnyH_take (i := 10) (v := ?_) rfl (by kernel_rfl) (by kernel_rfl) (by kernel_rfl) (fun _ _ _ h => h) (Or.inl ⟨by kernel_rfl, ?_⟩) (by assumption) ?_
            rotate_left 1
            · (intro w hSw; (try dsimp only at hSw); go_simp) <;> (try with_reducible rfl)
            try simp only [Act.put, List.setIfInBounds_toArray, List.set_cons_zero, List.set_cons_succ, List.getElem_toArray, List.getElem_cons_succ, List.getElem_cons_zero]
            refine wpAnyH_ready (rs := [8]) (by kernel_rfl) (by simp) ?_
            refine AllReadyH.cons rfl (fun K hK => ?_) AllReadyH.nil
            go_simp
            refine (HK2.out _).mono ?_
            rintro e w8 ⟨rfl, hy8⟩
            have z8 := (Below.drew (Below.refl wc.heap.size wc)).trans hy8
            clear hy8
            go_wp2_with fail
            refine hK.out _ _ ?_ (fun hHeld => ?_)
            · (try dsimp only); exact (ST.out _ z8).1
            clear hK K
            try simp only [Act.put, List.setIfInBounds_toArray, List.set_cons_zero, List.set_cons_succ, List.getElem_toArray, List.getElem_cons_succ, List.getElem_cons_zero]
            refine wpAnyH_take (i := 11) (v := ?_) rfl (by kernel_rfl) (by kernel_rfl) (by kernel_rfl) (fun _ _ _ h => h) (Or.inl ⟨by kernel_rfl, ?_⟩) (by assumption) ?_
            rotate_left 1
            · (intro w hSw; (try dsimp only at hSw); go_simp) <;> (try with_reducible rfl)
            try simp only [Act.put, List.setIfInBounds_toArray, List.set_cons_zero, List.set_cons_succ, List.getElem_toArray, List.getElem_cons_succ, List.getElem_cons_zero]
            refine wpAnyH_take (i := 12) (v := ?_) rfl (by kernel_rfl) (by kernel_rfl) (by kernel_rfl) (fun _ _ _ h => h) (Or.inl ⟨by kernel_rfl, ?_⟩) (by assumption) ?_
            rotate_left 1
            · (intro w hSw; (try dsimp only at hSw); go_simp) <;> (try with_reducible rfl)
            try simp only [Act.put, List.setIfInBounds_toArray, List.set_cons_zero, List.set_cons_succ, List.getElem_toArray, List.getElem_cons_succ, List.getElem_cons_zero]
            refine wpAnyH_done (by kernel_rfl) ?_ _
            obtain ⟨⟨x0, x1⟩, hZ, hBc⟩ := ST.out _ z8
            clear ST z8
            obtain ⟨z0, z1, g0, g1⟩ := hZ.two
            obtain ⟨pb, pB⟩ := zero_put hZ hBc v1 v2
            have PB := Lib.hid pB
            obtain ⟨t0, t1, _, _⟩ := pb.two
            clear pb pB
            go_wp2
            refine bodyPost_ret (v := .tuple #[.agg #[.int .i64 v1, .int .i64 v2], .int .i64 ((p : Int) + M), .int .i64 0]) (by simp [results, Tryz.results8, go_sem, t0, t1]) rfl ?_
            exact F1.out _ PB.out
          · have e8 : (K != v1) = true := by simpa using hK
            have F1 : Hid (∀ W, Below w.heap.size w W → (Ending.returned (.tuple #[.agg #[.int .i64 0, .int .i64 0], .int .i64 0, .int .i64 6]) = rdE R0 (tmP l 0) ∧ Below w.heap.size w W)) := by
              intro W hW
              refine ⟨?_, hW⟩
              rw [← HR0.out, if_pos rfl, FS.out, if_pos (fun x => hK x.symm)]; unfold rdE tmv; simp only; rw [if_neg (by decide)]
            clear fE FP FS hK
            refine wp_region_held_drew (S := fun W => W.cell? ⟨X, 0, none⟩ = some (.int .i64 v1) ∧ W.cell? ⟨X, 1, none⟩ = some (.int .i64 v2)) (by kernel_rfl) ?_ (fun hHeld => ?_)
            · (try dsimp only); exact (ST.out _ (Below.drew (Below.refl _ _))).1
            refine wpAnyH_take (i := 0) (v := ?_) rfl (by kernel_rfl) (by kernel_rfl) (by kernel_rfl) (fun _ _ _ h => h) (Or.inl ⟨by kernel_rfl, ?_⟩) (by assumption) ?_
            rotate_left 1
            · (intro w hSw; (try dsimp only at hSw); go_simp) <;> (try with_reducible rfl)
            try simp only [Act.put, List.setIfInBounds_toArray, List.set_cons_zero, List.set_cons_succ, List.getElem_toArray, List.getElem_cons_succ, List.getElem_cons_zero]
            refine wpAnyH_take (i := 1) (v := ?_) rfl (by kernel_rfl) (by kernel_rfl) (by kernel_rfl) (fun _ _ _ h => h) (Or.inl ⟨by kernel_rfl, ?_⟩) (by assumption) ?_
            rotate_left 1
            · (intro w hSw; (try dsimp only at hSw); go_simp) <;> (try with_reducible rfl)
            try simp only [Act.put, List.setIfInBounds_toArray, List.set_cons_zero, List.set_cons_succ, List.getElem_toArray, List.getElem_cons_succ, List.getElem_cons_zero]
            refine wpAnyH_take (i := 2) (v := ?_) rfl (by kernel_rfl) (by kernel_rfl) (by kernel_rfl) (fun _ _ _ h => h) (Or.inl ⟨by kernel_rfl, ?_⟩) (by assumption) ?_
            rotate_left 1
            · (intro w hSw; (try dsimp only at hSw); go_simp) <;> (try with_reducible rfl)
            try simp only [Act.put, List.setIfInBounds_toArray, List.set_cons_zero, List.set_cons_succ, List.getElem_toArray, List.getElem_cons_succ, List.getElem_cons_zero]
            refine wpAnyH_take (i := 3) (v := ?_) rfl (by kernel_rfl) (by kernel_rfl) (by kernel_rfl) (fun _ _ _ h => h) (Or.inl ⟨by kernel_rfl, ?_⟩) (by assumption) ?_
            rotate_left 1
            · (intro w hSw; (try dsimp only at hSw); go_simp) <;> (try with_reducible rfl)
            try simp only [Act.put, List.setIfInBounds_toArray, List.set_cons_zero, List.set_cons_succ, List.getElem_toArray, List.getElem_cons_succ, List.getElem_cons_zero]
            refine wpAnyH_take (i := 4) (v := ?_) rfl (by kernel_rfl) (by kernel_rfl) (by kernel_rfl) (fun _ _ _ h => h) (Or.inl ⟨by kernel_rfl, ?_⟩) (by assumption) ?_
            rotate_left 1
            · (intro w hSw; (try dsimp only at hSw); go_simp) <;> (try with_reducible rfl)
            try simp only [Act.put, List.setIfInBounds_toArray, List.set_cons_zero, List.set_cons_succ, List.getElem_toArray, List.getElem_cons_succ, List.getElem_cons_zero]
            refine wpAnyH_take (i := 5) (v := ?_) rfl (by kernel_rfl) (by kernel_rfl) (by kernel_rfl) (fun _ _ _ h => h) (Or.inl ⟨by kernel_rfl, ?_⟩) (by assumption) ?_
            rotate_left 1
            · (intro w hSw; (try dsimp only at hSw); go_simp) <;> (try with_reducible rfl)
            try simp only [Act.put, List.setIfInBounds_toArray, List.set_cons_zero, List.set_cons_succ, List.getElem_toArray, List.getElem_cons_succ, List.getElem_cons_zero]
            refine wpAnyH_take (i := 6) (v := ?_) rfl (by kernel_rfl) (by kernel_rfl) (by kernel_rfl) (fun _ _ _ h => h) (Or.inl ⟨by kernel_rfl, ?_⟩) (by assumption) ?_
            rotate_left 1
            · (intro w hSw; (try dsimp only at hSw); go_simp) <;> (try with_reducible rfl)
            try simp only [Act.put, List.setIfInBounds_toArray, List.set_cons_zero, List.set_cons_succ, List.getElem_toArray, List.getElem_cons_succ, List.getElem_cons_zero]
            refine wpAnyH_take (i := 7) (v := ?_) rfl (by kernel_rfl) (by kernel_rfl) (by kernel_rfl) (fun _ _ _ h => h) (Or.inl ⟨by kernel_rfl, ?_⟩) (by assumption) ?_
            rotate_left 1
            · (intro w hSw; (try dsimp only at hSw); go_simp) <;> (try with_reducible rfl)
            try simp only [Act.put, List.setIfInBounds_toArray, List.set_cons_zero, List.set_cons_succ, List.getElem_toArray, List.getElem_cons_succ, List.getElem_cons_zero]
            refine wpAnyH_take (i := 9) (v := ?_) rfl (by kernel_rfl) (by kernel_rfl) (by kernel_rfl) (fun _ _ _ h => h) (Or.inl ⟨by kernel_rfl, ?_⟩) (by assumption) ?_
            rotate_left 1
            · (intro w hSw; (try dsimp only at hSw); go_simp) <;> (try with_reducible rfl)
            try simp only [Act.put, List.setIfInBounds_toArray, List.set_cons_zero, List.set_cons_succ, List.getElem_toArray, List.getElem_cons_succ, List.getElem_cons_zero]
            refine wpAnyH_take (i := 10) (v := ?_) rfl (by kernel_rfl) (by kernel_rfl) (by kernel_rfl) (fun _ _ _ h => h) (Or.inl ⟨by kernel_rfl, ?_⟩) (by assumption) ?_
            rotate_left 1
            · (intro w hSw; (try dsimp only at hSw); go_simp) <;> (try with_reducible rfl)
            try simp only [Act.put, List.setIfInBounds_toArray, List.set_cons_zero, List.set_cons_succ, List.getElem_toArray, List.getElem_cons_succ, List.getElem_cons_zero]
            refine wpAnyH_ready (rs := [8]) (by kernel_rfl) (by simp) ?_
            refine AllReadyH.cons rfl (fun K hK => ?_) AllReadyH.nil
            go_simp
            refine (HK2.out _).mono ?_
            rintro e w8 ⟨rfl, hy8⟩
            have z8 := (Below.drew (Below.refl wc.heap.size wc)).trans hy8
            clear hy8
            go_wp2_with fail
            refine hK.out _ _ ?_ (fun hHeld => ?_)
            · (try dsimp only); exact (ST.out _ z8).1
            clear hK K
            try simp only [Act.put, List.setIfInBounds_toArray, List.set_cons_zero, List.set_cons_succ, List.getElem_toArray, List.getElem_cons_succ, List.getElem_cons_zero]
            refine wpAnyH_take (i := 11) (v := ?_) rfl (by kernel_rfl) (by kernel_rfl) (by kernel_rfl) (fun _ _ _ h => h) (Or.inl ⟨by kernel_rfl, ?_⟩) (by assumption) ?_
            rotate_left 1
            · (intro w hSw; (try dsimp only at hSw); go_simp) <;> (try with_reducible rfl)
            try simp only [Act.put, List.setIfInBounds_toArray, List.set_cons_zero, List.set_cons_succ, List.getElem_toArray, List.getElem_cons_succ, List.getElem_cons_zero]
            refine wpAnyH_take (i := 12) (v := ?_) rfl (by kernel_rfl) (by kernel_rfl) (by kernel_rfl) (fun _ _ _ h => h) (Or.inl ⟨by kernel_rfl, ?_⟩) (by assumption) ?_
            rotate_left 1
            · (intro w hSw; (try dsimp only at hSw); go_simp) <;> (try with_reducible rfl)
            try simp only [Act.put, List.setIfInBounds_toArray, List.set_cons_zero, List.set_cons_succ, List.getElem_toArray, List.getElem_cons_succ, List.getElem_cons_zero]
            refine wpAnyH_done (by kernel_rfl) ?_ _
            obtain ⟨⟨x0, x1⟩, hZ, hBc⟩ := ST.out _ z8
            clear ST z8
            obtain ⟨z0, z1, g0, g1⟩ := hZ.two
            obtain ⟨pb, pB⟩ := zero_put hZ hBc 0 0
            have PB := Lib.hid pB
            obtain ⟨t0, t1, _, _⟩ := pb.two
            clear pb pB
            go_wp2
            refine bodyPost_ret (v := .tuple #[.agg #[.int .i64 0, .int .i64 0], .int .i64 0, .int .i64 6]) (by simp [results, Tryz.results8, go_sem, t0, t1]) rfl ?_
            exact F1.out _ PB.out

set_option maxHeartbeats 6400000 in
theorem rfReadGeneral (A : Option Addr) (n c : Nat) (l : List UInt8) (w : World) (h : Bs w A n l) (hc : n ≤ c) (hn : n ≤ 1000) :
    Calls Tryz.prog 9 #[.slice A n c, .int .i64 0] w fun e w' => e = .returned (.tuple #[.int .i64 (tmG l 0).2.1, .int .i64 (if (tmG l 0).2.2 = 0 then ((rOpen l 0 (tgU 24)).2.1 : Int) else 0), .int .i64 (tmG l 0).2.2]) ∧ Below w.heap.size w w' := by
  have HO := Lib.hid (fun W => refOf 24 W)
  have HQ := Lib.hid (fun W (hW : Bs W A n l) => refOpen A n c 0 0 l (tgU 24) W hW (by omega) hc (by omega) rfl)
  have HP := Lib.hid (fun A m c r W (hW : Bs W A m r) hm => rfParse 24 A m c r W hW hm)
  have hTG : tmG l 0 = if (rOpen l 0 (tgU 24)).2.2 ≠ 0 then (0, 0, (rOpen l 0 (tgU 24)).2.2) else prsV 24 (rOpen l 0 (tgU 24)).1 := rfl
  have hlen := rOpen_len l 0 (tgU 24)
  have hl := h.len
  have HS := Lib.hid h
  unfold OpenV at HQ
  generalize rOpen l 0 (tgU 24) = T at *
  obtain ⟨ct, p, E⟩ := T
  simp only at hTG hlen ⊢
  unfold tgU Tg.v at HQ
  unfold Tg.v at HO
  generalize tmG l 0 = R at *
  obtain ⟨Q, hQ⟩ : ∃ Q : Int, (if R.2.2 = 0 then (p : Int) else 0) = Q := ⟨_, rfl⟩
  rw [hQ]
  have HQQ := Lib.hid hQ
  clear h hQ
  go_enter Tryz.func9, Tryz.ntmps9
  go_wp2_with fail
  refine (HO.out _).mono ?_
  rintro e w1 ⟨rfl, hB1⟩
  have HS1 := Lib.hid (HS.out.below hB1)
  have HB1 := Lib.hid hB1
  clear hB1 HS HO
  go_wp2_with fail
  refine (HQ.out _ HS1.out).mono ?_
  rintro e w2 ⟨A2, n2, c2, rfl, s2, k2, hB2⟩
  have HB2 := Lib.hid (HB1.out.trans (hB2.mono HB1.out.size))
  have S2 := Lib.hid s2
  have hn2 : n2 ≤ 1099511627776 := by have := s2.len; (try simp only at this); omega
  clear hB2 s2 HB1 HS1 HQ
  by_cases hE : E = 0
  rotate_left
  · have e1 : (E != 0) = true := by simpa using hE
    rw [if_pos hE] at hTG
    have FR : Hid (R.2.1 = 0 ∧ (if R.2.2 = 0 then (p : Int) else 0) = 0 ∧ R.2.2 = E) := by rw [hTG]; exact ⟨rfl, if_neg hE, rfl⟩
    clear hTG hE
    go_wp2
    go_ret3
    exact ⟨by rw [← HQQ.out, FR.out.1, FR.out.2.1, FR.out.2.2]; rfl, HB2.out⟩
  rw [if_neg (fun x => x hE)] at hTG
  subst hE
  have VN := prsV_no 24 ct
  have HPr := Lib.hid (fun W (hW : Bs W A2 n2 ct) => HP.out A2 n2 c2 ct W hW hn2)
  generalize prsV 24 ct = V at *
  obtain ⟨v1, v2, v3⟩ := V
  unfold prsE tmv at HPr
  simp only at VN
  have HTG := Lib.hid hTG
  have HVN := Lib.hid VN
  clear hTG VN HP
  go_wp2_with fail
  refine (HPr.out _ S2.out).mono ?_
  rintro e w3 ⟨rfl, hB3⟩
  have hB4 := hB3.alloc hB3.size (.cells #[.int .i64 v1, .int .i64 v2] 32)
  have HB4 := Lib.hid (HB2.out.trans (hB4.mono HB2.out.size))
  have X4 := Lib.hid (Blk.two_new w3 (.int .i64 v1) (.int .i64 v2) 32)
  clear hB3 hB4 HB2 S2 HPr
  go_upto_region 5 with (fail)
  generalize w3.alloc (.cells #[.int .i64 v1, .int .i64 v2] 32) = W4 at *
  generalize w3.heap.size = D at *
  obtain ⟨x0, x1, _, _⟩ := X4.out.two
  by_cases hv : v3 = 0
  · have e1 : (v3 != 0) = false := by simpa using hv
    have FR : Hid (R.2.1 = v2 ∧ (if R.2.2 = 0 then (p : Int) else 0) = p ∧ R.2.2 = 0) := by rw [HTG.out]; exact ⟨rfl, if_pos hv, hv⟩
    clear hv
    go_wp2
    go_ret3
    exact ⟨by rw [← HQQ.out, FR.out.1, FR.out.2.1, FR.out.2.2]; rfl, HB4.out⟩
  · have e1 : (v3 != 0) = true := by simpa using hv
    have FR : Hid (R.2.1 = 0 ∧ (if R.2.2 = 0 then (p : Int) else 0) = 0 ∧ R.2.2 = v3) := by
      rw [HTG.out]
      have := HVN.out hv
      refine ⟨?_, if_neg hv, rfl⟩
      exact congrArg (fun x => x.2.1) this
    clear hv
    go_wp2
    go_ret3
    exact ⟨by rw [← HQQ.out, FR.out.1, FR.out.2.1, FR.out.2.2]; rfl, HB4.out⟩
end Go.Proofs.YtepbjjhidemaiaaGreat
