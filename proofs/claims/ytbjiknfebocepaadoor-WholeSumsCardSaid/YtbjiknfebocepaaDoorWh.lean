/-
  The contracts of the project's whole: Contents.
-/
import Derived.Test.YtbjiknfebocepaaDoorWg
import Derived.Laws.IdiomCopy
import Derived.Lib.LazyBuf
namespace Go.Proofs.YtbjiknfebocepaaDoor
open Go.RowKit Go.Joins
set_option linter.unusedVariables false
set_option linter.unusedSimpArgs false
set_option maxRecDepth 4000

theorem cutK (g K n : Nat) (hn : n ≤ K) : ∃ A', (∀ (W : World), (Instr.slice 22 (.slice (some ⟨g, 0, none⟩) K K) (some (.int .i64 ((K : Int) - (n : Int)))) none none).run Tryd.prog W = .ok (.slice A' n n) W) ∧ (0 < n → A' = some ⟨g, K - n, none⟩) := by
  by_cases h : n = 0
  · subst h
    refine ⟨some ⟨g, 0, none⟩, fun W => ?_, fun h => absurd h (by omega)⟩
    rw [show ((K : Int) - ((0 : Nat) : Int)) = (K : Int) by simp]
    go_simp
    try simp [sliced]
  · refine ⟨some ⟨g, K - n, none⟩, fun W => ?_, fun _ => rfl⟩
    have h1 : ¬ K = K - n := by omega
    have h2 : ¬ K - n = K := by omega
    have h3 : K - (K - n) = n := by omega
    rw [show ((K : Int) - (n : Int)) = ((K - n : Nat) : Int) by omega]
    go_simp
    try (simp [sliced, h1, h2, h3, h, Nat.sub_eq_zero_iff_le, Addr.add_none] <;> omega)
theorem drew_setCells' (b : Nat) : ∀ (vs : List Value) (o : Nat) (w : World), (w.setCells b o vs).drew = w.drew.setCells b o vs
  | [], _, _ => rfl
  | v :: r, o, w => by rw [World.setCells, World.setCells, drew_setCells' b r]; rfl
theorem blk_setCells {g : Nat} {t : TypeId} : ∀ (vs : List Value) (o : Nat) (cs : List Value) (w : World), Blk w g t cs → o + vs.length = cs.length → Blk (w.setCells g o vs) g t (cs.take o ++ vs)
  | [], o, cs, w, h, hl => by
    rw [List.append_nil, List.take_of_length_le (by simp at hl; omega)]; exact h
  | v :: r, o, cs, w, h, hl => by
    have := blk_setCells r (o + 1) (cs.set o v) (w.setCell ⟨g, o, none⟩ v) (h.set o v) (by simp at hl ⊢; omega)
    have e : (cs.set o v).take (o + 1) ++ r = cs.take o ++ v :: r := by
      have ho : o < cs.length := by simp at hl; omega
      rw [List.take_succ_eq_append_getElem (by simpa using ho)]
      simp [List.take_set]
      exact List.set_eq_of_length_le (by simp; omega)
    rw [e] at this
    exact this
theorem only_setCells {g : Nat} {a : World} : ∀ (vs : List Value) (o : Nat) (w : World), Only g a w → Only g a (w.setCells g o vs)
  | [], _, _, h => h
  | v :: r, o, w, h => only_setCells r (o + 1) _ (h.setCell rfl v)

/-- copy(out[K-n:], s) into a block of K zeros. -/
theorem padCopy (g K n c : Nat) (A : Option Addr) (s : List UInt8) (W : World) (hn : n ≤ K) (h : Blk W g 5 ((List.replicate K (0 : UInt8)).map byteV)) (hs : Bs W A n s) :
    ∃ A' W', (∀ (X : World), (Instr.slice 22 (.slice (some ⟨g, 0, none⟩) K K) (some (.int .i64 ((K : Int) - (n : Int)))) none none).run Tryd.prog X = .ok (.slice A' n n) X) ∧
      (∀ ty, (Builtin.copy_ #[22, 22] ty #[.slice A' n n, .slice A n c]).run Tryd.prog W.drew = .ok (.int .i64 (n : Int)) W'.drew) ∧
      Blk W' g 5 ((List.replicate (K - n) (0 : UInt8) ++ s).map byteV) ∧ Only g W W' := by
  obtain ⟨A', hcut, hA'⟩ := cutK g K n hn
  have hsz : (Tryd.prog.info? 5).map (·.size) = some 1 := by kernel_rfl
  by_cases h0 : n = 0
  · subst h0
    refine ⟨A', W, hcut, fun ty => run_copy_none (P := Tryd.prog) W.drew 22 22 ty 5 A' A 0 0 0 c Tryd.underlying22 hsz rfl, ?_, Only.refl _ _⟩
    have : s = [] := List.eq_nil_of_length_eq_zero hs.len
    subst this
    simpa using h
  · have hA := hA' (by omega)
    subst hA
    have hl := hs.len
    obtain ⟨b, o, rfl, _⟩ := hs.at_ (k := 0) (by omega)
    have hcell : ∀ j, j < K → W.cell? ⟨g, j, none⟩ = some (byteV 0) := fun j hj => by rw [h.cell]; simp [hj]
    have hrun := fun ty => run_copy_cells (P := Tryd.prog) W.drew 22 22 ty 5 g (K - n) n n ⟨b, o, none⟩ n c (s.map byteV) Tryd.underlying22 hsz (by simp [hl])
      (fun j v hv => by
        rw [List.getElem?_map] at hv
        obtain ⟨x, hx, rfl⟩ := Option.map_eq_some_iff.1 hv
        obtain ⟨b', o', e, hc⟩ := hs.2 j x hx
        cases e
        rw [Addr.add_none]; exact hc)
      (fun j hj => by
        simp [hl] at hj
        show (W.cell? ⟨g, K - n + j, none⟩).isSome = true
        rw [hcell _ (by omega)]; rfl)
      (fun j hj => h.free _)
      (fun v hv => by obtain ⟨x, _, rfl⟩ := List.mem_map.1 hv; rfl)
    refine ⟨_, W.setCells g (K - n) (s.map byteV), hcut, fun ty => ?_, ?_, only_setCells _ _ _ (Only.refl _ _)⟩
    · rw [hrun ty, ← drew_setCells']
      simp [goInt, hl]
    · have := blk_setCells (s.map byteV) (K - n) _ W h (by simp [hl]; omega)
      rw [List.map_append, List.map_replicate]
      rw [List.map_replicate, List.take_replicate, Nat.min_eq_left (by omega)] at this
      exact this

/-- The bytes of a number whose size or whose complement's size is s. -/
def contB (below : Bool) (s : List UInt8) : List UInt8 :=
  if below then (List.replicate (bitsL s / 8 + 1 - s.length) 0 ++ s).map (fun x => 255 - x) else List.replicate (bitsL s / 8 + 1 - s.length) 0 ++ s
def ContO (w : World) (below : Bool) (s : List UInt8) (e : Ending) (w' : World) : Prop :=
  (64 < bitsL s / 8 + 1 → e = .returned (.tuple #[.slice none 0 0, .int .i64 2])) ∧
  (bitsL s / 8 + 1 ≤ 64 → ∃ A c, e = .returned (.tuple #[.slice A (bitsL s / 8 + 1) c, .int .i64 0]) ∧ Bs w' A (bitsL s / 8 + 1) (contB below s) ∧ bitsL s / 8 + 1 ≤ c) ∧ Below w.heap.size w w'
theorem bitLen_pos (y : UInt8) (h : y.toNat ≠ 0) : 1 ≤ Lib.bitLen y.toNat := by
  have h' : ∀ n : Fin 256, n.val ≠ 0 → 1 ≤ Lib.bitLen n.val := by decide +kernel
  exact h' ⟨y.toNat, UInt8.toNat_lt y⟩ h
theorem bits_len {s : List UInt8} (h : Nz s) : s.length ≤ bitsL s / 8 + 1 := by
  cases s with
  | nil => simp
  | cons y r =>
    have := bitLen_pos y h.head
    simp only [bitsL, List.length_cons]
    omega
theorem bits_le (s : List UInt8) : bitsL s ≤ 8 * s.length := by
  cases s with
  | nil => simp [bitsL]
  | cons y r =>
    have := bitLen_le8' y
    simp only [bitsL, List.length_cons]
    omega
theorem contB_len {b : Bool} {s : List UInt8} (h : Nz s) : (contB b s).length = bitsL s / 8 + 1 := by
  have := bits_len h
  unfold contB; split <;> simp <;> omega

/-- What Contents hands back. -/
def ContP (x : Nm) (w : World) (e : Ending) (w' : World) : Prop := ∃ s : Nm, s.ok ∧ s.z = (if x.z < 0 then -1 - x.z else x.z) ∧ s.size.length ≤ x.size.length + 9 ∧ ContO w (decide (x.z < 0)) s.size e w'

set_option maxHeartbeats 6400000 in
theorem whContents (x : Nm) (u : Value) (w : World) (hx : NumV w x u) (hn : x.size.length ≤ 700000) :
    Calls Tryd.prog 10 #[u] w (ContP x w) := by
  obtain ⟨i0, hi, hz0, hz1, hz2⟩ := info_parts u8_info
  obtain ⟨A, c, rfl, hb, hc⟩ := hx
  obtain ⟨xb, a⟩ := x
  simp only at hb hc hn ⊢
  generalize hma : a.length = na at *
  have HA := Lib.hid hma; clear hma
  have hX : NumV w ⟨xb, a⟩ (.agg #[.bool xb, .slice A na c]) := NumV.mk' xb hb hc
  have hT := One.start w 30 (.bool xb) (.slice A na c)
  go_enter Tryd.func10, Tryd.ntmps10
  go_wp2_with fail
  generalize (w.alloc (Obj.cells #[Value.bool xb, Value.slice A na c] 30)) = W0 at *
  generalize hR : w.heap.size = R at *
  have HR := Lib.hid hR; clear hR
  refine (whPlain ⟨xb, a⟩ _ W0 (hX.frame hT.2.1) (by have := HA.out; show a.length ≤ _; omega)).mono ?_
  rintro e w1 ⟨v1, rfl, ⟨A1, c1, rfl, hs1, hc1⟩, hb1⟩
  obtain ⟨x0, hx0⟩ : ∃ x0, Nm.mk0 ⟨xb, a⟩ = x0 := ⟨_, rfl⟩
  have hok1 : x0.ok := by rw [← hx0]; exact Nm.mk0_ok _
  have hz1' : x0.z = Nm.z ⟨xb, a⟩ := by rw [← hx0]; exact Nm.mk0_z _
  have hl1 : x0.size.length ≤ na := by rw [← hx0, ← HA.out]; exact Nm.mk0_len _
  rw [hx0] at hs1 hc1 ⊢
  have HZ := Lib.hid hz1'; clear hz1'
  have hT1 := hT.frame hb1
  clear hx0 hb1 hT hX hb hc
  have hs2 := hs1.set2 hT1.1 (.bool x0.below) (.slice A1 x0.size.length c1)
  have hT2 := hT1.put (a0 := .bool x0.below) (a1 := .slice A1 x0.size.length c1) rfl
  have c0 := hT1.1.cell 0
  have c1' := hT1.1.cell 1
  have f0 := hT1.1.free 0
  have f1 := hT1.1.free 1
  simp at c0 c1'
  go_upto_region 2 with (fail)
  generalize ((w1.setCell ⟨R, 0, none⟩ (.bool x0.below)).setCell ⟨R, 1, none⟩ (.slice A1 x0.size.length c1)) = W2 at *
  clear c0 c1' f0 f1 hT1 hs1
  have d0 := hT2.1.cell 0
  have d1 := hT2.1.cell 1
  have g0 := hT2.1.free 0
  have g1 := hT2.1.free 1
  simp at d0 d1
  cases hbl : x0.below with
  | false =>
    rw [hbl] at hT2 d0
    have hneg : ¬ x0.z < 0 := fun h => by have := (Nm.neg_iff hok1).2 h; rw [hbl] at this; cases this
    have hdec : decide (x0.z < 0) = false := decide_eq_false hneg
    have HD : Hid (decide (Nm.z ⟨xb, a⟩ < 0) = false) := by unfold Hid; rw [← HZ.out]; exact hdec
    have HS : Hid (x0.z = if Nm.z ⟨xb, a⟩ < 0 then -1 - Nm.z ⟨xb, a⟩ else Nm.z ⟨xb, a⟩) := by unfold Hid; rw [← HZ.out, if_neg hneg]
    clear HZ
    have hsv : NumV W2 x0 (.agg #[.bool false, .slice A1 x0.size.length c1]) := ⟨A1, c1, by rw [hbl], hs2, hc1⟩
    have hls : x0.size.length ≤ na + 9 := by omega
    clear hdec hneg
    generalize x0 = s at *
    generalize hAA : A1 = As at *
    generalize hCC : c1 = cs at *
    clear hAA hCC
    have hds : dz s.size = s.size := hok1.1
    go_wp2_with fail
    refine (whBits s _ W2 hsv (by omega)).mono ?_
    rintro e w4 ⟨rfl, hb4⟩
    rw [hds]
    have hT4 := hT2.frame hb4
    have hs4 := hs2.below hb4
    have e0 := hT4.1.cell 0
    have e1 := hT4.1.cell 1
    have e2 := hT4.1.free 0
    have e3 := hT4.1.free 1
    simp at e0 e1
    have hBl := bits_len hok1.1
    have hBu := bits_le s.size
    have hB4 := hT4.2.1
    have hlt4 := hT4.1.lt
    clear hT2 hb4 d0 d1 g0 g1 hs2 hsv hds
    generalize hnn : s.size.length = n at *
    have HN := Lib.hid hnn; clear hnn
    generalize hBB : bitsL s.size = B at *
    obtain ⟨K, hK⟩ : ∃ K, B / 8 + 1 = K := ⟨_, rfl⟩
    have HK : Hid (bitsL s.size / 8 + 1 = K) := by unfold Hid; rw [hBB, hK]
    have tk : (B : Int) / 8 + 1 = (K : Int) := by omega
    have hnK : n ≤ K := by omega
    clear hBB
    have hmk : ∀ W : World, (Instr.makeSlice 22 (.int .i64 (K : Int)) (.int .i64 (K : Int))).run Tryd.prog W = .ok (.slice (some ⟨W.heap.size, 0, none⟩) K K) (W.alloc (.cells ((List.replicate K (0 : UInt8)).map byteV).toArray 5)) := fun W => by
      have := run_makeN (P := Tryd.prog) 22 5 i0 Tryd.underlying22 hi hz0 hz1 hz2 (K : Int) (by omega) (by omega) W
      rw [zeroB_list] at this
      simpa using this
    have hBmax : B ≤ 8000000 := by omega
    have hBint : (B : Int) ≤ 8000000 := by omega
    clear hBl hBu hK
    by_cases hq : 64 < K
    · have q1 : (64 : Int) < (K : Int) := by omega
      go_wp2
      go_ret2
      exact ⟨s, hok1, HS.out, by rw [HA.out, HN.out]; exact hls, fun _ => rfl, fun h => absurd h (by rw [HK.out]; omega), hB4⟩
    · have q1 : ¬ (64 : Int) < (K : Int) := by omega
      have q2 : (K : Int) ≤ 64 := by omega
      have hk5 : Blk (w4.alloc (Obj.cells (Array.replicate K (byteV 0)) 5)) w4.heap.size 5 ((List.replicate K (0 : UInt8)).map byteV) := by
        have := Blk.new w4 ((List.replicate K (0 : UInt8)).map byteV) 5
        simpa using this
      have hB5 := below_alloc1 w4 (Obj.cells (Array.replicate K (byteV 0)) 5)
      go_upto_region 9 with (fail)
      generalize (w4.alloc (Obj.cells (Array.replicate K (byteV 0)) 5)) = W5 at *
      have hB5' : Below w.heap.size w W5 := hB4.trans (Below.mono hB5 hB4.size)
      have hRg := hB4.size
      have hT5 := hT4.frame hB5
      have hs5 := hs4.below hB5
      clear hmk hT4 hs4 hB5 hB4 e0 e1 e2 e3 hlt4
      generalize w4.heap.size = g at *
      obtain ⟨A', W6, hcut, hcp, hk6, hO6⟩ := padCopy g K n cs As s.size W5 hnK hk5 hs5
      have e0 := hT5.1.cell 0
      have e1 := hT5.1.cell 1
      simp at e0 e1
      have hB6 : Below w.heap.size w W6 := Only.below hO6 hB5' hRg hB5'.size
      have sw : IntKind.i64.wrap ((K : Int) - (n : Int)) = (K : Int) - (n : Int) := IntWalk.i64_in _ (by omega)
      clear hk5 hO6 hs5 hT5 hB5'
      have hlen : (List.replicate (K - n) (0 : UInt8) ++ s.size).length = K := by have := HN.out; simp; omega
      have HC : Hid (contB false s.size = List.replicate (K - n) (0 : UInt8) ++ s.size) := by unfold Hid contB; rw [HK.out, HN.out]; rfl
      generalize hpp : List.replicate (K - n) (0 : UInt8) ++ s.size = pp at *
      clear hpp
      have hbs6 := hk6.bs
      rw [hlen] at hbs6
      have hKK : K ≤ K := Nat.le_refl _
      go_region_with (fail)
      all_goals
        go_wp2
        go_ret2
        exact ⟨s, hok1, HS.out, by rw [HA.out, HN.out]; exact hls, fun h => absurd h (by rw [HK.out]; omega), fun _ => ⟨some ⟨g, 0, none⟩, K, by rw [HK.out]; rfl, by rw [HD.out, HK.out, HC.out]; exact hbs6, by rw [HK.out]; exact Nat.le_refl _⟩, hB6.drew⟩
  | true =>
    rw [hbl] at hT2 d0
    have hneg : x0.z < 0 := (Nm.neg_iff hok1).1 hbl
    have hdec : decide (x0.z < 0) = true := decide_eq_true hneg
    have HD : Hid (decide (Nm.z ⟨xb, a⟩ < 0) = true) := by unfold Hid; rw [← HZ.out]; exact hdec
    have HS : Hid (-1 - x0.z = if Nm.z ⟨xb, a⟩ < 0 then -1 - Nm.z ⟨xb, a⟩ else Nm.z ⟨xb, a⟩) := by unfold Hid; rw [← HZ.out, if_pos hneg]
    clear HZ hdec
    have hsv : NumV W2 x0 (.agg #[.bool true, .slice A1 x0.size.length c1]) := ⟨A1, c1, by rw [hbl], hs2, hc1⟩
    go_wp2_with fail
    refine (whOpposite x0 _ W2 hsv (by omega)).mono ?_
    rintro e w3 ⟨s, v3, rfl, ⟨As, cs, rfl, hs3, hc1'⟩, hok1', hz3, hl3, hb3⟩
    clear hok1 hc1
    have hok1 := hok1'
    have hc1 := hc1'
    clear hok1' hc1'
    have hbs : s.below = false := by
      cases h : s.below with
      | false => rfl
      | true => have := (Nm.neg_iff hok1).1 h; omega
    have HS' : Hid (s.z = if Nm.z ⟨xb, a⟩ < 0 then -1 - Nm.z ⟨xb, a⟩ else Nm.z ⟨xb, a⟩) := by unfold Hid; rw [hz3]; exact HS.out
    clear HS
    have HS := HS'
    clear HS' hz3 hneg
    have hT3 := hT2.frame hb3
    have hs3' := hs3.set2 hT3.1 (.bool false) (.slice As s.size.length cs)
    have hT3' := hT3.put (a0 := .bool false) (a1 := .slice As s.size.length cs) rfl
    have c0 := hT3.1.cell 0
    have c1' := hT3.1.cell 1
    have f0 := hT3.1.free 0
    have f1 := hT3.1.free 1
    simp at c0 c1'
    have hls : s.size.length ≤ na + 9 := by omega
    rw [hbs]
    clear hT2 hsv hs2 d0 d1 g0 g1 hl3 hs3 hb3
    go_upto_region 5 with (fail)
    generalize ((w3.setCell ⟨R, 0, none⟩ (.bool false)).setCell ⟨R, 1, none⟩ (.slice As s.size.length cs)) = W3 at *
    clear c0 c1' f0 f1 hT3
    have hT2 := hT3'
    have hs2 := hs3'
    have hsv : NumV W3 s (.agg #[.bool false, .slice As s.size.length cs]) := ⟨As, cs, by rw [hbs], hs2, hc1⟩
    have d0 := hT2.1.cell 0
    have d1 := hT2.1.cell 1
    have g0 := hT2.1.free 0
    have g1 := hT2.1.free 1
    simp at d0 d1
    clear hT3' hs3'
    have hds : dz s.size = s.size := hok1.1
    go_wp2_with fail
    refine (whBits s _ W3 hsv (by omega)).mono ?_
    rintro e w4 ⟨rfl, hb4⟩
    rw [hds]
    have hT4 := hT2.frame hb4
    have hs4 := hs2.below hb4
    have e0 := hT4.1.cell 0
    have e1 := hT4.1.cell 1
    have e2 := hT4.1.free 0
    have e3 := hT4.1.free 1
    simp at e0 e1
    have hBl := bits_len hok1.1
    have hBu := bits_le s.size
    have hB4 := hT4.2.1
    have hlt4 := hT4.1.lt
    clear hT2 hb4 d0 d1 g0 g1 hs2 hsv hds
    generalize hnn : s.size.length = n at *
    have HN := Lib.hid hnn; clear hnn
    generalize hBB : bitsL s.size = B at *
    obtain ⟨K, hK⟩ : ∃ K, B / 8 + 1 = K := ⟨_, rfl⟩
    have HK : Hid (bitsL s.size / 8 + 1 = K) := by unfold Hid; rw [hBB, hK]
    have tk : (B : Int) / 8 + 1 = (K : Int) := by omega
    have hnK : n ≤ K := by omega
    clear hBB
    have hmk : ∀ W : World, (Instr.makeSlice 22 (.int .i64 (K : Int)) (.int .i64 (K : Int))).run Tryd.prog W = .ok (.slice (some ⟨W.heap.size, 0, none⟩) K K) (W.alloc (.cells ((List.replicate K (0 : UInt8)).map byteV).toArray 5)) := fun W => by
      have := run_makeN (P := Tryd.prog) 22 5 i0 Tryd.underlying22 hi hz0 hz1 hz2 (K : Int) (by omega) (by omega) W
      rw [zeroB_list] at this
      simpa using this
    have hBmax : B ≤ 8000000 := by omega
    have hBint : (B : Int) ≤ 8000000 := by omega
    clear hBl hBu hK
    by_cases hq : 64 < K
    · have q1 : (64 : Int) < (K : Int) := by omega
      go_wp2
      go_ret2
      exact ⟨s, hok1, HS.out, by rw [HA.out, HN.out]; exact hls, fun _ => rfl, fun h => absurd h (by rw [HK.out]; omega), hB4⟩
    · have q1 : ¬ (64 : Int) < (K : Int) := by omega
      have q2 : (K : Int) ≤ 64 := by omega
      have hk5 : Blk (w4.alloc (Obj.cells (Array.replicate K (byteV 0)) 5)) w4.heap.size 5 ((List.replicate K (0 : UInt8)).map byteV) := by
        have := Blk.new w4 ((List.replicate K (0 : UInt8)).map byteV) 5
        simpa using this
      have hB5 := below_alloc1 w4 (Obj.cells (Array.replicate K (byteV 0)) 5)
      go_upto_region 9 with (fail)
      generalize (w4.alloc (Obj.cells (Array.replicate K (byteV 0)) 5)) = W5 at *
      have hB5' : Below w.heap.size w W5 := hB4.trans (Below.mono hB5 hB4.size)
      have hRg := hB4.size
      have hT5 := hT4.frame hB5
      have hs5 := hs4.below hB5
      clear hmk hT4 hs4 hB5 hB4 e0 e1 e2 e3 hlt4
      generalize w4.heap.size = g at *
      obtain ⟨A', W6, hcut, hcp, hk6, hO6⟩ := padCopy g K n cs As s.size W5 hnK hk5 hs5
      have e0 := hT5.1.cell 0
      have e1 := hT5.1.cell 1
      simp at e0 e1
      have hB6 : Below w.heap.size w W6 := Only.below hO6 hB5' hRg hB5'.size
      have sw : IntKind.i64.wrap ((K : Int) - (n : Int)) = (K : Int) - (n : Int) := IntWalk.i64_in _ (by omega)
      clear hk5 hO6 hs5 hT5 hB5'
      have hlen : (List.replicate (K - n) (0 : UInt8) ++ s.size).length = K := by have := HN.out; simp; omega
      have HC : Hid (contB true s.size = (List.replicate (K - n) (0 : UInt8) ++ s.size).map (fun x => 255 - x)) := by unfold Hid contB; rw [HK.out, HN.out]; rfl
      generalize hpp : List.replicate (K - n) (0 : UInt8) ++ s.size = pp at *
      clear hpp
      have hbs6 := hk6.bs
      rw [hlen] at hbs6
      have hKK : K ≤ K := Nat.le_refl _
      go_region_with (fail)
      all_goals
        go_wp2_with fail
        refine (whFlip g K K pp W6.drew hk6 hlen (by omega)).mono ?_
        rintro e w7 ⟨rfl, hk7, hO7⟩
        have hb7 := hk7.bs
        rw [List.length_map, hlen] at hb7
        have hB7 : Below w.heap.size w w7 := Only.below hO7 hB6.drew hRg hB6.drew.size
        clear hk7 hO7
        go_wp2
        go_ret2
        exact ⟨s, hok1, HS.out, by rw [HA.out, HN.out]; exact hls, fun h => absurd h (by rw [HK.out]; omega), fun _ => ⟨some ⟨g, 0, none⟩, K, by rw [HK.out]; rfl, by rw [HD.out, HK.out, HC.out]; exact hb7, by rw [HK.out]; exact Nat.le_refl _⟩, hB7⟩
end Go.Proofs.YtbjiknfebocepaaDoor
