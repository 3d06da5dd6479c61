/-
  The law SpanNorms.
-/
import Derived.Test.YtlmmoinmlcpmnaaSm
namespace Go.Proofs.Ytlmmoinmlcpmnaa
open Go.RowKit
set_option linter.unusedVariables false
set_option linter.unusedSimpArgs false
set_option maxRecDepth 4000

theorem sps_all {P : World → Prop} {A : Option Addr} {n : Nat} {l : List Sp} (h : ∀ W, P W → Sps W A n l) {W0 : World} (h0 : P W0) {k : Nat} (hk : k < n) :
    ∃ b o x y, A = some ⟨b, o, none⟩ ∧ l[k]? = some (x, y) ∧ ∀ W, P W → W.cell? ⟨b, o + k * 2, none⟩ = some (.int .i64 x) ∧ W.cell? ⟨b, o + k * 2 + 1, none⟩ = some (.int .i64 y) := by
  obtain ⟨b, o, x, y, e, hx, _, _⟩ := (h W0 h0).at_ hk
  refine ⟨b, o, x, y, e, hx, fun W hW => ?_⟩
  obtain ⟨b2, o2, x2, y2, e2, hx2, c0, c1⟩ := (h W hW).at_ hk
  rw [e] at e2
  cases e2
  rw [hx] at hx2
  cases hx2
  exact ⟨c0, c1⟩
theorem zs_all {P : World → Prop} {A : Option Addr} {n : Nat} {l : List Int} (h : ∀ W, P W → Zs W A n l) {W0 : World} (h0 : P W0) {k : Nat} (hk : k < n) :
    ∃ b o, A = some ⟨b, o, none⟩ ∧ ∀ W, P W → W.cell? ⟨b, o + k, none⟩ = some (.int .i64 (zth l k)) := by
  obtain ⟨b, o, e, _⟩ := (h W0 h0).at_ hk
  refine ⟨b, o, e, fun W hW => ?_⟩
  obtain ⟨b2, o2, e2, c0⟩ := (h W hW).at_ hk
  rw [e] at e2
  cases e2
  exact c0

set_option maxHeartbeats 12800000 in
theorem lawNorms (A : Option Addr) (n c : Nat) (l : List Sp) (t : Int) (w : World) (h : Sps w A n l) (hl : ∀ s ∈ l, I64s s) (ht : I64 t) :
    Calls Try.prog 6 #[.slice A n c, .int .i64 t] w fun e w' => e = .returned (.bool true) ∧ Below w.heap.size w w' := by
  have KF := Lib.hid (lwFew A n c l w h)
  have HI := Lib.hid hl
  have HT := Lib.hid ht
  have KK := Lib.hid (fun W => known11 W)
  obtain ⟨m, hm⟩ : ∃ m, l.take 40 = m := ⟨_, rfl⟩
  have hm64 : ∀ s ∈ m, I64s s := by rw [← hm]; exact fun s hs => HI.out s (List.mem_of_mem_take hs)
  have hm40 : m.length ≤ 40 := by rw [← hm, List.length_take]; omega
  rw [hm] at KF
  have M64 := Lib.hid hm64
  obtain ⟨N, hN⟩ : ∃ N, m.length = N := ⟨_, rfl⟩
  have HN := Lib.hid hN
  have hN40 : N ≤ 40 := by omega
  clear h hl hm hm64 hm40 hN ht
  have HNS : Hid (∀ x y W, (binOp .neq 31 (.agg #[.int .i64 x, .int .i64 y]) (.agg #[.int .i64 x, .int .i64 y])).run Try.prog W = .ok (.bool false) W) := fun x y W => by go_simp
  have HNR : Hid (∀ x y W, (binOp .neq 30 (.agg #[.int .i64 x, .int .i64 y]) (.agg #[.int .i64 x, .int .i64 y])).run Try.prog W = .ok (.bool false) W) := fun x y W => by go_simp
  have KO := Lib.hid (fun x y W => lwOf x y W)
  obtain ⟨i1, hi1, hz0, hz1, hz2⟩ := info_parts int_info
  go_enter Try.func6, Try.ntmps6
  go_wp2_with fail
  refine KF.out.mono ?_
  rintro e x1 ⟨v1, rfl, ho, hb⟩
  obtain ⟨A1, c1, hv, hle1, hs1⟩ := ho.sps
  rw [HN.out] at hv hs1 hle1
  subst hv
  have B1 := Lib.hid hb
  have SM : Hid (∀ W, Below x1.heap.size x1 W → Sps W A1 N m) := fun W hW => hs1.below hW
  clear ho hb hs1 KF
  go_wp2_with fail
  refine (lwAll A1 N c1 m x1 (SM.out _ (Below.refl _ _)) (by omega)).mono ?_
  rintro e x2 ⟨v2, rfl, ho, hb⟩
  obtain ⟨A2, c2, hv, hle2, hs2⟩ := ho.sps
  rw [HN.out] at hv hs2 hle2
  subst hv
  have B2 := Lib.hid hb
  have S2 := Lib.hid hs2
  clear ho hb hs2
  go_wp2_with fail
  refine (spNorm A1 N c1 m x2 (SM.out _ B2.out) M64.out (by omega)).mono ?_
  rintro e x3 ⟨v3, r, rfl, hr, ho, hb⟩
  obtain ⟨A3, c3, hv3, hle3, hs3⟩ := ho.sps
  have HR := Lib.hid hr
  have hlen : r.length ≤ 40 := by have h1 := hr.2.2.2; have h2 := HN.out; omega
  obtain ⟨R, hR⟩ : ∃ R, r.length = R := ⟨_, rfl⟩
  rw [hR] at hv3 hs3 hle3
  subst hv3
  have hRN : R ≤ 80 := by rw [← hR]; omega
  have HRl := Lib.hid hR
  have B3 := Lib.hid (bstep B2.out hb B2.out.size)
  have SM3 : Hid (∀ W, Below x3.heap.size x3 W → Sps W A1 N m) := fun W hW => SM.out W (bstep B3.out hW B3.out.size)
  have SW3 : Hid (∀ W, Below x3.heap.size x3 W → Sps W A2 N m) := fun W hW => S2.out.below (bstep hb hW hb.size)
  have SN3 : Hid (∀ W, Below x3.heap.size x3 W → Sps W A3 R r) := fun W hW => hs3.below hW
  have B13 := Lib.hid (bstep B1.out B3.out B1.out.size)
  have HO : Hid (Ordp r) := hr.1
  have R64 : Hid (∀ s ∈ r, I64s s) := hr.2.2.1
  clear hr ho hb hs3 SM S2 hR hlen
  have ALN : Hid (∀ W, Below x3.heap.size x3 W → Calls Try.prog 31 #[.slice A3 R c3] W fun e w' => ∃ A' c', e = .returned (.slice A' R c') ∧ Sps w' A' R r ∧ Below W.heap.size W w') := by
    intro W hW
    refine (lwAll A3 R c3 r W (SN3.out W hW) (by omega)).mono ?_
    rintro e w' ⟨v, rfl, ho, hb⟩
    obtain ⟨A', c', rfl, _, hs⟩ := ho.sps
    have hh := HRl.out
    rw [hh] at hs ⊢
    exact ⟨A', c', rfl, hs, hb⟩
  have KD : Hid (∀ A' c' W, Sps W A' R r → Calls Try.prog 35 #[.slice A' R c'] W fun e w' => e = .returned (.bool true) ∧ Below W.heap.size W w') := fun A' c' W hW => rfOrdered A' R c' r W hW HO.out R64.out (by omega)
  go_wp2_with fail
  refine (KK.out _).mono ?_
  rintro e x4 ⟨rfl, hb⟩
  have B4 := Lib.hid hb
  clear hb
  go_wp2_with fail
  refine (ALN.out _ B4.out).mono ?_
  rintro e x5 ⟨A5, c5, rfl, hs, hb⟩
  have S5 := Lib.hid hs
  have B5 := Lib.hid (bstep B4.out hb B4.out.size)
  clear hs hb
  go_wp2_with fail
  refine (KD.out _ _ _ S5.out).mono ?_
  rintro e x6 ⟨rfl, hb⟩
  have B6 := Lib.hid (bstep B5.out hb B5.out.size)
  clear hb S5 KD
  have FA : Hid (∀ z, decide (Anyp r z) = decide (Anyp m z)) := fun z => by rw [decide_eq_decide]; exact HR.out.2.1 z
  have HAg : Hid (∀ r', IsNorm r r' → r' = r) := fun r' h => isNorm_again HR.out h
  clear HR
  go_wp2_with fail
  refine (rfEdges A2 N c2 m _ (SW3.out _ B6.out) M64.out (by omega)).mono ?_
  rintro e x8 ⟨v8, E, rfl, ho, he, hel, hb⟩
  have hsz := hb.size
  have O9 := Lib.hid (ho.alloc (.cells #[.int .i64 t] 3))
  have B8 := Lib.hid (bstep B6.out hb B6.out.size)
  have B9 := Lib.hid (B8.out.alloc B8.out.size (.cells #[.int .i64 t] 3))
  have HEL := Lib.hid hel
  have VN : Hid (Vs (x8.alloc (.cells #[.int .i64 t] 3)) (some ⟨x8.heap.size, 0, none⟩) 1 ([t].map intV)) := Vs.newF x8 ([t].map intV) _ _
  clear ho he hel hb
  go_wp2_with (at_builtin; refine wpList_appendV rfl _ _ 22 rfl x6.heap.size 3 i1 (.int .i64 0) Try.underlying22 hi1 hz0 hz1 (by omega) rfl _ (E.map intV) rfl O9.out _ 1 1 ([t].map intV) rfl VN.out (ints_one _) ?ab1 ?ab2 ?_)
  case ab1 => have := HEL.out; simp; omega
  case ab2 => simp; omega
  intro v9 x9 hov hgr _ hvv
  have B10 := Lib.hid (B9.out.grown hgr B9.out.size (fun q hq => Nat.le_trans B6.out.size (Ov.lt O9.out q hq).1))
  obtain ⟨A8, c8, hv8, hle8, hvs8⟩ := Ov.slice hov
  subst hv8
  obtain ⟨G, hG⟩ : ∃ G, E ++ [t] = G := ⟨_, rfl⟩
  have hT0 : G.length ≤ 1000 := by rw [← hG]; have := HEL.out; simp; omega
  have hG2 : List.map intV E ++ [intV t] = G.map intV := by rw [← hG]; simp
  rw [hG2] at hvs8 hle8 ⊢
  obtain ⟨T, hT⟩ : ∃ T, (G.map intV).length = T := ⟨_, rfl⟩
  rw [hT] at hvs8 hle8 ⊢
  have hT1 : T ≤ 1000 := by rw [← hT, List.length_map]; exact hT0
  have SG : Hid (∀ W, Below x9.heap.size x9 W → Zs W A8 T G) := fun W hW => Zs.below hvs8 hW
  have LB : Hid (∀ W, Below x9.heap.size x9 W → Below x3.heap.size x3 W) := fun W hW => bstep B10.out hW B10.out.size
  clear hov hgr hvv hvs8 hG hG2 hT hT0 O9 VN B4 B5 B6 B8 B9 B10 HEL hsz
  go_wp2
  go_loopw [9] (fun i wr => ∃ k : Nat, k ≤ T ∧ i = .int .i64 (k : Int) ∧ Below x9.heap.size x9 wr) (fun i _ => T - (intOf i).toNat)
  case atStart => exact ⟨0, Nat.zero_le _, rfl, Below.refl _ _⟩
  case round =>
    obtain ⟨k, hk, rfl, hb⟩ := hrel
    have KB := Lib.hid hb
    clear hb
    by_cases hlt : k < T
    · obtain ⟨b1, o1, rfl, hc⟩ := zs_all SG.out KB.out hlt
      have SC := Lib.hid hc
      have c0 := SC.out _ KB.out
      have e1 : (k : Int) < (T : Int) := by omega
      have e0 : (0 : Int) ≤ (k : Int) := by omega
      clear hc
      obtain ⟨z, hz⟩ : ∃ z, zth G k = z := ⟨_, rfl⟩
      rw [hz] at SC c0
      clear hz
      have KA : Hid (∀ W, Below x9.heap.size x9 W → Calls Try.prog 33 #[.slice A2 N c2, .int .i64 z] W fun e w' => e = .returned (.bool (decide (Anyp m z))) ∧ Below W.heap.size W w') := fun W hW => rfAny A2 N c2 m z W (SW3.out W (LB.out W hW)) (by omega)
      have KR : Hid (∀ A' c' W, Sps W A' R r → Calls Try.prog 33 #[.slice A' R c', .int .i64 z] W fun e w' => e = .returned (.bool (decide (Anyp m z))) ∧ Below W.heap.size W w') := by
        intro A' c' W hW
        have h := rfAny A' R c' r z W hW (by omega)
        rw [FA.out z] at h
        exact h
      have KH : Hid (∀ W, Below x9.heap.size x9 W → Calls Try.prog 37 #[.slice A1 N c1, .int .i64 z] W fun e w' => e = .returned (.bool (decide (Anyp m z))) ∧ Below W.heap.size W w') := fun W hW => spHolds A1 N c1 m z W (SM3.out W (LB.out W hW)) (by omega)
      generalize decide (Anyp m z) = b at *
      have hbb : (b == b) = true := by simp
      go_wp2_with fail
      refine (KA.out _ KB.out).mono ?_
      rintro e y1 ⟨rfl, hb⟩
      have K1 := Lib.hid (bstep KB.out hb KB.out.size)
      clear hb c0
      go_upto_region 11 with (fail)
      refine wp_region_held_drew (S := fun W => W.cell? ⟨b1, o1 + k, none⟩ = some (.int .i64 z)) (by kernel_rfl) ?hb0 (fun hHeld => ?_)
      case hb0 => (try dsimp only); exact SC.out _ (Below.drew K1.out)
      refine wpAnyH_take (i := 0) (v := ?qv0m) rfl (by kernel_rfl) (by kernel_rfl) (by kernel_rfl) (fun _ _ _ h => h) (Or.inl ⟨by kernel_rfl, ?qy0m⟩) (by assumption) ?_
      case qy0m => (intro w hSw; (try dsimp only at hSw); go_simp) <;> (try with_reducible rfl)
      try simp only [Act.put, List.setIfInBounds_toArray, List.set_cons_zero, List.set_cons_succ, List.getElem_toArray, List.getElem_cons_succ, List.getElem_cons_zero]
      refine wpAnyH_take (i := 2) (v := ?qv2m) rfl (by kernel_rfl) (by kernel_rfl) (by kernel_rfl) (fun _ _ _ h => h) (Or.inl ⟨by kernel_rfl, ?qy2m⟩) (by assumption) ?_
      case qy2m => (intro w hSw; (try dsimp only at hSw); go_simp) <;> (try with_reducible rfl)
      try simp only [Act.put, List.setIfInBounds_toArray, List.set_cons_zero, List.set_cons_succ, List.getElem_toArray, List.getElem_cons_succ, List.getElem_cons_zero]
      refine wpAnyH_take (i := 3) (v := ?qv3m) rfl (by kernel_rfl) (by kernel_rfl) (by kernel_rfl) (fun _ _ _ h => h) (Or.inl ⟨by kernel_rfl, ?qy3m⟩) (by assumption) ?_
      case qy3m => (intro w hSw; (try dsimp only at hSw); go_simp) <;> (try with_reducible rfl)
      try simp only [Act.put, List.setIfInBounds_toArray, List.set_cons_zero, List.set_cons_succ, List.getElem_toArray, List.getElem_cons_succ, List.getElem_cons_zero]
      refine wpAnyH_take (i := 4) (v := ?qv4m) rfl (by kernel_rfl) (by kernel_rfl) (by kernel_rfl) (fun _ _ _ h => h) (Or.inl ⟨by kernel_rfl, ?qy4m⟩) (by assumption) ?_
      case qy4m => (intro w hSw; (try dsimp only at hSw); go_simp) <;> (try with_reducible rfl)
      try simp only [Act.put, List.setIfInBounds_toArray, List.set_cons_zero, List.set_cons_succ, List.getElem_toArray, List.getElem_cons_succ, List.getElem_cons_zero]
      refine wpAnyH_take (i := 5) (v := ?qv5m) rfl (by kernel_rfl) (by kernel_rfl) (by kernel_rfl) (fun _ _ _ h => h) (Or.inl ⟨by kernel_rfl, ?qy5m⟩) (by assumption) ?_
      case qy5m => (intro w hSw; (try dsimp only at hSw); go_simp) <;> (try with_reducible rfl)
      try simp only [Act.put, List.setIfInBounds_toArray, List.set_cons_zero, List.set_cons_succ, List.getElem_toArray, List.getElem_cons_succ, List.getElem_cons_zero]
      refine wpAnyH_take (i := 7) (v := ?qv7m) rfl (by kernel_rfl) (by kernel_rfl) (by kernel_rfl) (fun _ _ _ h => h) (Or.inl ⟨by kernel_rfl, ?qy7m⟩) (by assumption) ?_
      case qy7m => (intro w hSw; (try dsimp only at hSw); go_simp) <;> (try with_reducible rfl)
      try simp only [Act.put, List.setIfInBounds_toArray, List.set_cons_zero, List.set_cons_succ, List.getElem_toArray, List.getElem_cons_succ, List.getElem_cons_zero]
      refine wpAnyH_ready (rs := [1]) (by kernel_rfl) (by simp) ?_
      refine AllReadyH.cons rfl (fun K hK => ?_) AllReadyH.nil
      go_simp
      refine (ALN.out _ (LB.out _ (Below.drew K1.out))).mono ?_
      rintro e y2 ⟨Aq, cq, rfl, hs, hy⟩
      have S2 := Lib.hid hs
      have K2 := Lib.hid (bstep (Below.drew K1.out) hy ((Below.drew K1.out)).size)
      clear hy hs
      go_wp2_with fail
      refine hK.out _ _ ?hs1ma (fun hHeld => ?_)
      case hs1ma => (try dsimp only); exact SC.out _ K2.out
      clear hK K
      try simp only [Act.put, List.setIfInBounds_toArray, List.set_cons_zero, List.set_cons_succ, List.getElem_toArray, List.getElem_cons_succ, List.getElem_cons_zero]
      refine wpAnyH_ready (rs := [6]) (by kernel_rfl) (by simp) ?_
      refine AllReadyH.cons rfl (fun K hK => ?_) AllReadyH.nil
      go_simp
      refine (KR.out _ _ _ S2.out).mono ?_
      rintro e y3 ⟨rfl, hy⟩
      have K3 := Lib.hid (bstep K2.out hy (K2.out).size)
      clear hy
      go_wp2_with fail
      refine hK.out _ _ ?hs6ma (fun hHeld => ?_)
      case hs6ma => (try dsimp only); exact SC.out _ K3.out
      clear hK K
      try simp only [Act.put, List.setIfInBounds_toArray, List.set_cons_zero, List.set_cons_succ, List.getElem_toArray, List.getElem_cons_succ, List.getElem_cons_zero]
      refine wpAnyH_take (i := 8) (v := ?qv8m) rfl (by kernel_rfl) (by kernel_rfl) (by kernel_rfl) (fun _ _ _ h => h) (Or.inl ⟨by kernel_rfl, ?qy8m⟩) (by assumption) ?_
      case qy8m => (intro w hSw; (try dsimp only at hSw); go_simp) <;> (try with_reducible rfl)
      try simp only [Act.put, List.setIfInBounds_toArray, List.set_cons_zero, List.set_cons_succ, List.getElem_toArray, List.getElem_cons_succ, List.getElem_cons_zero]
      refine wpAnyH_take (i := 9) (v := ?qv9m) rfl (by kernel_rfl) (by kernel_rfl) (by kernel_rfl) (fun _ _ _ h => h) (Or.inl ⟨by kernel_rfl, ?qy9m⟩) (by assumption) ?_
      case qy9m => (intro w hSw; (try dsimp only at hSw); go_simp) <;> (try with_reducible rfl)
      try simp only [Act.put, List.setIfInBounds_toArray, List.set_cons_zero, List.set_cons_succ, List.getElem_toArray, List.getElem_cons_succ, List.getElem_cons_zero]
      refine wpAnyH_take (i := 10) (v := ?qv10m) rfl (by kernel_rfl) (by kernel_rfl) (by kernel_rfl) (fun _ _ _ h => h) (Or.inl ⟨by kernel_rfl, ?qy10m⟩) (by assumption) ?_
      case qy10m => (intro w hSw; (try dsimp only at hSw); go_simp) <;> (try with_reducible rfl)
      try simp only [Act.put, List.setIfInBounds_toArray, List.set_cons_zero, List.set_cons_succ, List.getElem_toArray, List.getElem_cons_succ, List.getElem_cons_zero]
      refine wpAnyH_take (i := 11) (v := ?qv11m) rfl (by kernel_rfl) (by kernel_rfl) (by kernel_rfl) (fun _ _ _ h => h) (Or.inl ⟨by kernel_rfl, ?qy11m⟩) (by assumption) ?_
      case qy11m => (intro w hSw; (try dsimp only at hSw); go_simp) <;> (try with_reducible rfl)
      try simp only [Act.put, List.setIfInBounds_toArray, List.set_cons_zero, List.set_cons_succ, List.getElem_toArray, List.getElem_cons_succ, List.getElem_cons_zero]
      refine wpAnyH_take (i := 12) (v := ?qv12m) rfl (by kernel_rfl) (by kernel_rfl) (by kernel_rfl) (fun _ _ _ h => h) (Or.inl ⟨by kernel_rfl, ?qy12m⟩) (by assumption) ?_
      case qy12m => (intro w hSw; (try dsimp only at hSw); go_simp) <;> (try with_reducible rfl)
      try simp only [Act.put, List.setIfInBounds_toArray, List.set_cons_zero, List.set_cons_succ, List.getElem_toArray, List.getElem_cons_succ, List.getElem_cons_zero]
      refine wpAnyH_take (i := 13) (v := ?qv13m) rfl (by kernel_rfl) (by kernel_rfl) (by kernel_rfl) (fun _ _ _ h => h) (Or.inl ⟨by kernel_rfl, ?qy13m⟩) (by assumption) ?_
      case qy13m => (intro w hSw; (try dsimp only at hSw); go_simp) <;> (try with_reducible rfl)
      try simp only [Act.put, List.setIfInBounds_toArray, List.set_cons_zero, List.set_cons_succ, List.getElem_toArray, List.getElem_cons_succ, List.getElem_cons_zero]
      refine wpAnyH_take (i := 14) (v := ?qv14m) rfl (by kernel_rfl) (by kernel_rfl) (by kernel_rfl) (fun _ _ _ h => h) (Or.inl ⟨by kernel_rfl, ?qy14m⟩) (by assumption) ?_
      case qy14m => (intro w hSw; (try dsimp only at hSw); go_simp) <;> (try with_reducible rfl)
      try simp only [Act.put, List.setIfInBounds_toArray, List.set_cons_zero, List.set_cons_succ, List.getElem_toArray, List.getElem_cons_succ, List.getElem_cons_zero]
      refine wpAnyH_take (i := 16) (v := ?qv16m) rfl (by kernel_rfl) (by kernel_rfl) (by kernel_rfl) (fun _ _ _ h => h) (Or.inl ⟨by kernel_rfl, ?qy16m⟩) (by assumption) ?_
      case qy16m => (intro w hSw; (try dsimp only at hSw); go_simp) <;> (try with_reducible rfl)
      try simp only [Act.put, List.setIfInBounds_toArray, List.set_cons_zero, List.set_cons_succ, List.getElem_toArray, List.getElem_cons_succ, List.getElem_cons_zero]
      refine wpAnyH_ready (rs := [15]) (by kernel_rfl) (by simp) ?_
      refine AllReadyH.cons rfl (fun K hK => ?_) AllReadyH.nil
      go_simp
      refine (KH.out _ K3.out).mono ?_
      rintro e y4 ⟨rfl, hy⟩
      have K4 := Lib.hid (bstep K3.out hy (K3.out).size)
      clear hy
      go_wp2_with fail
      refine hK.out _ _ ?hs15ma (fun hHeld => ?_)
      case hs15ma => (try dsimp only); exact SC.out _ K4.out
      clear hK K
      try simp only [Act.put, List.setIfInBounds_toArray, List.set_cons_zero, List.set_cons_succ, List.getElem_toArray, List.getElem_cons_succ, List.getElem_cons_zero]
      refine wpAnyH_take (i := 17) (v := ?qv17m) rfl (by kernel_rfl) (by kernel_rfl) (by kernel_rfl) (fun _ _ _ h => h) (Or.inl ⟨by kernel_rfl, ?qy17m⟩) (by assumption) ?_
      case qy17m => (intro w hSw; (try dsimp only at hSw); go_simp) <;> (try with_reducible rfl)
      try simp only [Act.put, List.setIfInBounds_toArray, List.set_cons_zero, List.set_cons_succ, List.getElem_toArray, List.getElem_cons_succ, List.getElem_cons_zero]
      refine wpAnyH_take (i := 18) (v := ?qv18m) rfl (by kernel_rfl) (by kernel_rfl) (by kernel_rfl) (fun _ _ _ h => h) (Or.inl ⟨by kernel_rfl, ?qy18m⟩) (by assumption) ?_
      case qy18m => (intro w hSw; (try dsimp only at hSw); go_simp) <;> (try with_reducible rfl)
      try simp only [Act.put, List.setIfInBounds_toArray, List.set_cons_zero, List.set_cons_succ, List.getElem_toArray, List.getElem_cons_succ, List.getElem_cons_zero]
      refine wpAnyH_done (by kernel_rfl) ?_ _
      go_wp2
      go_roundw
      case rel => exact ⟨k + 1, by omega, by go_num, K4.out⟩
      case measure => simp [intOf]; omega
    · have e1 : ¬ (k : Int) < (T : Int) := by omega
      have KN := Lib.hid (spNorm A3 R c3 r wr (SN3.out _ (LB.out _ KB.out)) R64.out (by omega))
      go_wp2_with fail
      refine KN.out.mono ?_
      rintro e y1 ⟨v9, r', rfl, hr', ho, hb⟩
      rw [HAg.out r' hr'] at ho
      obtain ⟨A9, c9, hv9, hle9, hs9⟩ := ho.sps
      rw [HRl.out] at hv9 hs9 hle9
      subst hv9
      have BY := Lib.hid (bstep (LB.out _ KB.out) hb (LB.out _ KB.out).size)
      have SB : Hid (∀ W, Below y1.heap.size y1 W → Sps W A9 R r) := fun W hW => hs9.below hW
      have SNB : Hid (∀ W, Below y1.heap.size y1 W → Sps W A3 R r) := fun W hW => SN3.out W (bstep BY.out hW BY.out.size)
      have SMB : Hid (∀ W, Below y1.heap.size y1 W → Sps W A1 N m) := fun W hW => SM3.out W (bstep BY.out hW BY.out.size)
      have SWB : Hid (∀ W, Below y1.heap.size y1 W → Sps W A2 N m) := fun W hW => SW3.out W (bstep BY.out hW BY.out.size)
      have LBW : Hid (∀ W, Below y1.heap.size y1 W → Below w.heap.size w W) := fun W hW => bstep B13.out (bstep BY.out hW BY.out.size) B13.out.size
      clear hr' ho hb hs9 KB e1 hlt hk
      go_wp2
      go_loopw [12] (fun i wr => ∃ k : Nat, k ≤ R ∧ i = .int .i64 (k : Int) ∧ Below y1.heap.size y1 wr) (fun i _ => R - (intOf i).toNat)
      case atStart => exact ⟨0, Nat.zero_le _, rfl, Below.refl _ _⟩
      case round =>
        obtain ⟨k, hk, rfl, hb⟩ := hrel
        have KB := Lib.hid hb
        clear hb
        by_cases hlt : k < R
        · have e1 : (k : Int) < (R : Int) := by omega
          have e0 : (0 : Int) ≤ (k : Int) := by omega
          obtain ⟨b1, o1, x, y, rfl, hx, hc⟩ := sps_all SB.out KB.out hlt
          obtain ⟨b2, o2, x2, y2, rfl, hx2, hd⟩ := sps_all SNB.out KB.out hlt
          rw [hx] at hx2
          cases hx2
          have SC : Hid (∀ W, Below y1.heap.size y1 W → (W.cell? ⟨b1, o1 + k * 2, none⟩ = some (.int .i64 x) ∧ W.cell? ⟨b1, o1 + k * 2 + 1, none⟩ = some (.int .i64 y)) ∧ (W.cell? ⟨b2, o2 + k * 2, none⟩ = some (.int .i64 x) ∧ W.cell? ⟨b2, o2 + k * 2 + 1, none⟩ = some (.int .i64 y))) := fun W hW => ⟨hc W hW, hd W hW⟩
          clear hc hd hx
          have hq := HNS.out x y
          go_upto_region 19 with (fail)
          refine wp_region_held_drew (S := fun W => (W.cell? ⟨b1, o1 + k * 2, none⟩ = some (.int .i64 x) ∧ W.cell? ⟨b1, o1 + k * 2 + 1, none⟩ = some (.int .i64 y)) ∧ (W.cell? ⟨b2, o2 + k * 2, none⟩ = some (.int .i64 x) ∧ W.cell? ⟨b2, o2 + k * 2 + 1, none⟩ = some (.int .i64 y))) (by kernel_rfl) ?hb0 (fun hHeld => ?_)
          case hb0 => (try dsimp only); exact SC.out _ (Below.drew KB.out)
          refine wpAnyH_take (i := 0) (v := ?qv0n) rfl (by kernel_rfl) (by kernel_rfl) (by kernel_rfl) (fun _ _ _ h => h) (Or.inl ⟨by kernel_rfl, ?qy0n⟩) (by assumption) ?_
          case qy0n => (intro w hSw; (try dsimp only at hSw); go_simp) <;> (try with_reducible rfl)
          try simp only [Act.put, List.setIfInBounds_toArray, List.set_cons_zero, List.set_cons_succ, List.getElem_toArray, List.getElem_cons_succ, List.getElem_cons_zero]
          refine wpAnyH_take (i := 1) (v := ?qv1n) rfl (by kernel_rfl) (by kernel_rfl) (by kernel_rfl) (fun _ _ _ h => h) (Or.inl ⟨by kernel_rfl, ?qy1n⟩) (by assumption) ?_
          case qy1n => (intro w hSw; (try dsimp only at hSw); go_simp) <;> (try with_reducible rfl)
          try simp only [Act.put, List.setIfInBounds_toArray, List.set_cons_zero, List.set_cons_succ, List.getElem_toArray, List.getElem_cons_succ, List.getElem_cons_zero]
          refine wpAnyH_take (i := 2) (v := ?qv2n) rfl (by kernel_rfl) (by kernel_rfl) (by kernel_rfl) (fun _ _ _ h => h) (Or.inl ⟨by kernel_rfl, ?qy2n⟩) (by assumption) ?_
          case qy2n => (intro w hSw; (try dsimp only at hSw); go_simp) <;> (try with_reducible rfl)
          try simp only [Act.put, List.setIfInBounds_toArray, List.set_cons_zero, List.set_cons_succ, List.getElem_toArray, List.getElem_cons_succ, List.getElem_cons_zero]
          refine wpAnyH_take (i := 3) (v := ?qv3n) rfl (by kernel_rfl) (by kernel_rfl) (by kernel_rfl) (fun _ _ _ h => h) (Or.inl ⟨by kernel_rfl, ?qy3n⟩) (by assumption) ?_
          case qy3n => (intro w hSw; (try dsimp only at hSw); go_simp) <;> (try with_reducible rfl)
          try simp only [Act.put, List.setIfInBounds_toArray, List.set_cons_zero, List.set_cons_succ, List.getElem_toArray, List.getElem_cons_succ, List.getElem_cons_zero]
          refine wpAnyH_take (i := 4) (v := ?qv4n) rfl (by kernel_rfl) (by kernel_rfl) (by kernel_rfl) (fun _ _ _ h => h) (Or.inl ⟨by kernel_rfl, ?qy4n⟩) (by assumption) ?_
          case qy4n => (intro w hSw; (try dsimp only at hSw); go_simp) <;> (try with_reducible rfl)
          try simp only [Act.put, List.setIfInBounds_toArray, List.set_cons_zero, List.set_cons_succ, List.getElem_toArray, List.getElem_cons_succ, List.getElem_cons_zero]
          refine wpAnyH_take (i := 5) (v := ?qv5n) rfl (by kernel_rfl) (by kernel_rfl) (by kernel_rfl) (fun _ _ _ h => h) (Or.inl ⟨by kernel_rfl, ?qy5n⟩) (by assumption) ?_
          case qy5n => (intro w hSw; (try dsimp only at hSw); go_simp) <;> (try with_reducible rfl)
          try simp only [Act.put, List.setIfInBounds_toArray, List.set_cons_zero, List.set_cons_succ, List.getElem_toArray, List.getElem_cons_succ, List.getElem_cons_zero]
          refine wpAnyH_take (i := 6) (v := ?qv6n) rfl (by kernel_rfl) (by kernel_rfl) (by kernel_rfl) (fun _ _ _ h => h) (Or.inl ⟨by kernel_rfl, ?qy6n⟩) (by assumption) ?_
          case qy6n => (intro w hSw; (try dsimp only at hSw); go_simp) <;> (try with_reducible rfl)
          try simp only [Act.put, List.setIfInBounds_toArray, List.set_cons_zero, List.set_cons_succ, List.getElem_toArray, List.getElem_cons_succ, List.getElem_cons_zero]
          refine wpAnyH_take (i := 7) (v := ?qv7n) rfl (by kernel_rfl) (by kernel_rfl) (by kernel_rfl) (fun _ _ _ h => h) (Or.inl ⟨by kernel_rfl, ?qy7n⟩) (by assumption) ?_
          case qy7n => (intro w hSw; (try dsimp only at hSw); go_simp) <;> (try with_reducible rfl)
          try simp only [Act.put, List.setIfInBounds_toArray, List.set_cons_zero, List.set_cons_succ, List.getElem_toArray, List.getElem_cons_succ, List.getElem_cons_zero]
          refine wpAnyH_take (i := 8) (v := ?qv8n) rfl (by kernel_rfl) (by kernel_rfl) (by kernel_rfl) (fun _ _ _ h => h) (Or.inl ⟨by kernel_rfl, ?qy8n⟩) (by assumption) ?_
          case qy8n => (intro w hSw; (try dsimp only at hSw); go_simp) <;> (try with_reducible rfl)
          try simp only [Act.put, List.setIfInBounds_toArray, List.set_cons_zero, List.set_cons_succ, List.getElem_toArray, List.getElem_cons_succ, List.getElem_cons_zero]
          refine wpAnyH_done (by kernel_rfl) ?_ _
          go_wp2
          go_roundw
          case rel => exact ⟨k + 1, by omega, by go_num, (Below.drew KB.out)⟩
          case measure => simp [intOf]; omega
        · have e1 : ¬ (k : Int) < (R : Int) := by omega
          go_wp2
          go_loopw [13] (fun i wr => ∃ k : Nat, k ≤ N ∧ i = .int .i64 (k : Int) ∧ Below y1.heap.size y1 wr) (fun i _ => N - (intOf i).toNat)
          case atStart => exact ⟨0, Nat.zero_le _, rfl, KB.out⟩
          case round =>
            obtain ⟨k, hk, rfl, hb⟩ := hrel
            have KB := Lib.hid hb
            clear hb
            by_cases hlt : k < N
            · have e1 : (k : Int) < (N : Int) := by omega
              have e0 : (0 : Int) ≤ (k : Int) := by omega
              obtain ⟨b1, o1, x, y, rfl, hx, hc⟩ := sps_all SMB.out KB.out hlt
              obtain ⟨b2, o2, x2, y2, rfl, hx2, hd⟩ := sps_all SWB.out KB.out hlt
              rw [hx] at hx2
              cases hx2
              have SC : Hid (∀ W, Below y1.heap.size y1 W → (W.cell? ⟨b1, o1 + k * 2, none⟩ = some (.int .i64 x) ∧ W.cell? ⟨b1, o1 + k * 2 + 1, none⟩ = some (.int .i64 y)) ∧ (W.cell? ⟨b2, o2 + k * 2, none⟩ = some (.int .i64 x) ∧ W.cell? ⟨b2, o2 + k * 2 + 1, none⟩ = some (.int .i64 y))) := fun W hW => ⟨hc W hW, hd W hW⟩
              clear hc hd hx
              have hq := HNR.out x y
              go_upto_region 24 with (fail)
              refine wp_region_held_drew (S := fun W => (W.cell? ⟨b1, o1 + k * 2, none⟩ = some (.int .i64 x) ∧ W.cell? ⟨b1, o1 + k * 2 + 1, none⟩ = some (.int .i64 y)) ∧ (W.cell? ⟨b2, o2 + k * 2, none⟩ = some (.int .i64 x) ∧ W.cell? ⟨b2, o2 + k * 2 + 1, none⟩ = some (.int .i64 y))) (by kernel_rfl) ?hb0 (fun hHeld => ?_)
              case hb0 => (try dsimp only); exact SC.out _ (Below.drew KB.out)
              refine wpAnyH_take (i := 0) (v := ?qv0l) rfl (by kernel_rfl) (by kernel_rfl) (by kernel_rfl) (fun _ _ _ h => h) (Or.inl ⟨by kernel_rfl, ?qy0l⟩) (by assumption) ?_
              case qy0l => (intro w hSw; (try dsimp only at hSw); go_simp) <;> (try with_reducible rfl)
              try simp only [Act.put, List.setIfInBounds_toArray, List.set_cons_zero, List.set_cons_succ, List.getElem_toArray, List.getElem_cons_succ, List.getElem_cons_zero]
              refine wpAnyH_take (i := 1) (v := ?qv1l) rfl (by kernel_rfl) (by kernel_rfl) (by kernel_rfl) (fun _ _ _ h => h) (Or.inl ⟨by kernel_rfl, ?qy1l⟩) (by assumption) ?_
              case qy1l => (intro w hSw; (try dsimp only at hSw); go_simp) <;> (try with_reducible rfl)
              try simp only [Act.put, List.setIfInBounds_toArray, List.set_cons_zero, List.set_cons_succ, List.getElem_toArray, List.getElem_cons_succ, List.getElem_cons_zero]
              refine wpAnyH_take (i := 2) (v := ?qv2l) rfl (by kernel_rfl) (by kernel_rfl) (by kernel_rfl) (fun _ _ _ h => h) (Or.inl ⟨by kernel_rfl, ?qy2l⟩) (by assumption) ?_
              case qy2l => (intro w hSw; (try dsimp only at hSw); go_simp) <;> (try with_reducible rfl)
              try simp only [Act.put, List.setIfInBounds_toArray, List.set_cons_zero, List.set_cons_succ, List.getElem_toArray, List.getElem_cons_succ, List.getElem_cons_zero]
              refine wpAnyH_take (i := 3) (v := ?qv3l) rfl (by kernel_rfl) (by kernel_rfl) (by kernel_rfl) (fun _ _ _ h => h) (Or.inl ⟨by kernel_rfl, ?qy3l⟩) (by assumption) ?_
              case qy3l => (intro w hSw; (try dsimp only at hSw); go_simp) <;> (try with_reducible rfl)
              try simp only [Act.put, List.setIfInBounds_toArray, List.set_cons_zero, List.set_cons_succ, List.getElem_toArray, List.getElem_cons_succ, List.getElem_cons_zero]
              refine wpAnyH_take (i := 5) (v := ?qv5l) rfl (by kernel_rfl) (by kernel_rfl) (by kernel_rfl) (fun _ _ _ h => h) (Or.inl ⟨by kernel_rfl, ?qy5l⟩) (by assumption) ?_
              case qy5l => (intro w hSw; (try dsimp only at hSw); go_simp) <;> (try with_reducible rfl)
              try simp only [Act.put, List.setIfInBounds_toArray, List.set_cons_zero, List.set_cons_succ, List.getElem_toArray, List.getElem_cons_succ, List.getElem_cons_zero]
              refine wpAnyH_take (i := 6) (v := ?qv6l) rfl (by kernel_rfl) (by kernel_rfl) (by kernel_rfl) (fun _ _ _ h => h) (Or.inl ⟨by kernel_rfl, ?qy6l⟩) (by assumption) ?_
              case qy6l => (intro w hSw; (try dsimp only at hSw); go_simp) <;> (try with_reducible rfl)
              try simp only [Act.put, List.setIfInBounds_toArray, List.set_cons_zero, List.set_cons_succ, List.getElem_toArray, List.getElem_cons_succ, List.getElem_cons_zero]
              refine wpAnyH_take (i := 7) (v := ?qv7l) rfl (by kernel_rfl) (by kernel_rfl) (by kernel_rfl) (fun _ _ _ h => h) (Or.inl ⟨by kernel_rfl, ?qy7l⟩) (by assumption) ?_
              case qy7l => (intro w hSw; (try dsimp only at hSw); go_simp) <;> (try with_reducible rfl)
              try simp only [Act.put, List.setIfInBounds_toArray, List.set_cons_zero, List.set_cons_succ, List.getElem_toArray, List.getElem_cons_succ, List.getElem_cons_zero]
              refine wpAnyH_take (i := 8) (v := ?qv8l) rfl (by kernel_rfl) (by kernel_rfl) (by kernel_rfl) (fun _ _ _ h => h) (Or.inl ⟨by kernel_rfl, ?qy8l⟩) (by assumption) ?_
              case qy8l => (intro w hSw; (try dsimp only at hSw); go_simp) <;> (try with_reducible rfl)
              try simp only [Act.put, List.setIfInBounds_toArray, List.set_cons_zero, List.set_cons_succ, List.getElem_toArray, List.getElem_cons_succ, List.getElem_cons_zero]
              refine wpAnyH_ready (rs := [4]) (by kernel_rfl) (by simp) ?_
              refine AllReadyH.cons rfl (fun K hK => ?_) AllReadyH.nil
              go_simp
              refine (KO.out _ _ _).mono ?_
              rintro e z1 ⟨rfl, hy⟩
              have K1 := Lib.hid (bstep (Below.drew KB.out) hy ((Below.drew KB.out)).size)
              clear hy
              go_wp2_with fail
              refine hK.out _ _ ?hs4la (fun hHeld => ?_)
              case hs4la => (try dsimp only); exact SC.out _ K1.out
              clear hK K
              try simp only [Act.put, List.setIfInBounds_toArray, List.set_cons_zero, List.set_cons_succ, List.getElem_toArray, List.getElem_cons_succ, List.getElem_cons_zero]
              refine wpAnyH_take (i := 9) (v := ?qv9l) rfl (by kernel_rfl) (by kernel_rfl) (by kernel_rfl) (fun _ _ _ h => h) (Or.inl ⟨by kernel_rfl, ?qy9l⟩) (by assumption) ?_
              case qy9l => (intro w hSw; (try dsimp only at hSw); go_simp) <;> (try with_reducible rfl)
              try simp only [Act.put, List.setIfInBounds_toArray, List.set_cons_zero, List.set_cons_succ, List.getElem_toArray, List.getElem_cons_succ, List.getElem_cons_zero]
              refine wpAnyH_done (by kernel_rfl) ?_ _
              go_wp2
              go_roundw
              case rel => exact ⟨k + 1, by omega, by go_num, K1.out⟩
              case measure => simp [intOf]; omega
            · have e1 : ¬ (k : Int) < (N : Int) := by omega
              go_wp2
              go_ret
              exact ⟨rfl, LBW.out _ KB.out⟩
end Go.Proofs.Ytlmmoinmlcpmnaa
